import PyProof.Rows.All
import Wide.All
import OpenK.AllK
import Wide.FinOn
import Lean
import PyProof.EqAt
import PyProof.EqKinds
import PyProof.TupleCall
import PyProof.NeKinds
import PyProof.EnumStmt
import PyProof.EnumMake
import PyProof.EnumFor
import PyProof.ListMulRoad
import PyProof.CompFree
import PyProof.CompMap
import PyProof.Rows.SortWalk
import PyProof.Rows.MinMaxN
import PyProof.Rows.SeqMore2
import PyProof.Rows.SetFrom
import KE.KDictList
import PyProof.SumWalk
import PyProof.WalksMore
import PyProof.TupleIter
import PyProof.ListRange
import KE.KDictSum
import PyProof.AutoListH
import PyProof.FactsAll.list_3
import PyProof.MinMaxWalk
import PyProof.WalkInts
import KE.KMinBuiltin
import PyProof.Rows.CallKwBuiltin
import PyProof.ZipIter
import KE.KItemsList
import PyProof.DictWalks
import PyProof.FactsAll.dict_4
import PyProof.ConsumeWalk
import KE.KRevSl
import KE.KDictOf
import PyProof.Cells
import OpenK.KLine
import PyProof.IsRules
import PyProof.TupleKey
import PyProof.PureInt
import PyProof.EqAt
import PyProof.FactsAll.list
import PyProof.FactsAll.tuple
import PyProof.Rows.IntRules
import PyProof.Walks
import PyProof.AttrMissHeap
import PyProof.DictUpdate
import PyProof.FactsAll.dict_3
import PyProof.DictFindH
import KE.KNestM
import KE.KLam
import PySem.Challenge.RW_slanttiles_k11_values_of_terms
set_option Elab.async false
set_option linter.all false
set_option maxRecDepth 100000
namespace L2
open PySem PySem.Spec PyProof.Rows
abbrev Key := Sum Int Str
def keyIs : Key → Value → Bool
  | .inl k, v => Value.isInt k v
  | .inr x, v => Value.isStrOf x v
def keyH (w : World) : Key → Int
  | .inl k => hashInt k
  | .inr x => hashStr w x
theorem keyIs_shape : ∀ {k : Key} {v : Value}, keyIs k v = true → (∃ i t, k = Sum.inl i ∧ v = Value.int i t) ∨ (∃ x t, k = Sum.inr x ∧ v = Value.str x t)
  | .inl i, v, h => by
    obtain ⟨t, e⟩ := Value.isInt_shape (k := i) (v := v) h
    exact .inl ⟨i, t, rfl, e⟩
  | .inr x, v, h => by
    obtain ⟨t, e⟩ := Value.isStrOf_shape (x := x) (v := v) h
    exact .inr ⟨x, t, rfl, e⟩
theorem keyIs_int (i : Int) (t : Tok) : keyIs (.inl i) (.int i t) = true := by simp [keyIs, Value.isInt]
theorem keyIs_str (x : Str) (t : Tok) : keyIs (.inr x) (.str x t) = true := by simp [keyIs, Value.isStrOf]
theorem key_ll (a b : Int) : decide ((Sum.inl a : Key) = Sum.inl b) = (a == b) := by
  by_cases e : a = b
  · subst e; simp
  · have h : ¬ (Sum.inl a : Key) = Sum.inl b := fun q => e (Sum.inl.inj q)
    rw [decide_eq_false h]
    exact (beq_eq_false_iff_ne.mpr e).symm
theorem key_rr (a b : Str) : decide ((Sum.inr a : Key) = Sum.inr b) = decide (a = b) := by
  by_cases e : a = b
  · subst e; simp
  · have h : ¬ (Sum.inr a : Key) = Sum.inr b := fun q => e (Sum.inr.inj q)
    rw [decide_eq_false h, decide_eq_false e]
theorem key_lr (a : Int) (b : Str) : decide ((Sum.inl a : Key) = Sum.inr b) = false := decide_eq_false (fun q => nomatch q)
theorem key_rl (a : Str) (b : Int) : decide ((Sum.inr a : Key) = Sum.inl b) = false := decide_eq_false (fun q => nomatch q)
def mixKind (prog : Program) (w : World) : PySem.KeyKind prog w Key where
  is := keyIs
  hash := keyH w
  inj := fun v a b ha hb => by
    rcases keyIs_shape ha with ⟨i, t, rfl, rfl⟩ | ⟨x, t, rfl, rfl⟩
    · rcases keyIs_shape hb with ⟨j, u, rfl, e⟩ | ⟨y, u, rfl, e⟩
      · injection e with e1 _; rw [e1]
      · exact nomatch e
    · rcases keyIs_shape hb with ⟨j, u, rfl, e⟩ | ⟨y, u, rfl, e⟩
      · exact nomatch e
      · injection e with e1 _; rw [e1]
  byValue := fun k v h => by
    rcases keyIs_shape h with ⟨i, t, rfl, rfl⟩ | ⟨x, t, rfl, rfl⟩ <;> rfl
  pyHash := fun hv h => by
    rcases keyIs_shape hv with ⟨i, t, rfl, rfl⟩ | ⟨x, t, rfl, rfl⟩
    · exact wpAny_pyHash_int h
    · exact wpAny_pyHash_str h
  eqBool := fun hu hv h => by
    rcases keyIs_shape hu with ⟨i, t, rfl, rfl⟩ | ⟨x, t, rfl, rfl⟩
    · rcases keyIs_shape hv with ⟨j, u, rfl, rfl⟩ | ⟨y, u, rfl, rfl⟩
      · rw [key_ll] at h; exact wpAny_eqBool_int h
      · rw [key_lr] at h; exact SeqAt.EqAt.int_str i t y u _ _ _ _ h
    · rcases keyIs_shape hv with ⟨j, u, rfl, rfl⟩ | ⟨y, u, rfl, rfl⟩
      · rw [key_rl] at h; exact SeqAt.EqAt.str_int x t j u _ _ _ _ h
      · rw [key_rr] at h; exact wpAny_eqBool_str h
  «strs» := fun k x t v h => by
    rcases keyIs_shape h with ⟨i, u, rfl, e⟩ | ⟨y, u, rfl, e⟩
    · exact nomatch e
    · injection e with e1 _
      subst e1
      cases v <;> rfl
theorem mixKind_int (prog : Program) (w : World) (i : Int) (t : Tok) : (mixKind prog w).is (.inl i) (.int i t) = true := keyIs_int i t
theorem mixKind_str (prog : Program) (w : World) (x : Str) (t : Tok) : (mixKind prog w).is (.inr x) (.str x t) = true := keyIs_str x t
end L2
namespace L2
open PySem PySem.Spec PyProof.Rows
inductive V where
  | non | bl (b : Bool) | int (i : Int) | str (x : Str) | byt (b : Array UInt8) | flt (b : UInt64) | ref (a : Addr) | ty (n : String)
  deriving DecidableEq
def RelV : V → Value → Prop
  | .non, u => u = Value.none
  | .bl b, u => u = Value.bool b
  | .int i, u => ∃ t, u = Value.int i t
  | .str x, u => ∃ t, u = Value.str x t
  | .byt b, u => ∃ t, u = Value.bytes b t
  | .flt b, u => ∃ t, u = Value.float b t
  | .ref a, u => u = Value.ref a
  | .ty n, u => u = Value.type n
abbrev Vals : List V → List Value → Prop := Paired RelV
theorem Vals.length {xs : List V} {us : List Value} (r : Vals xs us) : xs.length = us.length := Paired.length r
theorem Vals.get : ∀ {xs : List V} {us : List Value} {i : Nat} {x : V}, Vals xs us → xs[i]? = some x → ∃ u, us[i]? = some u ∧ RelV x u
  | _, _, _, _, .nil, e => by simp at e
  | _, _, 0, _, .cons r _, e => by simp at e; subst e; exact ⟨_, rfl, r⟩
  | _, _, i + 1, x, .cons _ t, e => by
    obtain ⟨u, h1, h2⟩ := Vals.get (i := i) (x := x) t (by simpa using e)
    exact ⟨u, by simpa using h1, h2⟩
theorem Vals.set {x : V} {u : Value} (r : RelV x u) : ∀ {xs : List V} {us : List Value} (i : Nat), Vals xs us → Vals (xs.set i x) (us.set i u)
  | _, _, _, .nil => .nil
  | _, _, 0, .cons _ t => .cons r t
  | _, _, i + 1, .cons q t => .cons q (Vals.set r i t)
theorem Vals.append : ∀ {xs ys : List V} {us ws : List Value}, Vals xs us → Vals ys ws → Vals (xs ++ ys) (us ++ ws)
  | _, _, _, _, .nil, s => s
  | _, _, _, _, .cons r t, s => .cons r (Vals.append t s)
theorem Vals.take : ∀ {xs : List V} {us : List Value} (n : Nat), Vals xs us → Vals (xs.take n) (us.take n)
  | _, _, 0, _ => .nil
  | _, _, _ + 1, .nil => .nil
  | _, _, n + 1, .cons r t => .cons r (Vals.take n t)
theorem Vals.drop : ∀ {xs : List V} {us : List Value} (n : Nat), Vals xs us → Vals (xs.drop n) (us.drop n)
  | _, _, 0, r => r
  | _, _, _ + 1, .nil => .nil
  | _, _, n + 1, .cons _ t => Vals.drop n t
def RelO : Option V → Option Value → Prop
  | some v, some u => RelV v u
  | none, none => True
  | _, _ => False
def KV {κ : Type} : List (κ × V) → List (κ × Value) → Prop := Paired fun (p : κ × V) (q : κ × Value) => p.1 = q.1 ∧ RelV p.2 q.2
def kV : Key → V
  | .inl i => .int i
  | .inr x => .str x
inductive HO where
  | lst (xs : List V)
  | tup (xs : List V)
  | dK (kvs : List (Key × V)) | dT (kvs : List (List Key × V))
  | set (S : Int → Bool) (n : Nat)
  | ins (C dx : Addr) (fs : List (Str × V))
  | own (x : Addr)
  | xd (fs : List (Str × V))
  | met (f x : Addr)
  | rng (lo hi : Int)
  | frz (o : Obj) (u : HO)
  | tbl (ps : Array Value)
  | ext (φ : Heap → Prop)
abbrev Hp := Addr → Option HO
def upd (H : Hp) (a : Addr) (o : HO) : Hp := fun b => if b = a then some o else H b
theorem upd_same {H : Hp} {a : Addr} {o : HO} : upd H a o a = some o := by unfold upd; rw [if_pos rfl]
theorem upd_ne {H : Hp} {a b : Addr} {o : HO} (h : b ≠ a) : upd H a o b = H b := by unfold upd; rw [if_neg h]
theorem ne_of {H : Hp} {a b : Addr} {o u : HO} (h : H a = some o) (h' : H b = some u) (d : o ≠ u) : a ≠ b := by
  intro e; subst e; rw [h] at h'; exact d (Option.some.inj h')
theorem ne_of_none {H : Hp} {a b : Addr} {o : HO} (h : H a = some o) (h' : H b = none) : a ≠ b := by
  intro e; subst e; rw [h] at h'; cases h'
section
variable (P : Program) (w : World)
def ObjOk (H : Hp) (h : Heap) (a : Addr) : HO → Prop
  | .lst xs => xs.length ≤ sizeLine ∧ ∃ (its : List Value) (n : Nat), Vals xs its ∧ h.get? a = some { cls := .type "list", data := .seq its.toArray n }
  | .tup xs => xs.length ≤ sizeLine ∧ ∃ its : List Value, Vals xs its ∧ IsTup h a its.toArray
  | .dK kvs => kvs.length ≤ sizeLine ∧ (a == sysModules) = false ∧ ∃ vs, KV kvs vs ∧ h.DictOf (mixKind P w) a vs
  | .dT kvs => kvs.length ≤ sizeLine ∧ (a == sysModules) = false ∧ ∃ xs : List (List Key × Addr × Value),
      Paired (fun (p : List Key × V) (q : List Key × Addr × Value) => p.1 = q.1 ∧ H q.2.1 = some (.tup (p.1.map kV)) ∧ RelV p.2 q.2.2) kvs xs ∧
      ∃ o es ep, h.get? a = some o ∧ o.ExactDict ∧ o.data = .dict es ep ∧ es.toList = xs.map (entryOfKey (tupleKind (mixKind P w))) ∧ (xs.map (·.1)).Nodup
  | .set S n => h.SetOf (intKind P w) a S n
  | .ins C dx fs => H dx = some (.own a) ∧ fs.length ≤ 1000 ∧ dx ≠ a ∧ h.get? a = some (PySem.W.instObj C dx) ∧
      ∃ mA, h.Ns1 dx mA ∧ (∀ f, RelO (fs.lookup f) (mA f)) ∧ PySem.Within mA (fs.map (·.1))
  | .own _ => ∃ o, h.get? a = some o
  | .xd fs => ∃ mA, h.Ns1 a mA ∧ ∀ f, RelO (fs.lookup f) (mA f)
  | .rng lo hi => ∃ t u v, h.get? a = some { cls := .type "range", data := .fields #[.int lo t, .int hi u, .int 1 v] }
  | .frz o u => h.get? a = some o ∧ ObjOk H h a u
  | .tbl ps => h.get? a = some { cls := .none, data := .fields ps }
  | .met f x => h.get? a = some (PySem.W.methodObj (.ref f) (.ref x))
  | .ext φ => φ h ∧ (∃ o, h.get? a = some o) ∧ ∀ h1 h2 : Heap, φ h1 → (∀ o, h1.get? a = some o → h2.get? a = some o) → φ h2
def HOk (H : Hp) (h : Heap) : Prop := ∀ a o, H a = some o → ObjOk P w H h a o
end
section
variable {P : Program} {w : World} {H H' : Hp} {h h' : Heap} {a : Addr} {o : HO}
theorem ObjOk.lt (x : ObjOk P w H h a o) : a < h.objs.size := by
  cases o with
  | lst xs => obtain ⟨_, _, _, _, e⟩ := x; exact Heap.lt_size e
  | tup xs => obtain ⟨_, _, _, p⟩ := x; exact p.lt
  | dK kvs => obtain ⟨_, _, _, _, o, _, _, e, _⟩ := x; exact Heap.lt_size e
  | dT kvs => obtain ⟨_, _, _, _, o, _, _, e, _⟩ := x; exact Heap.lt_size e
  | set S n => obtain ⟨o, _, _, _, e, _⟩ := x; exact Heap.lt_size e
  | ins C dx fs => obtain ⟨_, _, _, e, _⟩ := x; exact Heap.lt_size e
  | own y => obtain ⟨_, e⟩ := x; exact Heap.lt_size e
  | xd fs => obtain ⟨_, ⟨_, _, _, e, _⟩, _⟩ := x; exact Heap.lt_size e
  | rng lo hi => obtain ⟨_, _, _, e⟩ := x; exact Heap.lt_size e
  | frz ob u => obtain ⟨e, _⟩ := x; exact Heap.lt_size e
  | tbl ps => exact Heap.lt_size (show h.get? a = some _ from x)
  | met f y => exact Heap.lt_size (show h.get? a = some _ from x)
  | ext φ => obtain ⟨_, ⟨_, e⟩, _⟩ := x; exact Heap.lt_size e
theorem Paired.mapP {α β : Type} {F G : α → β → Prop} : ∀ {l₁ : List α} {l₂ : List β}, Paired F l₁ l₂ → (∀ a b, F a b → G a b) → Paired G l₁ l₂
  | _, _, .nil, _ => .nil
  | _, _, .cons r t, f => .cons (f _ _ r) (Paired.mapP t f)
theorem ObjOk.stay (x : ObjOk P w H h a o) (k : ∀ b u, (b = a ∨ H b = some (.own a)) → h.get? b = some u → h'.get? b = some u)
    (ho : ∀ b, H b = some (.own a) → H' b = some (.own a)) (ht : ∀ b xs, H b = some (.tup xs) → H' b = some (.tup xs)) : ObjOk P w H' h' a o := by
  induction o with
  | lst xs => obtain ⟨z, its, n, r, e⟩ := x; exact ⟨z, its, n, r, k _ _ (.inl rfl) e⟩
  | tup xs => obtain ⟨z, its, r, ob, e, c⟩ := x; exact ⟨z, its, r, ob, k _ _ (.inl rfl) e, c⟩
  | dK kvs => obtain ⟨z, y, vs, r, ob, es, ep, e, c⟩ := x; exact ⟨z, y, vs, r, ob, es, ep, k _ _ (.inl rfl) e, c⟩
  | dT kvs =>
    obtain ⟨z, y, xs, r, ob, es, ep, e, c⟩ := x
    exact ⟨z, y, xs, Paired.mapP r fun p q z => ⟨z.1, ht _ _ z.2.1, z.2.2⟩, ob, es, ep, k _ _ (.inl rfl) e, c⟩
  | set S n => obtain ⟨ob, es, ep, t, e, c⟩ := x; exact ⟨ob, es, ep, t, k _ _ (.inl rfl) e, c⟩
  | ins C dx fs =>
    obtain ⟨d, z, ne, e, mA, ⟨od, es, ep, e2, c⟩, r⟩ := x
    exact ⟨ho _ d, z, ne, k _ _ (.inl rfl) e, mA, ⟨od, es, ep, k _ _ (.inr d) e2, c⟩, r⟩
  | own y => obtain ⟨ob, e⟩ := x; exact ⟨ob, k _ _ (.inl rfl) e⟩
  | xd fs => obtain ⟨mA, ⟨od, es, ep, e, c⟩, r⟩ := x; exact ⟨mA, ⟨od, es, ep, k _ _ (.inl rfl) e, c⟩, r⟩
  | rng lo hi => obtain ⟨t, u, v, e⟩ := x; exact ⟨t, u, v, k _ _ (.inl rfl) e⟩
  | frz ob u ih => obtain ⟨e, q⟩ := x; exact ⟨k _ _ (.inl rfl) e, ih q⟩
  | tbl ps =>
    have e : h.get? a = some { cls := .none, data := .fields ps } := x
    show h'.get? a = some { cls := .none, data := .fields ps }
    exact k a _ (.inl rfl) e
  | met f y =>
    have e : h.get? a = some (PySem.W.methodObj (.ref f) (.ref y)) := x
    show h'.get? a = some (PySem.W.methodObj (.ref f) (.ref y))
    exact k a _ (.inl rfl) e
  | ext φ => obtain ⟨p, ⟨o, e⟩, st⟩ := x; exact ⟨st _ _ p fun o q => k _ _ (.inl rfl) q, ⟨o, k _ _ (.inl rfl) e⟩, st⟩
theorem HOk.lt (x : HOk P w H h) (e : H a = some o) : a < h.objs.size := (x a o e).lt
theorem HOk.fresh (x : HOk P w H h) (e : h.objs.size ≤ a) : H a = none := by
  cases q : H a with
  | none => rfl
  | some u => exact absurd (Nat.lt_of_lt_of_le (x.lt q) e) (Nat.lt_irrefl _)
theorem HOk.kept (x : HOk P w H h) (k : ∀ b u, h.get? b = some u → h'.get? b = some u) : HOk P w H h' := fun a o e =>
  (x a o e).stay (fun b u _ q => k b u q) (fun _ q => q) fun _ _ q => q
theorem HOk.laid (x : HOk P w H h) (k : ∀ b u, h.get? b = some u → h'.get? b = some u) (hp : h.objs.size ≤ a) (new : ObjOk P w (upd H a o) h' a o) : HOk P w (upd H a o) h' := fun b u e => by
  have hn := x.fresh hp
  by_cases hb : b = a
  · subst hb; rw [upd_same] at e; cases e; exact new
  · rw [upd_ne hb] at e
    exact (x b u e).stay (fun c v _ q => k c v q) (fun c q => by rw [upd_ne (ne_of_none q hn)]; exact q) fun c xs q => by rw [upd_ne (ne_of_none q hn)]; exact q
end
def Rd (H : Hp) (a : Addr) (u : HO) : Prop := H a = some u ∨ ∃ o, H a = some (.frz o u)
theorem Rd.ok {P : Program} {w : World} {H : Hp} {h : Heap} {a : Addr} {u : HO} (r : Rd H a u) (x : HOk P w H h) : ObjOk P w H h a u := by
  rcases r with r | ⟨o, r⟩
  · exact x a u r
  · obtain ⟨_, q⟩ := x a _ r
    exact q
def Mut : Option HO → Prop
  | some (.lst _) => True
  | some (.dK _) => True
  | some (.dT _) => True
  | some (.set _ _) => True
  | some (.ins _ _ _) => True
  | some (.ext _) => True
  | _ => False
section
variable {P : Program} {w : World} {H : Hp} {h h' : Heap} {x e : Addr} {o' : HO}
theorem HOk.write (ok : HOk P w H h) (mu : Mut (H x)) (he : e = x ∨ H e = some (.own x)) (k : ∀ b u, b ≠ e → h.get? b = some u → h'.get? b = some u) (heo : ∃ u, h'.get? e = some u)
    (new : ObjOk P w (upd H x o') h' x o') : HOk P w (upd H x o') h' := fun b u q => by
  have nown : ∀ c y, H c = some (.own y) → c ≠ x := fun c y r z => by subst z; rw [r] at mu; exact mu
  have ntup : ∀ c xs, H c = some (.tup xs) → c ≠ x := fun c xs r z => by subst z; rw [r] at mu; exact mu
  by_cases hb : b = x
  · subst hb; rw [upd_same] at q; cases q; exact new
  · rw [upd_ne hb] at q
    by_cases hbe : b = e
    · have q' : H b = some (.own x) := by
        rcases he with z | z
        · exact absurd (hbe.trans z) hb
        · rw [hbe]; exact z
      rw [q] at q'; cases q'
      obtain ⟨v, hv⟩ := heo
      exact ⟨v, by rw [hbe]; exact hv⟩
    · refine (ok b u q).stay (fun c v hc r => k c v ?_ r) (fun c r => by rw [upd_ne (nown c b r)]; exact r) fun c xs r => by rw [upd_ne (ntup c xs r)]; exact r
      rcases hc with rfl | hc
      · exact hbe
      · rintro rfl
        rcases he with z | z
        · exact nown c b hc z
        · rw [hc] at z; cases z; exact hb rfl
end
structure Un (fs ex : List Addr) (H H' : Hp) (h h' : Heap) : Prop where
  keep : ∀ b o, h.get? b = some o → H b = none → b ∉ fs → b ∉ ex → h'.get? b = some o
  slot : ∀ b o, h.get? b = some o → H b = none → b ∈ fs → b ∉ ex → ∃ sl, h'.get? b = some { o with slots := sl }
  free : ∀ b o, h.get? b = some o → H b = none → b ∉ ex → H' b = none
  there : ∀ b o, h.get? b = some o → b ∉ ex → ∃ o', h'.get? b = some o'
  tups : ∀ b xs, H b = some (.tup xs) → H' b = some (.tup xs)
  frzs : ∀ b o u, H b = some (.frz o u) → H' b = some (.frz o u)
  tbls : ∀ b ps, H b = some (.tbl ps) → ∃ more, H' b = some (.tbl (ps ++ more))
section
variable {fs fs' ex ex' : List Addr} {H H1 H2 : Hp} {h h1 h2 h' : Heap} {a x e : Addr} {o : HO}
theorem Un.any (u : Un fs ex H H1 h h1) {b : Addr} {ob : Obj} (q : h.get? b = some ob) (n : H b = none) (hx : b ∉ ex) : ∃ sl, h1.get? b = some { ob with slots := sl } := by
  by_cases hb : b ∈ fs
  · exact u.slot b ob q n hb hx
  · exact ⟨ob.slots, u.keep b ob q n hb hx⟩
theorem Un.kept (k : ∀ b u, h.get? b = some u → h'.get? b = some u) : Un fs ex H H h h' :=
  ⟨fun b ob q _ _ _ => k b ob q, fun b ob q _ _ _ => ⟨ob.slots, k b ob q⟩, fun _ _ _ n _ => n, fun b ob q _ => ⟨ob, k b ob q⟩, fun _ _ q => q, fun _ _ _ q => q, fun _ ps q => ⟨#[], by rw [q]; simp⟩⟩
theorem Un.refl : Un fs ex H H h h := Un.kept fun _ _ q => q
theorem Un.laid (k : ∀ b u, h.get? b = some u → h'.get? b = some u) (hp : h.objs.size ≤ a) (hn : H a = none) : Un fs ex H (upd H a o) h h' where
  keep := fun b u q _ _ _ => k b u q
  slot := fun b u q _ _ _ => ⟨u.slots, k b u q⟩
  free := fun b u q n _ => by rw [upd_ne (Nat.ne_of_lt (Nat.lt_of_lt_of_le (Heap.lt_size q) hp))]; exact n
  there := fun b u q _ => ⟨u, k b u q⟩
  tups := fun b xs q => by rw [upd_ne (ne_of_none q hn)]; exact q
  frzs := fun b u xs q => by rw [upd_ne (ne_of_none q hn)]; exact q
  tbls := fun b ps q => ⟨#[], by rw [upd_ne (ne_of_none q hn), q]; simp⟩
theorem Un.write (mu : Mut (H x)) (he : e = x ∨ H e = some (.own x)) (k : ∀ b u, b ≠ e → h.get? b = some u → h'.get? b = some u) (heo : ∃ u, h'.get? e = some u) : Un fs ex H (upd H x o) h h' := by
  have hx : ∀ b, H b = none → b ≠ x := fun b n z => by subst z; rw [n] at mu; exact mu
  have hb : ∀ b, H b = none → b ≠ e := fun b n z => by
    subst z
    rcases he with r | r
    · exact hx b n r
    · rw [n] at r; cases r
  have hm : ∀ b u, H b = some u → ¬ Mut (some u) → b ≠ x := fun b u q nm z => by subst z; rw [q] at mu; exact nm mu
  refine ⟨fun b u q n _ _ => k b u (hb b n) q, fun b u q n _ _ => ⟨u.slots, k b u (hb b n) q⟩, fun b u q n _ => by rw [upd_ne (hx b n)]; exact n, fun b u q _ => ?_,
    fun b xs q => by rw [upd_ne (hm b _ q fun z => z)]; exact q, fun b u xs q => by rw [upd_ne (hm b _ q fun z => z)]; exact q, fun b ps q => ⟨#[], by rw [upd_ne (hm b _ q fun z => z), q]; simp⟩⟩
  by_cases hbe : b = e
  · subst hbe; exact heo
  · exact ⟨u, k b u hbe q⟩
end
def trk (h : Heap) (H : Hp) : List Addr := (List.range h.objs.size).filter fun a => (H a).isSome
def hidT (h : Heap) (H : Hp) : Heap := PySem.W.hideAll h (trk h H)
theorem hidT_size (h : Heap) (H : Hp) : (hidT h H).objs.size = h.objs.size := PySem.W.hideAll_size _ _
theorem hidT_get {h : Heap} {H : Hp} {b : Addr} {o : Obj} (e : h.get? b = some o) (n : H b = none) : (hidT h H).get? b = some o :=
  PySem.W.hideAll_get _ e fun hm => by
    have q : (H b).isSome = true := (List.mem_filter.mp hm).2
    rw [n] at q; simp at q
theorem of_hidT {h : Heap} {H : Hp} {b : Addr} {o : Obj} (e : (hidT h H).get? b = some o) : h.get? b = some o ∧ H b = none := by
  have e' : h.get? b = some o := PySem.W.of_hideAll (trk h H) e
  refine ⟨e', ?_⟩
  cases q : H b with
  | none => rfl
  | some x =>
    have hm : b ∈ trk h H := List.mem_filter.mpr ⟨List.mem_range.mpr (Heap.lt_size e'), by simp [q]⟩
    have z : (hidT h H).get? b = none := PySem.W.hideAll_none (trk h H) hm
    rw [z] at e; cases e
end L2
namespace L2
open PySem PySem.Spec PyProof.Rows
structure Mod (K : PySem.W.Frag) (mg : Str → Option Value) (base : Heap) : Prop where
  kin : K.In base
  glob : base.Ns mainGlobals mg
  blt : ∃ mb, base.Ns builtinsNs mb ∧ ∀ x : Str, x ≠ "__name__" → mb x = bootBuiltins x
  nolimit : base.NoLimit
structure Cx where
  prog : Program
  w : World
  K : PySem.W.Frag
  mg : Str → Option Value
  base : Heap
  A : Around
  N : List Str
  s₀ : Shared
  H₀ : Hp
  env : Env
  outer : List Env
  stack : List Env
  ex : List Addr
  fn : Str → Bool
  calm : Bool
  pn : List (Addr × Obj)
  xe : Value → Shared → Prop
def frs (l : List Env) : List Addr := l.filterMap (·.frame)
abbrev Cx.fs (X : Cx) : List Addr := frs X.outer
def Vis (sc : Scope) (x : Str) : Prop := sc.names.lookup x = some .local ∨ sc.names.lookup x = some .cell ∨ sc.names.lookup x = some .free
def Loc (sc : Scope) (x : Str) : Prop := sc.names.lookup x = some .local ∨ sc.names.lookup x = some .cell
def Look (env : Env) (h : Heap) (m : Str → Option Value) (x : Str) (u : Value) : Prop :=
  (env.kindOf x = some .local ∧ m x = some u) ∨ ((env.kindOf x = some .cell ∨ env.kindOf x = some .free) ∧ ∃ c, env.cells.lookup x = some c ∧ h.IsCell c (some u))
structure Cx.Ok (X : Cx) : Prop where
  mod : Mod X.K X.mg X.base
  kind : X.env.scope.kind = .function
  glob : X.env.globals = mainGlobals
  blt : X.env.builtins = builtinsNs
  above : X.s₀.heap.objs.size ≤ X.env.locals
  inj : ∀ x y c, X.env.cells.lookup x = some c → X.env.cells.lookup y = some c → x = y
  has : ∀ x, (X.env.kindOf x = some .cell ∨ X.env.kindOf x = some .free) → ∃ c, X.env.cells.lookup x = some c
  cab : ∀ x c, X.fn x = true → X.env.cells.lookup x = some c → X.s₀.heap.objs.size ≤ c
  hd : X.calm = true → X.A.handled = none
  frames : X.A.frames = some X.stack
  stk : X.stack = X.outer ∨ (X.stack = X.env :: X.outer ∧ X.env.frame = some X.env.locals)
  exf : ∀ b ∈ X.ex, b ≠ X.env.locals ∧ ∀ x c, X.env.cells.lookup x = some c → c ≠ b
  bs : ∀ b o, X.base.get? b = some o → X.s₀.heap.get? b = some o ∧ X.H₀ b = none
  bsz : X.base.objs.size ≤ X.s₀.heap.objs.size
  noex : ∀ b o, X.base.get? b = some o → b ∉ X.ex
  exfs : ∀ b ∈ X.ex, b ∉ X.fs
  funs : X.s₀.heap.FunFrames X.base X.outer
  frf : ∀ b ∈ X.fs, X.H₀ b = none
structure Inv (X : Cx) (pins : List (Addr × Obj)) (σ : List (Option V)) (H : Hp) (s : Shared) : Prop where
  ok : X.Ok
  os : s.os = X.s₀.os
  bare : AllBare s.gens
  base : Un X.fs X.ex X.H₀ H X.s₀.heap s.heap
  loc : ∃ m, s.heap.Ns X.env.locals m ∧ ∀ (i : Nat) (x : Str) (v : V), X.N[i]? = some x → σ[i]? = some (some v) → Vis X.env.scope x → ∃ u, RelV v u ∧ Look X.env s.heap m x u
  cell : ∀ x c, X.env.cells.lookup x = some c → ∃ v, s.heap.IsCell c v
  free : H X.env.locals = none
  freeC : ∀ x c, X.env.cells.lookup x = some c → H c = none
  pin : ∀ p ∈ X.pn ++ pins, s.heap.get? p.1 = some p.2 ∧ H p.1 = none ∧ p.1 ≠ X.env.locals ∧ p.1 ∉ X.fs ∧ ∀ v, p.2.data ≠ .cell v
  hok : HOk X.prog X.w H s.heap
  len : σ.length = X.N.length
section
variable {X : Cx} {pins : List (Addr × Obj)} {σ : List (Option V)} {H H' : Hp} {s : Shared} {h' : Heap}
theorem Cx.Ok.nofr (ok : X.Ok) {b : Addr} {o : Obj} (e : X.base.get? b = some o) : b ∉ X.fs := fun hb => by
  have := (ok.funs.mem hb).1
  rw [e] at this; cases this
theorem Inv.bs (I : Inv X pins σ H s) : ∀ b o, X.base.get? b = some o → s.heap.get? b = some o ∧ H b = none := fun b o e =>
  ⟨I.base.keep b o (I.ok.bs b o e).1 (I.ok.bs b o e).2 (I.ok.nofr e) (I.ok.noex b o e), I.base.free b o (I.ok.bs b o e).1 (I.ok.bs b o e).2 (I.ok.noex b o e)⟩
theorem Inv.bk (I : Inv X pins σ H s) : ∀ b o, X.base.get? b = some o → s.heap.get? b = some o := fun b o e => (I.bs b o e).1
theorem Inv.mod (I : Inv X pins σ H s) : Mod X.K X.mg X.base := I.ok.mod
theorem Inv.kIn (I : Inv X pins σ H s) : X.K.In s.heap := I.ok.mod.kin.keeps I.bk
theorem Inv.lt (I : Inv X pins σ H s) : X.env.locals < s.heap.objs.size := let ⟨_, hn, _⟩ := I.loc; hn.lt
theorem Inv.sz (I : Inv X pins σ H s) : X.s₀.heap.objs.size ≤ s.heap.objs.size := Nat.le_trans I.ok.above (Nat.le_of_lt I.lt)
theorem Inv.nofs (I : Inv X pins σ H s) {a : Addr} (h : s.heap.objs.size ≤ a) : a ∉ X.fs := fun hb => by
  obtain ⟨_, o, ho, _⟩ := I.ok.funs.mem hb
  exact absurd (Nat.lt_of_lt_of_le (Heap.lt_size ho) (Nat.le_trans I.sz h)) (Nat.lt_irrefl _)
theorem Inv.cne (I : Inv X pins σ H s) : ∀ x c, X.env.cells.lookup x = some c → c ≠ X.env.locals := fun x c e z => by
  obtain ⟨v, o, ho, hd⟩ := I.cell x c e
  obtain ⟨m, ⟨o', es, ep, ho', hd', _⟩, _⟩ := I.loc
  rw [z, ho'] at ho; cases ho; rw [hd'] at hd; cases hd
theorem Inv.funs (I : Inv X pins σ H s) : s.heap.FunFrames X.base X.outer := by
  have all : ∀ (l : List Env), (∀ b ∈ frs l, b ∈ X.fs) → X.s₀.heap.FunFrames X.base l → s.heap.FunFrames X.base l := by
    intro l
    induction l with
    | nil => intro _ _; trivial
    | cons env r ih =>
      intro hs hl
      obtain ⟨hk, ⟨L, o, hf, hn, ho, hd⟩, hr⟩ := hl
      have hL : L ∈ X.fs := hs L (by unfold frs; rw [List.filterMap_cons, hf]; exact List.mem_cons_self)
      obtain ⟨sl, e⟩ := I.base.slot L o ho (I.ok.frf L hL) hL fun z => I.ok.exfs L z hL
      exact ⟨hk, ⟨L, _, hf, hn, e, hd⟩, ih (fun b hb => hs b (by unfold frs; rw [List.filterMap_cons, hf]; exact List.mem_cons_of_mem _ hb)) hr⟩
  exact all X.outer (fun _ hb => hb) I.ok.funs
theorem Inv.stack (I : Inv X pins σ H s) : s.heap.FunFrames X.base X.stack := by
  rcases I.ok.stk with e | ⟨e, hf⟩
  · rw [e]; exact I.funs
  · rw [e]
    obtain ⟨m, hn, _⟩ := I.loc
    refine .cons (by rw [I.ok.kind]; decide) hf hn ?_ I.funs
    exact Heap.get?_none_of_le (Nat.le_trans I.ok.bsz I.ok.above)
theorem Inv.stkSub (I : Inv X pins σ H s) : ∀ b ∈ frs X.stack, b ∈ X.env.locals :: X.fs := fun b hb => by
  rcases I.ok.stk with e | ⟨e, hf⟩
  · rw [e] at hb; exact List.mem_cons_of_mem _ hb
  · rw [e] at hb
    unfold frs at hb
    rw [List.filterMap_cons, hf] at hb
    exact hb
theorem Inv.stkFree (I : Inv X pins σ H s) : ∀ b ∈ frs X.stack, H b = none := fun b hb => by
  rcases List.mem_cons.mp (I.stkSub b hb) with e | hb
  · rw [e]; exact I.free
  · obtain ⟨_, o, ho, _⟩ := I.ok.funs.mem hb
    exact I.base.free b o ho (I.ok.frf b hb) fun z => I.ok.exfs b z hb
theorem Inv.step {g' : Array GenState} {t' : Nat} {d' : Drawn} {ch : List Addr} (I : Inv X pins σ H s)
    (hch : ∀ b ∈ ch, (b ∈ X.ex ∨ X.s₀.heap.objs.size ≤ b) ∧ b ≠ X.env.locals ∧ (∀ x c, X.env.cells.lookup x = some c → c ≠ b) ∧ ∀ p ∈ X.pn ++ pins, p.1 ≠ b)
    (keep : ∀ b o, b ≠ X.env.locals → b ∉ X.fs → b ∉ ch → s.heap.get? b = some o → H b = none → h'.get? b = some o)
    (slot : ∀ b o, b ≠ X.env.locals → b ∈ X.fs → b ∉ ch → s.heap.get? b = some o → H b = none → ∃ sl, h'.get? b = some { o with slots := sl }) (free : ∀ b o, b ∉ ch → s.heap.get? b = some o → H b = none → H' b = none)
    (there : ∀ b o, b ∉ ch → s.heap.get? b = some o → ∃ o', h'.get? b = some o')
    (tups : ∀ b xs, H b = some (.tup xs) → H' b = some (.tup xs)) (frzs : ∀ b o u, H b = some (.frz o u) → H' b = some (.frz o u)) (tbls : ∀ b ps, H b = some (.tbl ps) → ∃ more, H' b = some (.tbl (ps ++ more)))
    (ns : ∀ m, s.heap.Ns X.env.locals m → h'.Ns X.env.locals m) (hok : HOk X.prog X.w H' h') (hg : AllBare g') :
    Inv X pins σ H' { s with heap := h', gens := g', drawn := d', toks := t' } := by
  have neL : ∀ b o, X.s₀.heap.get? b = some o → b ≠ X.env.locals := fun b o e => Nat.ne_of_lt (Nat.lt_of_lt_of_le (Heap.lt_size e) I.ok.above)
  have neC : ∀ b o, X.s₀.heap.get? b = some o → b ∉ X.ex → b ∉ ch := fun b o e hx hb => by
    rcases (hch b hb).1 with z | z
    · exact hx z
    · exact absurd (Nat.lt_of_lt_of_le (Heap.lt_size e) z) (Nat.lt_irrefl _)
  have cellK : ∀ x c, X.env.cells.lookup x = some c → ∀ v, s.heap.IsCell c v → h'.IsCell c v := fun x c e v ⟨o, ho, hd⟩ => by
    have nch : c ∉ ch := fun z => (hch c z).2.2.1 x c e rfl
    by_cases hc : c ∈ X.fs
    · obtain ⟨sl, q⟩ := slot c o (I.cne x c e) hc nch ho (I.freeC x c e)
      exact ⟨_, q, hd⟩
    · exact ⟨o, keep c o (I.cne x c e) hc nch ho (I.freeC x c e), hd⟩
  refine ⟨I.ok, I.os, hg, ⟨fun b o e n hb hx => ?_, fun b o e n hb hx => ?_, fun b o e n hx => ?_, fun b o e hx => ?_, fun b xs e => tups b xs (I.base.tups b xs e), fun b o xs e => frzs b o xs (I.base.frzs b o xs e), fun b ps e => ?_⟩, ?_, fun x c e => ?_, ?_, fun x c e => ?_, fun p hp => ?_, hok, I.len⟩
  · exact keep b o (neL b o e) hb (neC b o e hx) (I.base.keep b o e n hb hx) (I.base.free b o e n hx)
  · obtain ⟨sl, e1⟩ := I.base.slot b o e n hb hx
    obtain ⟨sl', e2⟩ := slot b _ (neL b o e) hb (neC b o e hx) e1 (I.base.free b o e n hx)
    exact ⟨sl', e2⟩
  · obtain ⟨o', e1⟩ := I.base.there b o e hx
    exact free b o' (neC b o e hx) e1 (I.base.free b o e n hx)
  · obtain ⟨o', e1⟩ := I.base.there b o e hx
    exact there b o' (neC b o e hx) e1
  · obtain ⟨m1, e1⟩ := I.base.tbls b ps e
    obtain ⟨m2, e2⟩ := tbls b _ e1
    exact ⟨m1 ++ m2, by rw [e2, Array.append_assoc]⟩
  · obtain ⟨m, hn, hl⟩ := I.loc
    refine ⟨m, ns m hn, fun i x v e1 e2 e3 => ?_⟩
    obtain ⟨u, r, l⟩ := hl i x v e1 e2 e3
    refine ⟨u, r, ?_⟩
    rcases l with l | ⟨k, c, e, z⟩
    · exact .inl l
    · exact .inr ⟨k, c, e, cellK x c e _ z⟩
  · obtain ⟨v, z⟩ := I.cell x c e
    exact ⟨v, cellK x c e v z⟩
  · obtain ⟨m, ⟨o, _, _, ho, _⟩, _⟩ := I.loc
    exact free _ o (fun z => (hch _ z).2.1 rfl) ho I.free
  · obtain ⟨v, o, ho, hd⟩ := I.cell x c e
    exact free c o (fun z => (hch c z).2.2.1 x c e rfl) ho (I.freeC x c e)
  · obtain ⟨e, n, ne, nf, d⟩ := I.pin p hp
    have nch : p.1 ∉ ch := fun z => (hch p.1 z).2.2.2 p hp rfl
    exact ⟨keep p.1 p.2 ne nf nch e n, free p.1 p.2 nch e n, ne, nf, d⟩
theorem Inv.un {t' : Nat} (I : Inv X pins σ H s) (u : Un X.fs [] H H' s.heap h') (hok : HOk X.prog X.w H' h') : Inv X pins σ H' { s with heap := h', toks := t' } := by
  obtain ⟨m, ⟨o, es, ep, ho, r⟩, _⟩ := id I.loc
  obtain ⟨sl, hL⟩ := u.any ho I.free (by simp)
  exact I.step (g' := s.gens) (d' := s.drawn) (ch := []) (fun _ z => nomatch z) (fun b o _ hb _ e n => u.keep b o e n hb (by simp)) (fun b o _ hb _ e n => u.slot b o e n hb (by simp)) (fun b o _ e n => u.free b o e n (by simp)) (fun b o _ e => u.there b o e (by simp)) u.tups u.frzs u.tbls (fun m' hm => by
    obtain ⟨o', es', ep', ho', r'⟩ := hm
    rw [ho] at ho'; cases ho'
    exact ⟨_, es', ep', hL, r'⟩) hok I.bare
theorem Inv.call {g' : Array GenState} {t' : Nat} {d' : Drawn} {ch : List Addr} (I : Inv X pins σ H s) (u : Un (frs X.stack) ch H H' s.heap h') (hok : HOk X.prog X.w H' h') (hg : AllBare g')
    (hch : ∀ b ∈ ch, (b ∈ X.ex ∨ X.s₀.heap.objs.size ≤ b) ∧ b ≠ X.env.locals ∧ (∀ x c, X.env.cells.lookup x = some c → c ≠ b) ∧ ∀ p ∈ X.pn ++ pins, p.1 ≠ b) :
    Inv X pins σ H' { s with heap := h', gens := g', drawn := d', toks := t' } := by
  obtain ⟨m, ⟨o, es, ep, ho, r⟩, _⟩ := id I.loc
  obtain ⟨sl, hL⟩ := u.any ho I.free fun z => (hch _ z).2.1 rfl
  exact I.step (ch := ch) hch (fun b o hL hb hc e n => u.keep b o e n (fun z => (List.mem_cons.mp (I.stkSub b z)).elim hL hb) hc) (fun b o _ _ hc e n => u.any e n hc) (fun b o hc e n => u.free b o e n hc) (fun b o hc e => u.there b o e hc) u.tups u.frzs u.tbls (fun m' hm => by
    obtain ⟨o', es', ep', ho', r'⟩ := hm
    rw [ho] at ho'; cases ho'
    exact ⟨_, es', ep', hL, r'⟩) hok hg
theorem Inv.turned {t' : Nat} {it : Addr} (I : Inv X pins σ H s) (k : ∀ b o, b ≠ it → s.heap.get? b = some o → h'.get? b = some o) (hn : H it = none) (hL : it ≠ X.env.locals)
    (h1 : it ∈ X.ex ∨ X.s₀.heap.objs.size ≤ it) (h2 : ∀ x c, X.env.cells.lookup x = some c → c ≠ it) (h3 : ∀ p ∈ X.pn ++ pins, p.1 ≠ it) : Inv X pins σ H { s with heap := h', toks := t' } := by
  have nit : ∀ b u, H b = some u → b ≠ it := fun b u e z => by rw [z, hn] at e; cases e
  refine I.step (g' := s.gens) (d' := s.drawn) (ch := [it]) (fun b hb => ?_) (fun b o _ _ hc e _ => k b o (fun z => hc (by simp [z])) e) (fun b o _ _ hc e _ => ⟨o.slots, k b o (fun z => hc (by simp [z])) e⟩) (fun _ _ _ _ n => n)
    (fun b o hc e => ⟨o, k b o (fun z => hc (by simp [z])) e⟩) (fun _ _ e => e) (fun _ _ _ e => e) (fun b ps e => ⟨#[], by rw [e]; simp⟩) (fun m hm => ?_) (fun b u e => ?_) I.bare
  · have e : b = it := by simpa using hb
    subst e
    exact ⟨h1, hL, h2, h3⟩
  · obtain ⟨o, es, ep, ho, r⟩ := hm
    exact ⟨o, es, ep, k _ o (Ne.symm hL) ho, r⟩
  · refine (I.hok b u e).stay (fun c v hc q => k c v ?_ q) (fun _ q => q) fun _ _ q => q
    rcases hc with z | z
    · rw [z]; exact nit b u e
    · exact nit c _ z
theorem Inv.tok (I : Inv X pins σ H s) (t : Nat) : Inv X pins σ H { s with toks := t } := I.un (h' := s.heap) (t' := t) Un.refl I.hok
theorem Inv.kept {t' : Nat} (I : Inv X pins σ H s) (k : ∀ b u, s.heap.get? b = some u → h'.get? b = some u) : Inv X pins σ H { s with heap := h', toks := t' } := I.un (Un.kept k) (I.hok.kept k)
theorem Inv.laid {a : Addr} {o : HO} {t' : Nat} (I : Inv X pins σ H s) (k : ∀ b u, s.heap.get? b = some u → h'.get? b = some u) (hp : s.heap.objs.size ≤ a) (new : ObjOk X.prog X.w (upd H a o) h' a o) :
    Inv X pins σ (upd H a o) { s with heap := h', toks := t' } := I.un (Un.laid k hp (I.hok.fresh hp)) (I.hok.laid k hp new)
theorem Inv.write {x e : Addr} {o : HO} {t' : Nat} (I : Inv X pins σ H s) (mu : Mut (H x)) (he : e = x ∨ H e = some (.own x)) (k : ∀ b u, b ≠ e → s.heap.get? b = some u → h'.get? b = some u) (heo : ∃ u, h'.get? e = some u)
    (new : ObjOk X.prog X.w (upd H x o) h' x o) : Inv X pins σ (upd H x o) { s with heap := h', toks := t' } := I.un (Un.write mu he k heo) (I.hok.write mu he k heo new)
theorem Inv.pins_of {pins' : List (Addr × Obj)} (I : Inv X pins σ H s) (h : ∀ p ∈ pins', s.heap.get? p.1 = some p.2 ∧ H p.1 = none ∧ p.1 ≠ X.env.locals ∧ p.1 ∉ X.fs ∧ ∀ v, p.2.data ≠ .cell v) : Inv X pins' σ H s :=
  ⟨I.ok, I.os, I.bare, I.base, I.loc, I.cell, I.free, I.freeC, fun p hp => (List.mem_append.mp hp).elim (fun z => I.pin p (List.mem_append_left _ z)) (h p), I.hok, I.len⟩
theorem nodup_ix {N : List Str} (hN : N.Nodup) {i j : Nat} {x : Str} (a : N[i]? = some x) (b : N[j]? = some x) : i = j := by
  obtain ⟨h1, e1⟩ := List.getElem?_eq_some_iff.mp a
  obtain ⟨h2, e2⟩ := List.getElem?_eq_some_iff.mp b
  exact (List.getElem_inj hN).mp (e1.trans e2.symm)
theorem store_ok2 {M : Model} {A : Around} {E : Value → Shared → Prop} {i : Nat} {x : Str} {v : V} {u : Value} {Q : Unit → Shared → Prop} (I : Inv X pins σ H s) (hN : X.N.Nodup) (hi : X.N[i]? = some x) (hx : Loc X.env.scope x) (r : RelV v u)
    (h : ∀ s', Inv X pins (σ.set i (some v)) H s' → (∃ a, Heap.SameBut a s.heap s'.heap ∧ (a = X.env.locals ∨ X.env.cells.lookup x = some a)) → Q () s') (hf : X.fn x = true ∨ X.env.scope.names.lookup x = some .local := by first | exact .inl rfl | exact .inr rfl | assumption) : wpAny M A (storeName X.env x u) Q E s := by
  obtain ⟨m, hn, hl⟩ := id I.loc
  have hcls : (X.env.scope.kind == .class || (X.env.scope.kind == .module && X.env.locals != X.env.globals)) = false := by rw [I.ok.kind]; rfl
  have hiσ : i < σ.length := by rw [I.len]; exact (List.getElem?_eq_some_iff.mp hi).1
  have cne := I.cne
  have tracked : ∀ {a : Addr} {h' : Heap}, (∃ o, s.heap.get? a = some o ∧ H a = none) → Heap.SameBut a s.heap h' → HOk X.prog X.w H h' := fun {a h'} ha hs b ob e => by
    obtain ⟨_, _, hfree⟩ := ha
    refine (I.hok b ob e).stay (fun c w' hc q => (hs.2 c ?_).trans q) (fun _ q => q) fun _ _ q => q
    rintro rfl
    rcases hc with rfl | hc
    · rw [hfree] at e; cases e
    · rw [hfree] at hc; cases hc
  rcases hx with hk | hk
  · refine wpAny_storeName_local hk hn (fun h' hn' hs => ?_) hcls
    obtain ⟨oL, _, _, hoL, _⟩ := id hn
    refine h _ ⟨I.ok, I.os, I.bare, ⟨fun b o e n hb hx => ?_, fun b o e n hb hx => ?_, I.base.free, fun b o e hx => ?_, I.base.tups, I.base.frzs, I.base.tbls⟩, ⟨_, hn', fun j y v' e1 e2 e3 => ?_⟩, fun y c e => ?_, I.free, I.freeC, fun p hp => ?_, tracked ⟨oL, hoL, I.free⟩ hs, by simpa using I.len⟩ ⟨_, hs, .inl rfl⟩
    · exact (hs.2 b (Nat.ne_of_lt (Nat.lt_of_lt_of_le (Heap.lt_size e) I.ok.above))).trans (I.base.keep b o e n hb hx)
    · obtain ⟨sl, e1⟩ := I.base.slot b o e n hb hx
      exact ⟨sl, (hs.2 b (Nat.ne_of_lt (Nat.lt_of_lt_of_le (Heap.lt_size e) I.ok.above))).trans e1⟩
    · obtain ⟨o', e1⟩ := I.base.there b o e hx
      exact ⟨o', (hs.2 b (Nat.ne_of_lt (Nat.lt_of_lt_of_le (Heap.lt_size e) I.ok.above))).trans e1⟩
    · by_cases hj : j = i
      · subst hj
        rw [hi] at e1; cases e1
        rw [List.getElem?_set_self hiσ] at e2
        cases e2
        exact ⟨u, r, .inl ⟨hk, by simp⟩⟩
      · rw [List.getElem?_set_ne (Ne.symm hj)] at e2
        obtain ⟨u', r', q⟩ := hl j y v' e1 e2 e3
        refine ⟨u', r', ?_⟩
        rcases q with ⟨k, e⟩ | ⟨k, c, e, z⟩
        · refine .inl ⟨k, ?_⟩
          have : y ≠ x := fun e => hj (nodup_ix hN e1 (e ▸ hi))
          simp [this, e]
        · exact .inr ⟨k, c, e, z.sameBut hs (cne y c e)⟩
    · obtain ⟨w', z⟩ := I.cell y c e
      exact ⟨w', z.sameBut hs (cne y c e)⟩
    · obtain ⟨e, n, ne, nf, d⟩ := I.pin p hp
      exact ⟨(hs.2 p.1 ne).trans e, n, ne, nf, d⟩
  · have hfn : X.fn x = true := by
      rcases hf with z | z
      · exact z
      · rw [z] at hk; cases hk
    obtain ⟨c, hc⟩ := I.ok.has x (.inl hk)
    obtain ⟨w', z⟩ := I.cell x c hc
    refine wpAny_storeName_cell I.ok.kind hk hc z (fun h' hc' hs => ?_)
    obtain ⟨oc, hoc, hocd⟩ := id z
    refine h { s with heap := h' } ⟨I.ok, I.os, I.bare, ⟨fun b o e n hb hx => ?_, fun b o e n hb hx => ?_, I.base.free, fun b o e hx => ?_, I.base.tups, I.base.frzs, I.base.tbls⟩, ⟨m, hn.sameBut hs (Ne.symm (cne x c hc)), fun j y v' e1 e2 e3 => ?_⟩, fun y c' e => ?_, I.free, I.freeC, fun p hp => ?_, tracked ⟨oc, hoc, I.freeC x c hc⟩ hs, by simpa using I.len⟩ ⟨c, hs, .inr hc⟩
    · exact (hs.2 b (Nat.ne_of_lt (Nat.lt_of_lt_of_le (Heap.lt_size e) (I.ok.cab x c hfn hc)))).trans (I.base.keep b o e n hb hx)
    · obtain ⟨sl, e1⟩ := I.base.slot b o e n hb hx
      exact ⟨sl, (hs.2 b (Nat.ne_of_lt (Nat.lt_of_lt_of_le (Heap.lt_size e) (I.ok.cab x c hfn hc)))).trans e1⟩
    · obtain ⟨o', e1⟩ := I.base.there b o e hx
      exact ⟨o', (hs.2 b (Nat.ne_of_lt (Nat.lt_of_lt_of_le (Heap.lt_size e) (I.ok.cab x c hfn hc)))).trans e1⟩
    · by_cases hj : j = i
      · subst hj
        rw [hi] at e1; cases e1
        rw [List.getElem?_set_self hiσ] at e2
        cases e2
        exact ⟨u, r, .inr ⟨.inl hk, c, hc, hc'⟩⟩
      · rw [List.getElem?_set_ne (Ne.symm hj)] at e2
        obtain ⟨u', r', q⟩ := hl j y v' e1 e2 e3
        refine ⟨u', r', ?_⟩
        rcases q with q | ⟨k, c', e, z'⟩
        · exact .inl q
        · refine .inr ⟨k, c', e, z'.sameBut hs ?_⟩
          rintro rfl
          exact hj (nodup_ix hN e1 (I.ok.inj _ _ _ e hc ▸ hi))
    · by_cases hcc : c' = c
      · subst hcc; exact ⟨_, hc'⟩
      · obtain ⟨w2, z2⟩ := I.cell y c' e
        exact ⟨w2, z2.sameBut hs hcc⟩
    · obtain ⟨e, n, ne, nf, d⟩ := I.pin p hp
      refine ⟨(hs.2 p.1 ?_).trans e, n, ne, nf, d⟩
      intro q
      rw [q, hoc] at e
      have q' : oc = p.2 := Option.some.inj e
      exact d w' (by rw [← q']; exact hocd)
theorem store_ok {M : Model} {A : Around} {E : Value → Shared → Prop} {i : Nat} {x : Str} {v : V} {u : Value} {Q : Unit → Shared → Prop} (I : Inv X pins σ H s) (hN : X.N.Nodup) (hi : X.N[i]? = some x) (hx : Loc X.env.scope x) (r : RelV v u)
    (h : ∀ s', Inv X pins (σ.set i (some v)) H s' → Q () s') (hf : X.fn x = true ∨ X.env.scope.names.lookup x = some .local := by first | exact .inl rfl | exact .inr rfl | assumption) : wpAny M A (storeName X.env x u) Q E s :=
  store_ok2 I hN hi hx r (fun s' I' _ => h s' I') hf
theorem Inv.call' {s' : Shared} {ch : List Addr} (I : Inv X pins σ H s) (ho : s'.os = s.os) (u : Un (frs X.stack) ch H H' s.heap s'.heap) (hok : HOk X.prog X.w H' s'.heap) (hg : AllBare s'.gens)
    (hch : ∀ b ∈ ch, (b ∈ X.ex ∨ X.s₀.heap.objs.size ≤ b) ∧ b ≠ X.env.locals ∧ (∀ x c, X.env.cells.lookup x = some c → c ≠ b) ∧ ∀ p ∈ X.pn ++ pins, p.1 ≠ b) : Inv X pins σ H' s' := by
  obtain ⟨h', g', d', t', o'⟩ := s'
  have e : o' = s.os := ho
  subst e
  exact I.call (g' := g') (t' := t') (d' := d') u hok hg hch
end
abbrev XK := Value → Option Addr → Hp → Prop
abbrev St := List (Option V)
abbrev VK := V → Hp → Prop
abbrev TE := St → Hp → VK → Prop
abbrev TT := St → Hp → (Bool → Hp → Prop) → Prop
abbrev TA := St → Hp → (List V → Hp → Prop) → Prop
structure Ends where
  nx : St → Hp → Prop
  rt : VK
  bk : St → Hp → Prop := fun _ _ => False
  ct : St → Hp → Prop := fun _ _ => False
abbrev TS := Ends → St → Hp → Prop
def EP (X : Cx) (pins : List (Addr × Obj)) (σ : St) (Q : VK) (u : Value) (s' : Shared) : Prop := ∃ v H', Inv X pins σ H' s' ∧ RelV v u ∧ Q v H'
def TP (X : Cx) (pins : List (Addr × Obj)) (σ : St) (Q : Bool → Hp → Prop) (b : Bool) (s' : Shared) : Prop := ∃ H', Inv X pins σ H' s' ∧ Q b H'
def AP (X : Cx) (pins : List (Addr × Obj)) (σ : St) (Q : List V → Hp → Prop) (us : List Value) (s' : Shared) : Prop := ∃ vs H', Inv X pins σ H' s' ∧ Vals vs us ∧ Q vs H'
def SP (X : Cx) (pins : List (Addr × Obj)) (D : Ends) (f : Flow) (s' : Shared) : Prop :=
  match f with
  | .next => ∃ σ' H', Inv X pins σ' H' s' ∧ D.nx σ' H'
  | .brk => ∃ σ' H', Inv X pins σ' H' s' ∧ D.bk σ' H'
  | .cont => ∃ σ' H', Inv X pins σ' H' s' ∧ D.ct σ' H'
  | .ret u => ∃ v σ' H', Inv X pins σ' H' s' ∧ RelV v u ∧ D.rt v H'
def PE (X : Cx) (e : Expr) (t : TE) : Prop :=
  ∀ (pins : List (Addr × Obj)) (s : Shared) (σ : St) (H : Hp) (Q : VK), Inv X pins σ H s → t σ H Q → wpAny (model X.prog X.w) X.A (eval e X.env) (EP X pins σ Q) X.xe s
def PT (X : Cx) (e : Expr) (t : TT) : Prop :=
  ∀ (pins : List (Addr × Obj)) (s : Shared) (σ : St) (H : Hp) (Q : Bool → Hp → Prop), Inv X pins σ H s → t σ H Q → wpAny (model X.prog X.w) X.A (isTrue e X.env (eval e X.env)) (TP X pins σ Q) X.xe s
def PW (X : Cx) (e : Expr) (t : TT) : Prop :=
  ∀ (whole : Sem Value) (pins : List (Addr × Obj)) (s : Shared) (σ : St) (H : Hp) (Q : Bool → Hp → Prop), Inv X pins σ H s → t σ H Q → wpAny (model X.prog X.w) X.A (isTrue e X.env whole) (TP X pins σ Q) X.xe s
theorem PW.pt {X : Cx} {e : Expr} {t : TT} (h : PW X e t) : PT X e t := h _
def PA (X : Cx) (es : List Expr) (t : TA) : Prop :=
  ∀ (pos : Pos) (pins : List (Addr × Obj)) (s : Shared) (σ : St) (H : Hp) (Q : List V → Hp → Prop), Inv X pins σ H s → t σ H Q → wpAny (model X.prog X.w) X.A (spliced (backTo pos (starEach es X.env))) (AP X pins σ Q) X.xe s
def PS (X : Cx) (st : Stmt) (t : TS) : Prop :=
  ∀ (pins : List (Addr × Obj)) (s : Shared) (σ : St) (H : Hp) (D : Ends), Inv X pins σ H s → t D σ H → wpAny (model X.prog X.w) X.A (exec st X.env) (SP X pins D) X.xe s
def PSs (X : Cx) (st : List Stmt) (t : TS) : Prop :=
  ∀ (pins : List (Addr × Obj)) (s : Shared) (σ : St) (H : Hp) (D : Ends), Inv X pins σ H s → t D σ H → wpAny (model X.prog X.w) X.A (execs st X.env) (SP X pins D) X.xe s
theorem thn {α : Type} {t : Sem α} {Q Q' : α → Shared → Prop} {M : Model} {A : Around} {E : Value → Shared → Prop} {s : Shared} (h : wpAny M A t Q E s) (hQ : ∀ a s, Q a s → Q' a s) : wpAny M A t Q' E s := wpAny_mono h hQ fun _ _ x => x
end L2
namespace L2
open PySem PySem.Spec PyProof.Rows
section
variable {X : Cx}
def tVar (i : Nat) : TE := fun σ H Q => ∃ v, σ[i]? = some (some v) ∧ Q v H
def tC (v : V) : TE := fun _ H Q => Q v H
theorem pe_var {i : Nat} {x : Str} {pos : Pos} (hN : X.N[i]? = some x) (hv : Vis X.env.scope x) (hd : (x == ("__debug__" : Str)) = false := by decide) (hcd : (x == ("__classdict__" : Str)) = false := by decide) : PE X (.Name x pos) (tVar i) := by
  intro pins s σ H Q I h
  obtain ⟨v, e, h⟩ := h
  obtain ⟨m, hn, hl⟩ := I.loc
  obtain ⟨u, r, l⟩ := hl i x v hN e hv
  have fin : EP X pins σ Q u s := ⟨v, H, I, r, h⟩
  rcases l with ⟨hk, hm⟩ | ⟨hk, c, hc, hcell⟩
  · exact wpAny_Name (wpAny_loadName_local I.ok.kind hk hn hm fin) hd
  · rcases hk with hk | hk
    · exact wpAny_Name (wpAny_loadName_cell I.ok.kind hk hc hcell fin) hd
    · exact wpAny_Name (wpAny_loadName_free I.ok.kind hk hc hcell fin hcd) hd
theorem pe_int {i j pos} : PE X (.Constant (.int i) j pos) (tC (.int i)) := fun _ _ _ H _ I h => wpAny_Constant_int ⟨.int i, H, I.tok _, ⟨_, rfl⟩, h⟩
theorem pe_bl {b j pos} : PE X (.Constant (.bool b) j pos) (tC (.bl b)) := fun _ _ _ H _ I h => Constant_bool ⟨.bl b, H, I, rfl, h⟩
theorem pe_non {j pos} : PE X (.Constant .none j pos) (tC .non) := fun _ _ _ H _ I h => Constant_none ⟨.non, H, I, rfl, h⟩
theorem pe_str {x j pos} : PE X (.Constant (.str x) j pos) (tC (.str x)) := fun _ _ _ H _ I h => Calls.Constant_str ⟨.str x, H, I.tok _, ⟨_, rfl⟩, h⟩
def Gl (X : Cx) (x : Str) : Prop := X.env.kindOf x = some .globalImplicit
theorem ld_glob {E : Value → Shared → Prop} {pins : List (Addr × Obj)} {s : Shared} {σ : St} {H : Hp} {x : Str} {u : Value} {pos : Pos} {Q : Value → Shared → Prop} (I : Inv X pins σ H s) (hg : Gl X x) (hm : X.mg x = some u) (h : Q u s)
    (hd : (x == ("__debug__" : Str)) = false := by decide) : wpAny (model X.prog X.w) X.A (eval (.Name x pos) X.env) Q E s :=
  Calls.Name_function_global I.ok.kind hg (Calls.loadGlobal_global (by rw [I.ok.glob]; exact I.mod.glob.keeps I.bk) hm h) hd
theorem ld_blt {E : Value → Shared → Prop} {pins : List (Addr × Obj)} {s : Shared} {σ : St} {H : Hp} {x : Str} {u : Value} {pos : Pos} {Q : Value → Shared → Prop} (I : Inv X pins σ H s) (hg : Gl X x) (hm : X.mg x = none) (hv : bootBuiltins x = some u) (h : Q u s)
    (hn : x ≠ "__name__" := by decide) (hd : (x == ("__debug__" : Str)) = false := by decide) : wpAny (model X.prog X.w) X.A (eval (.Name x pos) X.env) Q E s := by
  obtain ⟨mb, h1, h2⟩ := I.mod.blt
  exact Calls.Name_function_global I.ok.kind hg (Calls.loadGlobal_builtin (by rw [I.ok.glob]; exact I.mod.glob.keeps I.bk) hm (by rw [I.ok.blt]; exact h1.keeps I.bk) ((h2 x hn).trans hv) h) hd
theorem pe_glob {x : Str} {v : V} {u : Value} {pos : Pos} (hg : Gl X x) (hm : X.mg x = some u) (r : RelV v u) (hd : (x == ("__debug__" : Str)) = false := by decide) : PE X (.Name x pos) (tC v) :=
  fun _ _ _ H _ I h => ld_glob I hg hm ⟨v, H, I, r, h⟩ hd
theorem pe_bltn {x : Str} {v : V} {u : Value} {pos : Pos} (hg : Gl X x) (hm : X.mg x = none) (hv : bootBuiltins x = some u) (r : RelV v u) (hn : x ≠ "__name__" := by decide) (hd : (x == ("__debug__" : Str)) = false := by decide) : PE X (.Name x pos) (tC v) :=
  fun _ _ _ H _ I h => ld_blt I hg hm hv ⟨v, H, I, r, h⟩ hn hd
variable {a b : Expr} {ta tb : TE} {pos : Pos}
def tB (t : TE) : TT := fun σ H Q => t σ H fun x H1 => ∃ c, x = .bl c ∧ Q c H1
theorem pt_val {e : Expr} {t : TE} (h : PE X e t) (he : ∀ whole, isTrue e X.env whole = (do let v ← whole; standAt e.pos; holding [v] (truthy v)) := by intro _; rfl) : PT X e (tB t) := by
  intro pins s σ H Q I hw
  refine isTrue_plain (thn (h pins s σ H _ I hw) fun v s1 ⟨x, H1, I1, r1, q1⟩ => ?_) (he _)
  obtain ⟨d, rfl, q⟩ := q1
  cases r1
  exact wpAny_truthy_bool ⟨H1, I1, q⟩
variable {tA tB' : TT} {rest : List Expr}
def tOr (t u : TT) : TT := fun σ H Q => t σ H fun c H1 => if c = true then Q true H1 else u σ H1 Q
def tNot (t : TT) : TT := fun σ H Q => t σ H fun c H1 => Q (!c) H1
theorem pw_or1 (ha : PT X a tA) : PW X (.BoolOp .Or [a] pos) tA := by
  intro wh pins s σ H Q I h
  refine isTrue_or (thn (ha pins s σ H Q I h) fun c s1 e => ?_)
  cases c with
  | false => exact isTrue_or_nil e
  | true => exact e
theorem pw_or (ha : PT X a tA) (hb : PW X (.BoolOp .Or (b :: rest) pos) tB') : PW X (.BoolOp .Or (a :: b :: rest) pos) (tOr tA tB') := by
  intro wh pins s σ H Q I h
  refine isTrue_or (thn (ha pins s σ H _ I h) fun c s1 ⟨H1, I1, q1⟩ => ?_)
  cases c with
  | true => exact ⟨H1, I1, q1⟩
  | false => exact hb wh pins s1 σ H1 Q I1 q1
theorem pt_not (ha : PT X a tA) : PT X (.UnaryOp .Not a pos) (tNot tA) := by
  intro pins s σ H Q I h
  exact isTrue_not (ha pins s σ H (fun c H1 => Q (!c) H1) I h)
def tAndV (ta tb : TE) : TE := fun σ H Q => ta σ H fun x H1 => ∃ c, x = .bl c ∧ if c = true then tb σ H1 Q else Q (.bl false) H1
theorem pe_one {op} {t : TE} (h : PE X a t) : PE X (.BoolOp op [a] pos) t := fun pins s σ H Q I hw => BoolOp_one (h pins s σ H Q I hw)
theorem pe_and (ha : PE X a ta) (hb : PE X (.BoolOp .And (b :: rest) pos) tb) : PE X (.BoolOp .And (a :: b :: rest) pos) (tAndV ta tb) := by
  intro pins s σ H Q I h
  refine BoolOp_and (thn (ha pins s σ H _ I h) fun v s1 ⟨x, H1, I1, r1, q1⟩ => ?_)
  obtain ⟨c, rfl, q1⟩ := q1
  cases r1
  refine wpAny_truthy_bool ?_
  cases c with
  | true => exact hb pins s1 σ H1 Q I1 q1
  | false => exact ⟨.bl false, H1, I1, rfl, q1⟩
end
end L2
namespace L2
open PySem PySem.Spec PyProof.Rows
def SqL (K : PySem.W.Frag) (H : Hp) (a : Addr) (xs : List V) : Prop :=
  Rd H a (.lst xs) ∨
    ∃ (o : Obj) (its : Array Value) (n : Nat), K.lookup a = some o ∧ o.cls = .type "list" ∧ o.dict = none ∧ o.data = .seq its n ∧ its.size ≤ sizeLine ∧ Vals xs its.toList
def SqT (K : PySem.W.Frag) (H : Hp) (a : Addr) (xs : List V) : Prop :=
  Rd H a (.tup xs) ∨
    ∃ (o : Obj) (its : Array Value) (n : Nat), K.lookup a = some o ∧ o.cls = .type "tuple" ∧ o.data = .seq its n ∧ its.size ≤ sizeLine ∧ Vals xs its.toList
def absV : Value → Option V
  | .none => some .non
  | .bool b => some (.bl b)
  | .int i _ => some (.int i)
  | .str x _ => some (.str x)
  | .bytes b _ => some (.byt b)
  | .float b _ => some (.flt b)
  | .ref a => some (.ref a)
  | .type n => some (.ty n)
  | _ => none
theorem RelV.abs {x : V} {u : Value} (r : RelV x u) : absV u = some x := by
  cases x with
  | non => cases r; rfl
  | bl _ => cases r; rfl
  | int _ => obtain ⟨t, rfl⟩ := r; rfl
  | str _ => obtain ⟨t, rfl⟩ := r; rfl
  | byt _ => obtain ⟨t, rfl⟩ := r; rfl
  | flt _ => obtain ⟨t, rfl⟩ := r; rfl
  | ref _ => cases r; rfl
  | ty _ => cases r; rfl
theorem RelV.inj {x y : V} {u : Value} (r : RelV x u) (q : RelV y u) : x = y := Option.some.inj (r.abs.symm.trans q.abs)
theorem Vals.inj : ∀ {xs ys : List V} {us : List Value}, Vals xs us → Vals ys us → xs = ys
  | _, _, _, .nil, .nil => rfl
  | _, _, _, .cons r t, .cons r' t' => by rw [r.inj r', Vals.inj t t']
section
variable {X : Cx} {pins : List (Addr × Obj)} {σ : St} {H : Hp} {s : Shared} {a : Addr} {xs ys : List V}
theorem SqL.of {K : PySem.W.Frag} (h : H a = some (.lst xs)) : SqL K H a xs := .inl (.inl h)
theorem SqT.of {K : PySem.W.Frag} (h : H a = some (.tup xs)) : SqT K H a xs := .inl (.inl h)
theorem Inv.list (I : Inv X pins σ H s) (h : SqL X.K H a xs) : ∃ its : List Value, Vals xs its ∧ PlainL s.heap a its.toArray ∧ xs.length ≤ sizeLine := by
  rcases h with h | ⟨o, its, n, hk, hc, hd, hs, hz, r⟩
  · obtain ⟨z, its, n, r, e⟩ := h.ok I.hok
    exact ⟨its, r, ⟨_, n, e, rfl, rfl, rfl⟩, z⟩
  · refine ⟨its.toList, r, ⟨o, n, I.kIn a o hk, hc, hd, by simpa using hs⟩, ?_⟩
    have e := r.length
    simp only [Array.length_toList] at e
    omega
theorem Inv.tuple (I : Inv X pins σ H s) (h : SqT X.K H a xs) : ∃ its : List Value, Vals xs its ∧ IsTup s.heap a its.toArray ∧ xs.length ≤ sizeLine := by
  rcases h with h | ⟨o, its, n, hk, hc, hs, hz, r⟩
  · obtain ⟨z, its, r, p⟩ := h.ok I.hok
    exact ⟨its, r, p, z⟩
  · refine ⟨its.toList, r, ⟨o, I.kIn a o hk, hc, n, by simpa using hs⟩, ?_⟩
    have e := r.length
    simp only [Array.length_toList] at e
    omega
theorem Inv.list_inj (I : Inv X pins σ H s) (h : SqL X.K H a xs) (h' : SqL X.K H a ys) : xs = ys := by
  obtain ⟨its, r, ⟨o, n, e, _, _, d⟩, _⟩ := I.list h
  obtain ⟨its', r', ⟨o', n', e', _, _, d'⟩, _⟩ := I.list h'
  rw [e] at e'; cases e'
  rw [d] at d'
  injection d' with d1 _
  have : its = its' := by simpa using congrArg Array.toList d1
  subst this
  exact r.inj r'
theorem Inv.tuple_inj (I : Inv X pins σ H s) (h : SqT X.K H a xs) (h' : SqT X.K H a ys) : xs = ys := by
  obtain ⟨its, r, ⟨o, e, _, n, d⟩, _⟩ := I.tuple h
  obtain ⟨its', r', ⟨o', e', _, n', d'⟩, _⟩ := I.tuple h'
  rw [e] at e'; cases e'
  rw [d] at d'
  injection d' with d1 _
  have : its = its' := by simpa using congrArg Array.toList d1
  subst this
  exact r.inj r'
end
abbrev Cx.wish (X : Cx) (E : Value → Shared → Prop) : Cx := { X with xe := E }
abbrev Cx.nox (X : Cx) : Cx := X.wish fun _ _ => False
theorem Cx.Ok.wish {X : Cx} (ok : X.Ok) (E : Value → Shared → Prop) : (X.wish E).Ok :=
  ⟨ok.mod, ok.kind, ok.glob, ok.blt, ok.above, ok.inj, ok.has, ok.cab, ok.hd, ok.frames, ok.stk, ok.exf, ok.bs, ok.bsz, ok.noex, ok.exfs, ok.funs, ok.frf⟩
theorem Cx.Ok.unwish {X : Cx} {E : Value → Shared → Prop} (ok : (X.wish E).Ok) : X.Ok :=
  ⟨ok.mod, ok.kind, ok.glob, ok.blt, ok.above, ok.inj, ok.has, ok.cab, ok.hd, ok.frames, ok.stk, ok.exf, ok.bs, ok.bsz, ok.noex, ok.exfs, ok.funs, ok.frf⟩
section
variable {X : Cx} {pins : List (Addr × Obj)} {σ : St} {H : Hp} {s : Shared} {E : Value → Shared → Prop}
theorem Inv.wish (I : Inv X pins σ H s) (E : Value → Shared → Prop) : Inv (X.wish E) pins σ H s := ⟨I.ok.wish E, I.os, I.bare, I.base, I.loc, I.cell, I.free, I.freeC, I.pin, I.hok, I.len⟩
theorem Inv.unwish (I : Inv (X.wish E) pins σ H s) : Inv X pins σ H s := ⟨I.ok.unwish, I.os, I.bare, I.base, I.loc, I.cell, I.free, I.freeC, I.pin, I.hok, I.len⟩
theorem SP.unwish {D : Ends} {f : Flow} {s' : Shared} (h : SP (X.wish E) pins D f s') : SP X pins D f s' := by
  cases f with
  | next => obtain ⟨σ', H', I, q⟩ := h; exact ⟨σ', H', I.unwish, q⟩
  | brk => obtain ⟨σ', H', I, q⟩ := h; exact ⟨σ', H', I.unwish, q⟩
  | cont => obtain ⟨σ', H', I, q⟩ := h; exact ⟨σ', H', I.unwish, q⟩
  | ret u => obtain ⟨v, σ', H', I, r, q⟩ := h; exact ⟨v, σ', H', I.unwish, r, q⟩
theorem PSs.nox {st : List Stmt} {t : TS} (h : PSs X.nox st t) : PSs X st t := fun pins s σ H D I hw =>
  wpAny_mono (h pins s σ H D (I.wish _) hw) (fun _ _ q => q.unwish) fun _ _ z => False.elim z
end
section
variable {X : Cx} {st : Stmt} {rest : List Stmt} {t u : TS} {e : Expr} {te : TE} {pos : Pos}
def tNext : TS := fun D σ H => D.nx σ H
def tSeq (t u : TS) : TS := fun D σ H => t { D with nx := u D } σ H
theorem pss_nil : PSs X [] tNext := fun _ _ σ H _ I h => wpAny_execs_nil ⟨σ, H, I, h⟩
theorem pss_cons (h1 : PS X st t) (h2 : PSs X rest u) : PSs X (st :: rest) (tSeq t u) := by
  intro pins s σ H D I h
  refine wpAny_execs_cons (thn (h1 pins s σ H { D with nx := u D } I h) fun f s1 q => ?_)
  cases f with
  | next =>
    obtain ⟨σ', H', I', q⟩ := q
    exact h2 pins s1 σ' H' D I' q
  | ret v => exact q
  | brk => exact q
  | cont => exact q
theorem pss_one (h1 : PS X st t) : PSs X [st] t := by
  intro pins s σ H D I h
  refine wpAny_execs_cons (thn (h1 pins s σ H D I h) fun f s1 q => ?_)
  cases f with
  | next => exact wpAny_execs_nil q
  | ret v => exact q
  | brk => exact q
  | cont => exact q
theorem Inv.quiet {pins : List (Addr × Obj)} {σ : St} {H : Hp} {s : Shared} (I : Inv X pins σ H s) : interactive X.env = false := by simp [interactive, I.ok.kind]
def tDrop (te : TE) : TS := fun D σ H => te σ H fun _ H1 => D.nx σ H1
theorem ps_expr (he : PE X e te) (hs : swapsWith e none pos.line X.env = pure false := by rfl) : PS X (.Expr e pos) (tDrop te) := by
  intro pins s σ H D I h
  exact wpAny_Expr_any (thn (he pins s σ H _ I h) fun v s1 ⟨x, H1, I1, r1, q1⟩ => ⟨σ, H1, I1, q1⟩) I.quiet hs
def tRet (te : TE) : TS := fun D σ H => te σ H D.rt
theorem ps_ret (he : PE X e te) : PS X (.Return (some e) pos) (tRet te) := by
  intro pins s σ H D I h
  exact wpAny_Return_some (thn (he pins s σ H _ I h) fun v s1 ⟨x, H1, I1, r1, q1⟩ => ⟨x, σ, H1, I1, r1, q1⟩)
def tIfS (c : TT) (t u : TS) : TS := fun D σ H => c σ H fun b H1 => if b = true then t D σ H1 else u D σ H1
theorem ps_if {c : Expr} {a b : List Stmt} {tc : TT} (hc : PT X c tc) (ha : PSs X a t) (hb : PSs X b u) : PS X (.If c a b pos) (tIfS tc t u) := by
  intro pins s σ H D I h
  refine wpAny_If (thn (hc pins s σ H _ I h) fun d s1 ⟨H1, I1, q1⟩ => ?_)
  cases d with
  | true => exact ha pins s1 σ H1 D I1 q1
  | false => exact hb pins s1 σ H1 D I1 q1
end
abbrev TG := V → St → Hp → (St → Hp → Prop) → Prop
def PG (X : Cx) (target : Expr) (t : TG) : Prop :=
  ∀ (pins : List (Addr × Obj)) (s : Shared) (σ : St) (H : Hp) (v : V) (u : Value) (Q : St → Hp → Prop), Inv X pins σ H s → RelV v u → t v σ H Q →
    wpAny (model X.prog X.w) X.A (assign target X.env u) (fun _ s' => ∃ σ' H', Inv X pins σ' H' s' ∧ Q σ' H') X.xe s
abbrev TSet := V → V → V → Hp → (Hp → Prop) → Prop
def PSet (X : Cx) (t : TSet) : Prop :=
  ∀ (pins : List (Addr × Obj)) (s : Shared) (σ : St) (H : Hp) (o i v : V) (ov iv u : Value) (Q : Hp → Prop), Inv X pins σ H s → RelV o ov → RelV i iv → RelV v u → t o i v H Q →
    wpAny (model X.prog X.w) X.A (setItem ov iv u) (fun _ s' => ∃ H', Inv X pins σ H' s' ∧ Q H') X.xe s
section
variable {X : Cx} {pos : Pos}
def gName (i : Nat) : TG := fun v σ H Q => Q (σ.set i (some v)) H
theorem pg_name {i : Nat} {x : Str} (hN : X.N.Nodup) (hi : X.N[i]? = some x) (hx : Loc X.env.scope x) (hf : X.fn x = true ∨ X.env.scope.names.lookup x = some .local := by first | exact .inl rfl | exact .inr rfl | assumption) : PG X (.Name x pos) (gName i) := by
  intro pins s σ H v u Q I r h
  exact wpAny_assign_Name (store_ok I hN hi hx r (fun s' I' => ⟨_, H, I', h⟩) hf)
def gSub (to ti : TE) (t : TSet) : TG := fun v σ H Q => to σ H fun o H1 => ti σ H1 fun i H2 => t o i v H2 fun H3 => Q σ H3
theorem pg_sub {o i : Expr} {to ti : TE} {t : TSet} (ho : PE X o to) (hi : PE X i ti) (hs : PSet X t)
    (ha : ∀ v, assign (.Subscript o i pos) X.env v = (do
      let ov ← holding [v] (eval o X.env)
      let iv ← holding [v, ov] (eval i X.env)
      standAt pos
      holding [v, ov, iv] (setItem ov iv v)
      release [v, ov, iv] []) := by intro _; rfl) : PG X (.Subscript o i pos) (gSub to ti t) := by
  intro pins s σ H v u Q I r h
  rw [ha]
  refine wpAny_bind (wpAny_holding (thn (ho pins s σ H _ I h) fun ov s1 ⟨x, H1, I1, r1, q1⟩ => ?_))
  refine wpAny_bind (wpAny_holding (thn (hi pins s1 σ H1 _ I1 q1) fun iv s2 ⟨y, H2, I2, r2, q2⟩ => ?_))
  refine wpAny_bind (wpAny_standAt (wpAny_bind (wpAny_holding (thn (hs pins s2 σ H2 x y v ov iv u _ I2 r1 r2 r q2) fun _ s3 ⟨H3, I3, q3⟩ => ?_))))
  exact wpAny_release ⟨σ, H3, I3, q3⟩
def tAsg (te : TE) (g : TG) : TS := fun D σ H => te σ H fun x H1 => g x σ H1 D.nx
theorem ps_asg {tg e : Expr} {te : TE} {g : TG} (he : PE X e te) (hg : PG X tg g) (hs : swapsWithSole [tg] e pos.line X.env = pure false := by rfl) (hw : swappedStores [tg] e X.env = pure none := by rfl)
    (h1 : (assignEach [tg] X.env).map (·.2) = [assign tg X.env] := by rfl) : PS X (.Assign [tg] e pos) (tAsg te g) := by
  intro pins s σ H D I h
  refine wpAny_Assign_stores (thn (he pins s σ H _ I h) fun v s1 ⟨x, H1, I1, r1, q1⟩ => ?_) hs hw
  rw [h1]
  exact thn (hg pins s1 σ H1 x v _ I1 r1 q1) fun _ s2 q => q
theorem ps_set {i : Nat} {x : Str} {e : Expr} {te : TE} {pos' : Pos} (hN : X.N.Nodup) (hi : X.N[i]? = some x) (hx : Loc X.env.scope x) (he : PE X e te) (hs : swapsWith e (some (.Name x pos')) pos.line X.env = pure false := by rfl) (hf : X.fn x = true ∨ X.env.scope.names.lookup x = some .local := by first | exact .inl rfl | exact .inr rfl | assumption) :
    PS X (.Assign [.Name x pos'] e pos) (tAsg te (gName i)) := by
  intro pins s σ H D I h
  refine wpAny_Assign_Name (thn (he pins s σ H _ I h) fun v s1 ⟨y, H1, I1, r1, q1⟩ => ?_) hs
  exact store_ok I1 hN hi hx r1 (fun s2 I2 => ⟨_, H1, I2, q1⟩) hf
end
section
variable {X : Cx} {pos : Pos}
end
structure It where
  go : Nat → Hp → Prop
  yld : Nat → Hp → V → Hp → Prop
  stop : Nat → Hp → Prop
def FpOk (X : Cx) (pins : List (Addr × Obj)) (H : Hp) (b : Addr) : Prop :=
  H b = none ∧ b ≠ X.env.locals ∧ b ∉ X.fs ∧ (b ∈ X.ex ∨ X.s₀.heap.objs.size ≤ b) ∧ (∀ x c, X.env.cells.lookup x = some c → c ≠ b) ∧ ∀ p ∈ X.pn ++ pins, p.1 ≠ b
theorem Inv.fpOk {X : Cx} {pins : List (Addr × Obj)} {σ : St} {H H' : Hp} {s : Shared} {b : Addr} (I : Inv X pins σ H s) (hb : s.heap.objs.size ≤ b) (hn : H' b = none) : FpOk X pins H' b := by
  refine ⟨hn, Nat.ne_of_gt (Nat.lt_of_lt_of_le I.lt hb), I.nofs hb, .inr (Nat.le_trans I.sz hb), fun x c e z => ?_, fun p hp z => ?_⟩
  · obtain ⟨v, q⟩ := I.cell x c e
    exact absurd (Nat.lt_of_lt_of_le q.lt (by rw [z]; exact hb)) (Nat.lt_irrefl _)
  · exact absurd (Nat.lt_of_lt_of_le (Heap.lt_size (I.pin p hp).1) (by rw [z]; exact hb)) (Nat.lt_irrefl _)
structure Turn (P : Program) (w : World) (K : PySem.W.Frag) (tg : Expr) (J : It) (fp : List Addr) (it : Addr) (tn : Nat → Heap → Prop) : Prop where
  mem : it ∈ fp
  obj : ∀ i h, tn i h → ∀ b ∈ fp, ∃ o, h.get? b = some o ∧ ∀ v, o.data ≠ .cell v
  keep : ∀ i h h', tn i h → (∀ b ∈ fp, ∀ o, h.get? b = some o → h'.get? b = some o) → tn i h'
  item : ∀ (X : Cx), X.prog = P → X.w = w → X.K = K → X.calm = true → ∀ (i : Nat) (pins : List (Addr × Obj)) (s : Shared) (σ : St) (H : Hp) (E : Value → Shared → Prop), Inv X pins σ H s → (∀ b ∈ fp, FpOk X pins H b) → tn i s.heap → J.go i H →
    wpAny (model P w) X.A (pyNext (.ref it)) (fun r s1 => ∃ u, r = some u ∧
      wpAny (model P w) X.A (letOwnedTupleGo tg (.ref it) u) (fun _ s2 => ∃ x H', Inv X pins σ H' s2 ∧ RelV x u ∧ J.yld i H x H' ∧ tn (i + 1) s2.heap ∧ ∀ b ∈ fp, H' b = none) E s1) E s
  done : ∀ (X : Cx), X.prog = P → X.w = w → X.K = K → X.calm = true → ∀ (i : Nat) (pins : List (Addr × Obj)) (s : Shared) (σ : St) (H : Hp) (E : Value → Shared → Prop), Inv X pins σ H s → (∀ b ∈ fp, FpOk X pins H b) → tn i s.heap → J.stop i H →
    wpAny (model P w) X.A (pyNext (.ref it)) (fun r s1 => r = none ∧ Inv X pins σ H s1) E s
  self : ∀ (A : Around) (i : Nat) (s : Shared) (Q : Value → Shared → Prop) (E : Value → Shared → Prop), tn i s.heap → Q (.ref it) s → wpAny (model P w) A (pyIter (.ref it)) Q E s
abbrev TI := St → Hp → (It → Hp → Prop) → Prop
def PIE (X : Cx) (pins : List (Addr × Obj)) (σ : St) (tg : Expr) (R : It → Hp → Prop) (itv : Value) (s2 : Shared) : Prop :=
  ∃ (it : Addr) (fp : List Addr) (tn : Nat → Heap → Prop) (J : It) (H' : Hp), itv = .ref it ∧ Inv X pins σ H' s2 ∧ Turn X.prog X.w X.K tg J fp it tn ∧ tn 0 s2.heap ∧ (∀ b ∈ fp, FpOk X pins H' b) ∧ R J H'
def PI (X : Cx) (tg iter : Expr) (wi : TI) : Prop :=
  ∀ (pins : List (Addr × Obj)) (s : Shared) (σ : St) (H : Hp) (R : It → Hp → Prop), Inv X pins σ H s → wi σ H R →
    wpAny (model X.prog X.w) X.A (eval iter X.env) (fun v s1 => wpAny (model X.prog X.w) X.A (pyIter v) (PIE X pins σ tg R) X.xe s1) X.xe s
theorem go_of {M : Model} {A : Around} {E : Value → Shared → Prop} {s : Shared} {tg : Expr} {it : Addr} {u : Value} {o : Obj} {n : String} {vs : Array Value} {Q : Unit → Shared → Prop} (ho : s.heap.get? it = some o) (hc : o.cls = .type n) (hd : o.data = .fields vs)
    (hn : ["enumerate", "zip", "dict_itemiterator", "dict_reverseitemiterator", "odict_iterator", "itertools.zip_longest", "itertools.pairwise"].contains n = false) (hQ : Q () s) : wpAny M A (letOwnedTupleGo tg (.ref it) u) Q E s := by
  unfold letOwnedTupleGo
  cases tg <;> first
    | exact wpAny_pure hQ
    | (cases u <;> first
        | exact wpAny_pure hQ
        | (refine wpAny_bind (wpAny_load ho ?_)
           rw [hc, hd]
           show wpAny M A (if (["enumerate", "zip", "dict_itemiterator", "dict_reverseitemiterator", "odict_iterator", "itertools.zip_longest", "itertools.pairwise"].contains n && vs[0]? == some (rawInt _)) = true then _ else _) Q E s
           rw [if_neg (by intro h; rw [hn, Bool.false_and] at h; cases h)]
           exact wpAny_pure hQ))
def Itl (K : PySem.W.Frag) (a : Addr) : It :=
  ⟨fun i H => ∃ xs x, SqL K H a xs ∧ xs[i]? = some x, fun i H x H' => H' = H ∧ ∀ xs, SqL K H a xs → xs[i]? = some x, fun i H => ∃ xs, SqL K H a xs ∧ xs.length ≤ i⟩
def Itr (lo : Int) (n : Nat) : It := ⟨fun i _ => i < n, fun i H x H' => H' = H ∧ x = .int (lo + i), fun i _ => n ≤ i⟩
theorem turn_list {P : Program} {w : World} {K : PySem.W.Frag} {tg : Expr} (a it : Addr) : Turn P w K tg (Itl K a) [it] it (fun i h => h.IsListIter it a i) where
  mem := by simp
  obj := fun i h st b hb => by
    have e : b = it := by simpa using hb
    subst e
    obtain ⟨o, e, c, d⟩ := st
    exact ⟨o, e, fun v z => by rw [d] at z; cases z⟩
  keep := fun i h h' st k => st.at fun o e => k it (by simp) o e
  item := by
    intro X hP hw hK hc i pins s σ H E I hf st hg
    subst hP hw hK
    obtain ⟨xs, x, hq, hx⟩ := hg
    obtain ⟨its, rv, p, hz⟩ := I.list hq
    obtain ⟨u, hu, ru⟩ := rv.get hx
    obtain ⟨f0, f1, f2, f3, f4, f5⟩ := hf it (by simp)
    refine wpAny_pyNext_list_item st p.isList (x := u) (by simpa using hu) fun h' st' sb => ?_
    have I1 : Inv X pins σ H { s with heap := h' } := I.turned (t' := s.toks) (fun b o hb e => (sb.2 b hb).trans e) f0 f1 f3 f4 f5
    obtain ⟨o, e, c, d⟩ := id st'
    exact ⟨u, rfl, go_of (s := { s with heap := h' }) e c d (by decide) ⟨x, H, I1, ru, ⟨rfl, fun ys hy => by rw [I.list_inj hy hq]; exact hx⟩, st', fun b hb => (hf b hb).1⟩⟩
  done := by
    intro X hP hw hK hc i pins s σ H E I hf st hg
    subst hP hw hK
    obtain ⟨xs, hq, hx⟩ := hg
    obtain ⟨its, rv, p, hz⟩ := I.list hq
    obtain ⟨f0, f1, f2, f3, f4, f5⟩ := hf it (by simp)
    have hl := rv.length
    exact wpAny_pyNext_list_end (I.ok.hd hc) st p.isList (by simp; omega) fun h' eb => ⟨rfl, I.turned (t' := s.toks) (fun b o hb e => eb b o hb e) f0 f1 f3 f4 f5⟩
  self := fun _ _ _ _ _ st h => wpAny_pyIter_listiter st h
theorem turn_range {P : Program} {w : World} {K : PySem.W.Frag} {tg : Expr} (it : Addr) (lo : Int) (n : Nat) : Turn P w K tg (Itr lo n) [it] it (fun i h => IsRangeIter h it (lo + (i : Nat) * 1) ((n : Int) - (i : Nat)) 1) where
  mem := by simp
  obj := fun i h st b hb => by
    have e : b = it := by simpa using hb
    subst e
    exact ⟨_, st, fun v z => by
      have z' : Data.fields _ = Data.cell v := z
      cases z'⟩
  keep := fun i h h' st k => k it (by simp) _ st
  item := by
    intro X hP hw hK hc i pins s σ H E I hf st hg
    subst hP hw hK
    obtain ⟨f0, f1, f2, f3, f4, f5⟩ := hf it (by simp)
    have W := Walks.range (prog := X.prog) (w := X.w) (I.ok.hd hc) it lo 1 n
    refine W.item i s _ _ hg st fun v h' tk hv st' kk => ?_
    obtain ⟨t, rfl⟩ := hv
    have I1 : Inv X pins σ H { s with heap := h', toks := tk } := I.turned (fun b o hb e => kk b o (by simpa using hb) e) f0 f1 f3 f4 f5
    refine ⟨_, rfl, go_of (s := { s with heap := h', toks := tk }) (n := "range_iterator") st' rfl rfl (by decide) ⟨.int (lo + i), H, I1, ⟨t, ?_⟩, ⟨rfl, rfl⟩, st', fun b hb => (hf b hb).1⟩⟩
    rw [Int.mul_one]
  done := by
    intro X hP hw hK hc i pins s σ H E I hf st hg
    subst hP hw hK
    obtain ⟨f0, f1, f2, f3, f4, f5⟩ := hf it (by simp)
    exact wpAny_pyNext_range_end (I.ok.hd hc) st (by have : n ≤ i := hg; omega) fun h' eb => ⟨rfl, I.turned (t' := s.toks) (fun b o hb e => eb b o hb e) f0 f1 f3 f4 f5⟩
  self := fun _ _ _ _ _ st h => wpAny_pyIter_rangeiter st h
end L2
namespace L2
open PySem PySem.Spec PyProof.Rows
section
variable {X : Cx} {tg : Expr}
def iList (K : PySem.W.Frag) (tl : TE) : TI := fun σ H R => tl σ H fun x H1 => ∃ a, x = .ref a ∧ (∃ xs, SqL K H1 a xs) ∧ R (Itl K a) H1
theorem pi_list {l : Expr} {tl : TE} (hl : PE X l tl) : PI X tg l (iList X.K tl) := by
  intro pins s σ H R I h
  refine thn (hl pins s σ H _ I h) fun v s1 ⟨x, H1, I1, r1, q1⟩ => ?_
  obtain ⟨a, e, ⟨xs, hq⟩, q⟩ := q1
  subst e
  cases r1
  obtain ⟨its, rv, p, hz⟩ := I1.list hq
  refine wpAny_pyIter_list p.isList ?_
  refine ⟨s1.heap.objs.size, [s1.heap.objs.size], _, _, H1, rfl, I1.kept (t' := s1.toks) fun b o e => Heap.get?_push_of_some _ e, turn_list a _, ⟨_, Heap.get?_push_size _ rfl, rfl, rfl⟩, fun b hb => ?_, q⟩
  have e : b = s1.heap.objs.size := by simpa using hb
  subst e
  exact I1.fpOk (Nat.le_refl _) (I1.hok.fresh (Nat.le_refl _))
theorem range_it {pins : List (Addr × Obj)} {σ : St} {H : Hp} {s : Shared} {R : It → Hp → Prop} {E : Value → Shared → Prop} {lo hi : Int} {t u v : Tok} {tk : Nat} (I : Inv X pins σ H s) (h1 : -(2 ^ 62) ≤ lo) (h2 : lo < 2 ^ 62) (h3 : -(2 ^ 62) ≤ hi) (h4 : hi < 2 ^ 62)
    (q : R (Itr lo (hi - lo).toNat) H) : wpAny (model X.prog X.w) X.A (pyIter (.ref s.heap.objs.size)) (PIE X pins σ tg R) E { s with heap := s.heap.push { cls := .type "range", data := .fields #[.int lo t, .int hi u, .int 1 v] }, toks := tk } := by
  refine wpAny_pyIter_range (IsRange.new ..) (small_one h1 h2 h3 h4) ?_
  have I1 : Inv X pins σ H { s with heap := s.heap.push { cls := .type "range", data := .fields #[.int lo t, .int hi u, .int 1 v] }, toks := tk } := I.kept fun b o e => Heap.get?_push_of_some _ e
  refine ⟨(s.heap.push { cls := .type "range", data := .fields #[.int lo t, .int hi u, .int 1 v] }).objs.size, [(s.heap.push { cls := .type "range", data := .fields #[.int lo t, .int hi u, .int 1 v] }).objs.size], _, _, H, rfl,
    I1.kept (t' := tk) fun b o e => Heap.get?_push_of_some _ e, turn_range _ lo (hi - lo).toNat, ?_, fun b hb => ?_, q⟩
  · have e1 : lo + ((0 : Nat) : Int) * 1 = lo := by simp
    have e2 : (((hi - lo).toNat : Nat) : Int) - ((0 : Nat) : Int) = Builtin.Range.rangeSize lo hi 1 := by rw [rangeSize_one]; split <;> omega
    show IsRangeIter _ _ (lo + ((0 : Nat) : Int) * 1) ((((hi - lo).toNat : Nat) : Int) - ((0 : Nat) : Int)) 1
    rw [e1, e2]
    exact Heap.get?_push_size _ rfl
  · have e : b = (s.heap.push { cls := .type "range", data := .fields #[.int lo t, .int hi u, .int 1 v] }).objs.size := by simpa using hb
    subst e
    exact I1.fpOk (Nat.le_refl _) (I1.hok.fresh (Nat.le_refl _))
def iRng1 (ta : TA) : TI := fun σ H R => ta σ H fun vs H1 => ∃ j : Int, vs = [.int j] ∧ -(2 ^ 62) ≤ j ∧ j < 2 ^ 62 ∧ R (Itr 0 j.toNat) H1
theorem pi_range1 {a : Expr} {ta : TA} {p pos : Pos} (hg : Gl X "range") (hm : X.mg "range" = none) (ha : PA X [a] ta) (hs : starEach [a] X.env = [(false, eval a X.env)] := by rfl) : PI X tg (.Call (.Name "range" p) [a] [] pos) (iRng1 ta) := by
  intro pins s σ H R I h
  refine Call_ (ld_blt I hg hm boot_range (PyProof.Rows.callWith_type1 (thn (ha pos pins s σ H _ I h) fun us s1 ⟨vs, H1, I1, r1, q1⟩ => ?_) hs rfl))
  obtain ⟨j, e, q1, q2, q⟩ := q1
  subst e
  cases r1 with
  | cons r rr =>
    cases rr
    obtain ⟨t, rfl⟩ := r
    exact call_range_1 (range_it I1 (by omega) (by omega) q1 q2 (by simpa using q))
def tFor (wi : TI) (g : TG) (tb : TS) : TS := fun D σ H => wi σ H fun J H1 => ∃ W : Nat → Nat → St → Hp → Prop, (∃ m, W 0 m σ H1) ∧ ∀ i m σ H, W i m σ H →
  (J.stop i H ∧ D.nx σ H) ∨ (J.go i H ∧ ∃ N : St → Hp → Prop, (∀ σ' H', N σ' H' → ∃ m', m' < m ∧ W (i + 1) m' σ' H') ∧ ∀ x H', J.yld i H x H' → g x σ H' fun σ2 H2 => tb { D with nx := N, ct := N, bk := D.nx } σ2 H2)
def pinsAt (fp : List Addr) (h : Heap) : List (Addr × Obj) := fp.filterMap fun b => (h.get? b).map fun o => (b, o)
theorem mem_pinsAt {fp : List Addr} {h : Heap} {b : Addr} {o : Obj} (hb : b ∈ fp) (e : h.get? b = some o) : (b, o) ∈ pinsAt fp h := List.mem_filterMap.mpr ⟨b, hb, by rw [e]; rfl⟩
theorem of_pinsAt {fp : List Addr} {h : Heap} {p : Addr × Obj} (hp : p ∈ pinsAt fp h) : p.1 ∈ fp ∧ h.get? p.1 = some p.2 := by
  obtain ⟨b, hb, e⟩ := List.mem_filterMap.mp hp
  cases q : h.get? b with
  | none => rw [q] at e; cases e
  | some o =>
    rw [q] at e
    have e' : (b, o) = p := Option.some.inj e
    subst e'
    exact ⟨hb, q⟩
theorem Inv.pinned {pins : List (Addr × Obj)} {σ : St} {H : Hp} {s : Shared} {fp : List Addr} (I : Inv X pins σ H s) (hf : ∀ b ∈ fp, FpOk X pins H b) (ho : ∀ b ∈ fp, ∃ o, s.heap.get? b = some o ∧ ∀ v, o.data ≠ .cell v) : Inv X (pins ++ pinsAt fp s.heap) σ H s :=
  I.pins_of fun p hp => (List.mem_append.mp hp).elim (fun z => I.pin p (List.mem_append_right _ z)) fun z => by
    obtain ⟨hb, e⟩ := of_pinsAt z
    obtain ⟨f0, f1, f2, _⟩ := hf p.1 hb
    obtain ⟨o, e', d⟩ := ho p.1 hb
    rw [e] at e'; cases e'
    exact ⟨e, f0, f1, f2, d⟩
theorem Inv.unpinned {pins pl : List (Addr × Obj)} {σ : St} {H : Hp} {s : Shared} (I : Inv X (pins ++ pl) σ H s) : Inv X pins σ H s := I.pins_of fun p hp => I.pin p (List.mem_append_right _ (List.mem_append_left _ hp))
theorem ps_for {iter : Expr} {body : List Stmt} {wi : TI} {g : TG} {tb : TS} {pos : Pos} (hp : PassesOwn (model X.prog X.w) X.A X.env X.xe) (hc : X.calm = true) (hi : PI X tg iter wi) (hg : PG X tg g) (hb : PSs X body tb)
    (hs : ∀ x, foldedSetIterable iter X.env x = pure x := by intro _; rfl) : PS X (.For tg iter body [] pos) (tFor wi g tb) := by
  intro pins s σ H D I h
  refine wpAny_For (thn (hi pins s σ H _ I h) fun v s1 h1 => thn h1 fun itv s2 h2 => ?_) hs
  obtain ⟨it, fp, tn, J, H2, e, I2, T, st2, f2, W, ⟨m0, w0⟩, turn⟩ := h2
  subst e
  have stat : ∀ {H' : Hp}, (∀ b ∈ fp, H' b = none) → ∀ b ∈ fp, FpOk X pins H' b := fun hn b hb => ⟨hn b hb, (f2 b hb).2⟩
  refine codeAny_forLoop_any (fun n s' => ∃ i σ' H', Inv X pins σ' H' s' ∧ tn i s'.heap ∧ (∀ b ∈ fp, H' b = none) ∧ W i n σ' H') ?_ m0 ⟨0, σ, H2, I2, st2, fun b hb => (f2 b hb).1, w0⟩
  rintro n s3 ⟨i, σ3, H3, I3, st3, fr3, w3⟩
  rcases turn i n σ3 H3 w3 with ⟨stop, qn⟩ | ⟨go, N, hN, step⟩
  · refine wpAny_passesOwn hp (thn (T.done X rfl rfl rfl hc i pins s3 σ3 H3 X.xe I3 (stat fr3) st3 stop) fun r s4 ⟨hr, I4⟩ => ?_)
    subst hr
    exact wpAny_execs_nil ⟨σ3, H3, I4, qn⟩
  · refine wpAny_passesOwn hp (thn (T.item X rfl rfl rfl hc i pins s3 σ3 H3 X.xe I3 (stat fr3) st3 go) fun r s4 ⟨u, hr, h4⟩ => ?_)
    subst hr
    refine wpAny_passesOwn hp (thn h4 fun _ s5 ⟨x, H5, I5, r5, y5, st5, fr5⟩ => ?_)
    have I5' := I5.pinned (stat fr5) (T.obj _ _ st5)
    refine wpAny_passesOwn hp (thn (hg _ s5 σ3 H5 x u _ I5' r5 (step x H5 y5)) fun _ s6 ⟨σ6, H6, I6, q6⟩ => ?_)
    refine wpAny_passesOwn hp (thn (hb _ s6 σ6 H6 _ I6 q6) fun f s7 q7 => ?_)
    have again : ∀ {σ7 : St} {H7 : Hp}, Inv X (pins ++ pinsAt fp s5.heap) σ7 H7 s7 → N σ7 H7 → ∃ m, m < n ∧ ∃ i σ' H', Inv X pins σ' H' s7 ∧ tn i s7.heap ∧ (∀ b ∈ fp, H' b = none) ∧ W i m σ' H' := fun {σ7 H7} I7 n7 => by
      obtain ⟨m', hm, w7⟩ := hN σ7 H7 n7
      refine ⟨m', hm, i + 1, σ7, H7, I7.unpinned, T.keep _ _ _ st5 fun b hb o e => (I7.pin (b, o) (List.mem_append_right _ (List.mem_append_right _ (mem_pinsAt hb e)))).1, fun b hb => ?_, w7⟩
      obtain ⟨o, e, d⟩ := T.obj _ _ st5 b hb
      exact (I7.pin (b, o) (List.mem_append_right _ (List.mem_append_right _ (mem_pinsAt hb e)))).2.1
    cases f with
    | next => obtain ⟨σ7, H7, I7, n7⟩ := q7; exact again I7 n7
    | cont => obtain ⟨σ7, H7, I7, n7⟩ := q7; exact again I7 n7
    | brk => obtain ⟨σ7, H7, I7, q7⟩ := q7; exact ⟨σ7, H7, I7.unpinned, q7⟩
    | ret v => obtain ⟨x7, σ7, H7, I7, r7, q7⟩ := q7; exact ⟨x7, σ7, H7, I7.unpinned, r7, q7⟩
end
theorem for_list {K : PySem.W.Frag} {a : Addr} {xs : List V} {g : TG} {tb : TS} {D : Ends} {σ : St} {H : Hp} (Pv : Nat → St → Hp → Prop) (h0 : Pv 0 σ H) (hl : ∀ i σ H, i ≤ xs.length → Pv i σ H → SqL K H a xs)
    (hs : ∀ i x σ H, xs[i]? = some x → Pv i σ H → g x σ H fun σ2 H2 => tb { D with nx := Pv (i + 1), ct := Pv (i + 1), bk := D.nx } σ2 H2) (hd : ∀ σ H, Pv xs.length σ H → D.nx σ H) :
    ∃ W : Nat → Nat → St → Hp → Prop, (∃ m, W 0 m σ H) ∧ ∀ i m σ H, W i m σ H →
      ((Itl K a).stop i H ∧ D.nx σ H) ∨ ((Itl K a).go i H ∧ ∃ N : St → Hp → Prop, (∀ σ' H', N σ' H' → ∃ m', m' < m ∧ W (i + 1) m' σ' H') ∧ ∀ x H', (Itl K a).yld i H x H' → g x σ H' fun σ2 H2 => tb { D with nx := N, ct := N, bk := D.nx } σ2 H2) := by
  refine ⟨fun i m σ H => m = xs.length - i ∧ i ≤ xs.length ∧ Pv i σ H, ⟨xs.length, by simp, Nat.zero_le _, h0⟩, ?_⟩
  rintro i m σ H ⟨rfl, hi, p⟩
  have q := hl i σ H hi p
  by_cases hlt : i < xs.length
  · refine .inr ⟨⟨xs, xs[i], q, by simp [hlt]⟩, Pv (i + 1), fun σ' H' p' => ⟨xs.length - (i + 1), by omega, rfl, hlt, p'⟩, fun x H' y => ?_⟩
    obtain ⟨e, y⟩ := y
    subst e
    exact hs i x σ _ (y xs q) p
  · have e : i = xs.length := by omega
    subst e
    exact .inl ⟨⟨xs, q, Nat.le_refl _⟩, hd σ H p⟩
end L2
namespace L2
open PySem PySem.Spec PyProof.Rows
abbrev R2 := V → V → Hp → VK → Prop
def OpR (X : Cx) (f : Value → Value → Sem Value) (r : R2) : Prop :=
  ∀ (pins : List (Addr × Obj)) (s : Shared) (σ : St) (H : Hp) (x y : V) (v u : Value) (Q : VK), Inv X pins σ H s → RelV x v → RelV y u → r x y H Q →
    wpAny (model X.prog X.w) X.A (f v u) (EP X pins σ Q) X.xe s
def UnR (X : Cx) (f : Value → Sem Value) (r : V → Hp → VK → Prop) : Prop :=
  ∀ (pins : List (Addr × Obj)) (s : Shared) (σ : St) (H : Hp) (x : V) (v : Value) (Q : VK), Inv X pins σ H s → RelV x v → r x H Q →
    wpAny (model X.prog X.w) X.A (f v) (EP X pins σ Q) X.xe s
def CallR (X : Cx) (f : Value) (r : List V → Hp → VK → Prop) : Prop :=
  ∀ (pins : List (Addr × Obj)) (s : Shared) (σ : St) (H : Hp) (xs : List V) (us : List Value) (Q : VK), Inv X pins σ H s → Vals xs us → r xs H Q →
    wpAny (model X.prog X.w) X.A (call f us) (EP X pins σ Q) X.xe s
def tOp (r : R2) (ta tb : TE) : TE := fun σ H Q => ta σ H fun x H1 => tb σ H1 fun y H2 => r x y H2 Q
def tUn (r : V → Hp → VK → Prop) (ta : TE) : TE := fun σ H Q => ta σ H fun x H1 => r x H1 Q
def rI (C : Int → Int → Prop) (g : Int → Int → V) : R2 := fun x y H Q => ∃ i j, x = .int i ∧ y = .int j ∧ C i j ∧ Q (g i j) H
def rI0 (g : Int → Int → V) : R2 := fun x y H Q => ∃ i j, x = .int i ∧ y = .int j ∧ Q (g i j) H
def rU (g : Int → V) : V → Hp → VK → Prop := fun x H Q => ∃ i, x = .int i ∧ Q (g i) H
section
variable {X : Cx} {a b c : Expr} {ta tb tc : TE} {pos : Pos}
theorem binT (ha : PE X a ta) (hb : PE X b tb) {pins : List (Addr × Obj)} {s : Shared} {σ : St} {H : Hp} {R : V → V → Hp → Prop} (I : Inv X pins σ H s)
    (h : ta σ H fun x H1 => tb σ H1 fun y H2 => R x y H2) {Q : Value → Shared → Prop} {f : Value → Value → Sem Value}
    (hf : ∀ v u s2 x y H2, Inv X pins σ H2 s2 → RelV x v → RelV y u → R x y H2 → wpAny (model X.prog X.w) X.A (f v u) Q X.xe s2) :
    wpAny (model X.prog X.w) X.A (eval a X.env) (fun v s₁ => wpAny (model X.prog X.w) X.A (eval b X.env) (fun u s₂ => wpAny (model X.prog X.w) X.A (f v u) Q X.xe s₂) X.xe s₁) X.xe s := by
  refine thn (ha pins s σ H _ I h) fun v s1 ⟨x, H1, I1, r1, q1⟩ => ?_
  refine thn (hb pins s1 σ H1 _ I1 q1) fun u s2 ⟨y, H2, I2, r2, q2⟩ => ?_
  exact hf v u s2 x y H2 I2 r1 r2 q2
theorem pe_op {op : Operator} {r : R2} (ho : OpR X (binaryOp op) r) (ha : PE X a ta) (hb : PE X b tb) : PE X (.BinOp a op b pos) (tOp r ta tb) := by
  intro pins s σ H Q I h
  exact wpAny_BinOp (binT ha hb I h fun v u s2 x y H2 I2 rx ry q => ho pins s2 σ H2 x y v u Q I2 rx ry q)
theorem pe_un {op : UnaryOp} {r : V → Hp → VK → Prop} (ho : UnR X (unaryOp op) r) (ha : PE X a ta) : PE X (.UnaryOp op a pos) (tUn r ta) := by
  intro pins s σ H Q I h
  exact UnaryOp_ (thn (ha pins s σ H _ I h) fun v s1 ⟨x, H1, I1, r1, q1⟩ => ho pins s1 σ H1 x v Q I1 r1 q1)
theorem opI {f : Value → Value → Sem Value} {C : Int → Int → Prop} {g : Int → Int → Int}
    (rule : ∀ (i j : Int) (t u : Tok) (s : Shared) (Q : Value → Shared → Prop) (E : Value → Shared → Prop), C i j → Q (.int (g i j) s.toks) { s with toks := s.toks + 1 } → wpAny (model X.prog X.w) X.A (f (.int i t) (.int j u)) Q E s) :
    OpR X f (rI C fun i j => .int (g i j)) := by
  intro pins s σ H x y v u Q I rx ry h
  obtain ⟨i, j, rfl, rfl, hc, q⟩ := h
  obtain ⟨t, rfl⟩ := rx
  obtain ⟨t', rfl⟩ := ry
  exact rule i j t t' s _ _ hc ⟨.int (g i j), H, I.tok _, ⟨_, rfl⟩, q⟩
theorem opI0 {f : Value → Value → Sem Value} {g : Int → Int → Int}
    (rule : ∀ (i j : Int) (t u : Tok) (s : Shared) (Q : Value → Shared → Prop) (E : Value → Shared → Prop), Q (.int (g i j) s.toks) { s with toks := s.toks + 1 } → wpAny (model X.prog X.w) X.A (f (.int i t) (.int j u)) Q E s) :
    OpR X f (rI0 fun i j => .int (g i j)) := by
  intro pins s σ H x y v u Q I rx ry h
  obtain ⟨i, j, rfl, rfl, q⟩ := h
  obtain ⟨t, rfl⟩ := rx
  obtain ⟨t', rfl⟩ := ry
  exact rule i j t t' s _ _ ⟨.int (g i j), H, I.tok _, ⟨_, rfl⟩, q⟩
theorem opB0 {f : Value → Value → Sem Value} {g : Int → Int → Bool}
    (rule : ∀ (i j : Int) (t u : Tok) (s : Shared) (Q : Value → Shared → Prop) (E : Value → Shared → Prop), Q (.bool (g i j)) s → wpAny (model X.prog X.w) X.A (f (.int i t) (.int j u)) Q E s) :
    OpR X f (rI0 fun i j => .bl (g i j)) := by
  intro pins s σ H x y v u Q I rx ry h
  obtain ⟨i, j, rfl, rfl, q⟩ := h
  obtain ⟨t, rfl⟩ := rx
  obtain ⟨t', rfl⟩ := ry
  exact rule i j t t' s _ _ ⟨.bl (g i j), H, I, rfl, q⟩
def CDiv (i j : Int) : Prop := 0 < j ∧ j < 1073741824
def CPow (i j : Int) : Prop := 0 ≤ j ∧ j ≤ 1000000 ∧ i.natAbs < 2 ^ 64
def CMul (i j : Int) : Prop := (-(2 ^ 64) < i ∧ i < 2 ^ 64) ∨ (-(2 ^ 64) < j ∧ j < 2 ^ 64)
theorem CMul.ok {i j : Int} (h : CMul i j) : IntMulOk i j := by
  rcases h with ⟨h1, h2⟩ | ⟨h1, h2⟩
  · exact .of_left (intBits_le_64 h1 h2)
  · exact .of_right (intBits_le_64 h1 h2)
theorem op_add : OpR X (binaryOp .Add) (rI0 fun i j => .int (i + j)) := opI0 fun _ _ _ _ _ _ _ q => add_int q
theorem op_sub : OpR X (binaryOp .Sub) (rI0 fun i j => .int (i - j)) := opI0 fun _ _ _ _ _ _ _ q => sub_int q
theorem op_mul : OpR X (binaryOp .Mult) (rI CMul fun i j => .int (i * j)) := opI fun _ _ _ _ _ _ _ hc q => mul_int q hc.ok
theorem op_fdiv : OpR X (binaryOp .FloorDiv) (rI CDiv fun i j => .int (i / j)) := opI fun i j _ _ _ _ _ hc q => by
  have h1 : (0 : Int) < j := hc.1
  have h2 : j < 1073741824 := hc.2
  exact floordiv_int (by omega) (by rw [Int.fdiv_eq_ediv_of_nonneg i (by omega)]; exact q) (.inl (PyProof.noPylong_small (by omega)))
theorem op_mod : OpR X (binaryOp .Mod) (rI (fun _ j => 0 < j) fun i j => .int (i % j)) := opI fun i j _ _ _ _ _ hc q => by
  have h1 : (0 : Int) < j := hc
  exact mod_int' (by omega) (by rw [Int.fmod_eq_emod_of_nonneg i (by omega)]; exact q)
theorem op_pow : OpR X (binaryOp .Pow) (rI CPow fun i j => .int (i ^ j.toNat)) := opI fun _ _ _ _ _ _ _ hc q => pow_int_small hc.1 hc.2.1 hc.2.2 q
theorem unI {f : Value → Sem Value} {g : Int → Int}
    (rule : ∀ (i : Int) (t : Tok) (s : Shared) (Q : Value → Shared → Prop) (E : Value → Shared → Prop), Q (.int (g i) s.toks) { s with toks := s.toks + 1 } → wpAny (model X.prog X.w) X.A (f (.int i t)) Q E s) :
    UnR X f (rU fun i => .int (g i)) := by
  intro pins s σ H x v Q I rx h
  obtain ⟨i, rfl, q⟩ := h
  obtain ⟨t, rfl⟩ := rx
  exact rule i t s _ _ ⟨.int (g i), H, I.tok _, ⟨_, rfl⟩, q⟩
theorem un_neg : UnR X (unaryOp .USub) (rU fun i => .int (-i)) := unI fun _ _ _ _ _ q => neg_int q
end
def scal : V → V → Bool
  | .non, .non => true | .non, .int _ => true | .int _, .non => true | .non, .bl _ => true | .bl _, .non => true | .non, .str _ => true | .str _, .non => true
  | .int _, .int _ => true | .bl _, .bl _ => true | .str _, .str _ => true | .byt _, .byt _ => true
  | .int _, .str _ => true | .str _, .int _ => true | .bl _, .str _ => true | .str _, .bl _ => true
  | _, _ => false
def rEq : R2 := fun x y H Q => scal x y = true ∧ Q (.bl (decide (x = y))) H
theorem dec_int {i j : Int} : decide (V.int i = V.int j) = (i == j) := by
  rw [Bool.eq_iff_iff]
  simp
theorem dec_bl {i j : Bool} : decide (V.bl i = V.bl j) = (i == j) := by
  rw [Bool.eq_iff_iff]
  simp
theorem dec_str {i j : Str} : decide (V.str i = V.str j) = (i == j) := by
  rw [Bool.eq_iff_iff]
  simp
theorem dec_byt {i j : Array UInt8} : decide (V.byt i = V.byt j) = (i.toList == j.toList) := by
  rw [Bool.eq_iff_iff]
  cases i
  cases j
  simp
section
variable {X : Cx} {a b c : Expr} {ta tb tc : TE} {pos : Pos}
theorem fin_bl {pins : List (Addr × Obj)} {σ : St} {H : Hp} {s : Shared} {Q : VK} {k k' : Bool} (I : Inv X pins σ H s) (q : Q (.bl k) H) (e : k = k') : EP X pins σ Q (.bool k') s := by
  subst e
  exact ⟨.bl k, H, I, rfl, q⟩
theorem op_eq : OpR X (compareOp .Eq) rEq := by
  intro pins s σ H x y v u Q I rx ry h
  obtain ⟨hs, q⟩ := h
  cases x with
  | non =>
    cases rx
    cases y with
    | non => cases ry; exact PySem.EqNone.eq_none_none (fin_bl I q (by simp))
    | bl j => cases ry; exact PySem.EqNone.eq_none_bool (fin_bl I q (by simp))
    | int j => obtain ⟨t', rfl⟩ := ry; exact PySem.EqNone.eq_none_int (fin_bl I q (by simp))
    | str j => obtain ⟨t', rfl⟩ := ry; exact PySem.EqNone.eq_none_str (fin_bl I q (by simp))
    | _ => exact absurd (show false = true from hs) Bool.false_ne_true
  | bl i =>
    cases rx
    cases y with
    | non => cases ry; exact PySem.EqNone.eq_bool_none (fin_bl I q (by simp))
    | bl j => cases ry; exact eq_bool (fin_bl I q dec_bl)
    | str j => obtain ⟨t', rfl⟩ := ry; exact PySem.EqMixed.eq_bool_str (fin_bl I q (by simp))
    | _ => exact absurd (show false = true from hs) Bool.false_ne_true
  | int i =>
    obtain ⟨t, rfl⟩ := rx
    cases y with
    | non => cases ry; exact PySem.EqNone.eq_int_none (fin_bl I q (by simp))
    | int j => obtain ⟨t', rfl⟩ := ry; exact eq_int (fin_bl I q dec_int)
    | str j => obtain ⟨t', rfl⟩ := ry; exact PySem.EqMixed.eq_int_str (fin_bl I q (by simp))
    | _ => exact absurd (show false = true from hs) Bool.false_ne_true
  | str i =>
    obtain ⟨t, rfl⟩ := rx
    cases y with
    | non => cases ry; exact PySem.EqNone.eq_str_none (fin_bl I q (by simp))
    | bl j => cases ry; exact PySem.EqMixed.eq_str_bool (fin_bl I q (by simp))
    | int j => obtain ⟨t', rfl⟩ := ry; exact PySem.EqMixed.eq_str_int (fin_bl I q (by simp))
    | str j => obtain ⟨t', rfl⟩ := ry; exact eq_str (fin_bl I q dec_str)
    | _ => exact absurd (show false = true from hs) Bool.false_ne_true
  | byt i =>
    obtain ⟨t, rfl⟩ := rx
    cases y with
    | byt j => obtain ⟨t', rfl⟩ := ry; exact PySem.W.eq_bytes (fin_bl I q dec_byt)
    | _ => exact absurd (show false = true from hs) Bool.false_ne_true
  | _ => cases y <;> exact absurd (show false = true from hs) Bool.false_ne_true
theorem op_lt : OpR X (compareOp .Lt) (rI0 fun i j => .bl (decide (i < j))) := opB0 fun _ _ _ _ _ _ _ q => lt_int q
theorem op_le : OpR X (compareOp .LtE) (rI0 fun i j => .bl (decide (i ≤ j))) := opB0 fun _ _ _ _ _ _ _ q => le_int q
theorem op_gt : OpR X (compareOp .Gt) (rI0 fun i j => .bl (decide (j < i))) := opB0 fun _ _ _ _ _ _ _ q => gt_int q
theorem op_ge : OpR X (compareOp .GtE) (rI0 fun i j => .bl (decide (j ≤ i))) := opB0 fun _ _ _ _ _ _ _ q => ge_int q
theorem nomark (b : Expr) {op : CmpOp} (h : op ≠ .In := by decide) (h2 : op ≠ .NotIn := by decide) : behindInMarks op b = false := by
  have e1 : (op == CmpOp.In) = false := by cases op <;> first | rfl | exact absurd rfl h
  have e2 : (op == CmpOp.NotIn) = false := by cases op <;> first | rfl | exact absurd rfl h2
  cases b <;> simp [behindInMarks, e1, e2]
theorem pe_cmpR {op : CmpOp} {r : R2} (ho : OpR X (compareOp op) r) (ha : PE X a ta) (hb : PE X b tb) (hm : behindInMarks op b = false) : PE X (.Compare a [op] [b] pos) (tOp r ta tb) := by
  intro pins s σ H Q I h
  exact wpAny_Compare1 (binT ha hb I h fun v u s2 x y H2 I2 rx ry q => ho pins s2 σ H2 x y v u Q I2 rx ry q) hm
def tTest (t : TE) : TT := fun σ H Q => t σ H fun x H' => ∃ k, x = .bl k ∧ Q k H'
theorem pt_cmpR {op : CmpOp} {r : R2} (ho : OpR X (compareOp op) r) (ha : PE X a ta) (hb : PE X b tb) (hm : behindInMarks op b = false) : PT X (.Compare a [op] [b] pos) (tTest (tOp r ta tb)) := by
  intro pins s σ H Q I h
  refine wpAny_isTrue_Compare1 (thn (ha pins s σ H _ I h) fun v s1 ⟨x, H1, I1, r1, q1⟩ => thn (hb pins s1 σ H1 _ I1 q1) fun u s2 ⟨y, H2, I2, r2, q2⟩ =>
    thn (ho pins s2 σ H2 x y v u _ I2 r1 r2 q2) fun c s3 ⟨z, H3, I3, r3, k, e, q3⟩ => ?_) hm
  subst e
  cases r3
  exact wpAny_truthy_bool ⟨H3, I3, q3⟩
theorem line63 : (sizeLine : Nat) < 2 ^ 63 := by rw [sizeLine_eq]; decide
theorem vals1 {x : V} {us : List Value} (r : Vals [x] us) : ∃ u, us = [u] ∧ RelV x u := by
  cases r with
  | cons r1 r2 => cases r2; exact ⟨_, rfl, r1⟩
theorem vals2 {x y : V} {us : List Value} (r : Vals [x, y] us) : ∃ u w', us = [u, w'] ∧ RelV x u ∧ RelV y w' := by
  cases r with
  | cons r1 r2 =>
    cases r2 with
    | cons r3 r4 => cases r4; exact ⟨_, _, rfl, r1, r3⟩
theorem call_max2 (hc : X.calm = true) : CallR X (.builtin "max") (fun xs H Q => ∃ i j, xs = [.int i, .int j] ∧ Q (.int (if j > i then j else i)) H) := by
  intro pins s σ H xs us Q I r h
  obtain ⟨i, j, rfl, q⟩ := h
  obtain ⟨u, w', rfl, ⟨t, rfl⟩, ⟨t', rfl⟩⟩ := vals2 r
  refine max_two_ints (I.ok.hd hc) fun h' tk k => ⟨_, H, I.kept k, ?_, q⟩
  by_cases hj : j > i
  · rw [if_pos hj, if_pos hj]; exact ⟨_, rfl⟩
  · rw [if_neg hj, if_neg hj]; exact ⟨_, rfl⟩
theorem call_min2 (hc : X.calm = true) : CallR X (.builtin "min") (fun xs H Q => ∃ i j, xs = [.int i, .int j] ∧ Q (.int (if j < i then j else i)) H) := by
  intro pins s σ H xs us Q I r h
  obtain ⟨i, j, rfl, q⟩ := h
  obtain ⟨u, w', rfl, ⟨t, rfl⟩, ⟨t', rfl⟩⟩ := vals2 r
  refine min_two_ints (I.ok.hd hc) fun h' tk k => ⟨_, H, I.kept k, ?_, q⟩
  by_cases hj : j < i
  · rw [if_pos hj, if_pos hj]; exact ⟨_, rfl⟩
  · rw [if_neg hj, if_neg hj]; exact ⟨_, rfl⟩
theorem call_int1 : CallR X (.type "int") (fun xs H Q => (∃ i, xs = [.int i] ∧ Q (.int i) H) ∨ ∃ k, xs = [.bl k] ∧ Q (.int (if k then 1 else 0)) H) := by
  intro pins s σ H xs us Q I r h
  rcases h with ⟨i, rfl, q⟩ | ⟨k, rfl, q⟩
  · obtain ⟨u, rfl, t, rfl⟩ := vals1 r
    exact call_int_int ⟨.int i, H, I, ⟨_, rfl⟩, q⟩
  · obtain ⟨u, rfl, r1⟩ := vals1 r
    cases r1
    exact call_int_bool ⟨.int (if k then 1 else 0), H, I.tok _, ⟨_, rfl⟩, q⟩
end
end L2
namespace L2
open PySem PySem.Spec PyProof.Rows
structure ObjM (h : Heap) (x dx C : Addr) (mA : Str → Option Value) : Prop where
  obj : h.get? x = some (PySem.W.instObj C dx)
  ns : h.Ns1 dx mA
  ne : dx ≠ x
theorem lookIn_ns {h : Heap} {dx : Addr} {mA : Str → Option Value} (n : h.Ns1 dx mA) : ∃ od, h.get? dx = some od ∧ ∀ name, PySem.W.lookIn name od = some (mA name) := by
  obtain ⟨o, es, ep, ho, hd, hk, _, hm⟩ := n
  refine ⟨o, ho, fun name => ?_⟩
  have e := hm name
  unfold nsFind findBy at e
  rw [← Array.find?_toList] at e
  unfold PySem.W.lookIn
  rw [hd]
  dsimp only
  split
  · rename_i y q
    rw [q] at e
    exact congrArg some e
  · rename_i q
    rw [q] at e
    have a : es.toList.any (·.refKey) = false := by
      rw [List.any_eq_false]
      intro y hy
      obtain ⟨z, t, hkey⟩ := hk y (Array.mem_toList_iff.mp hy)
      simp [DictEntry.refKey, hkey]
    have a' : ¬ es.toList.any (·.refKey) = true := by rw [a]; exact Bool.false_ne_true
    rw [if_neg a']
    exact congrArg some e
theorem ObjM.look {h : Heap} {x dx C : Addr} {mA : Str → Option Value} (I : ObjM h x dx C mA) : ∃ od, PySem.W.InstAt h x (PySem.W.instObj C dx) C (some od) ∧ ∀ name, PySem.W.lookIn name od = some (mA name) :=
  let ⟨od, ho, hl⟩ := lookIn_ns I.ns
  ⟨od, ⟨I.obj, rfl, rfl, ho⟩, hl⟩
section
variable {prog : Program} {w : World} {A : Around} {E : Value → Shared → Prop} {s : Shared} {K : PySem.W.Frag} {x dx C f : Addr} {mA : Str → Option Value} {name : Str} {v : Value}
theorem get_map {expr : Bool} {Q : Value → Shared → Prop} (X : K.In s.heap) (I : ObjM s.heap x dx C mA) (hg : PySem.W.plainGet K C name = true) (hh : PySem.W.hasDictIn K C = true)
    (ha : PySem.W.findIn K (.ref C) name = some none) (hv : mA name = some v) (hv' : PySem.W.handedIn v = true) (h : Q v { s with toks := s.toks + 1 }) :
    wpAny (model prog w) A (getAttr (.ref x) name expr) Q E s := by
  obtain ⟨od, J, hl⟩ := I.look
  exact PySem.W.get_value X J (PySem.W.plainGet_of hg).1 (PySem.W.findObj_own hh ha rfl (by rw [hl, hv])) hv' h
theorem get_meth {pl : Sem Bool} {Q : Value × List Value → Shared → Prop} (X : K.In s.heap) (I : ObjM s.heap x dx C mA) (hg : PySem.W.plainGet K C name = true)
    (hf : PySem.W.findIn K (.ref C) name = some (some (.ref f))) (ht : PySem.W.isFn K (.ref f) = true) (hv : mA name = none) (h : Q (.ref f, [.ref x]) s) :
    wpAny (model prog w) A (getMethod (.ref x) name pl) Q E s := by
  obtain ⟨od, J, hl⟩ := I.look
  exact PySem.W.method_fn X J (PySem.W.plainGet_of hg).1 (PySem.W.plainGet_of hg).2 hf (beq_iff_eq.mp ht) (by show (PySem.W.lookIn name od).map (·.isSome) = some false; rw [hl, hv]; rfl) h
theorem set_map {ns : List Str} {Q : Unit → Shared → Prop} (X : K.In s.heap) (I : ObjM s.heap x dx C mA)
    (hs : PySem.W.findIn K (.ref C) "__setattr__" = some (some (.builtin "object.__setattr__"))) (hp : PySem.W.plainOver K C = true) (ht : PySem.W.takerIn K C name = some none) (hh : PySem.W.hasDictIn K C = true)
    (hw : PySem.Within mA ns) (hsz : ns.length ≤ sizeLine)
    (h : ∀ h', ObjM h' x dx C (fun y => if y = name then some v else mA y) → Heap.SameBut dx s.heap h' → Q () { s with heap := h', toks := s.toks + 2 }) :
    wpAny (model prog w) A (setAttr (.ref x) name v) Q E s := by
  obtain ⟨od, J, hl⟩ := I.look
  refine PySem.W.set_plain X J hs (PySem.W.osa_open (s := { s with toks := s.toks + 1 }) (r := none) X J hp ht fun b => ?_)
  obtain ⟨cd, hc, hd'⟩ := PySem.W.any_some hh
  have hx : s.heap.get? x = some ⟨.ref C, some dx, .plain, #[]⟩ := I.obj
  refine wpAny_bind (wpAny_pure (wpAny_bind (wpAny_bind (wpAny_loadPart hx (wpAny_bind (PySem.W.Looks.here (s := { s with toks := s.toks + 1 }) (PySem.W.looks_clsIn X hc) ?_))))))
  rw [hd']
  refine wpAny_pure (a := some dx) (wpAny_bind (wpAny_pure (wpAny_bind ?_)))
  refine wpAny_nsSet1 (s := { s with toks := s.toks + 1 }) I.ns fun h' hn2 hs2 => ?_
  obtain ⟨oD, esD, epD, hoD, hdD, hcD⟩ := hn2.count (PySem.Within.cons name v hw)
  refine wpAny_bind (wpAny_lookBehind hoD (by rw [hdD]; exact pastItsLine_dict (Nat.le_trans hcD (by rw [List.length_cons]; omega))) ?_)
  exact wpAny_pure (h _ ⟨(hs2.2 _ (Ne.symm I.ne)).trans I.obj, hn2, I.ne⟩ hs2)
theorem make_map {R : Result → Shared → Prop} {vs : List Value} {kw : List (Str × Value)} (X : K.In s.heap) (hm : PySem.W.makesIn K C = true)
    (hi : PySem.W.findIn K (.ref C) "__init__" = some (some (.ref f))) (hf : PySem.W.typeIn K (.ref f) = some (.type "function"))
    (h : codeAny (model prog w) (A.under (.builtin "type.__call__" ⟨.ref C :: vs, kw⟩)) (.call (.ref f) ⟨.ref (s.heap.objs.size + 1) :: vs, kw⟩) (PySem.W.InitBack (s.heap.objs.size + 1) R)
      { s with heap := (s.heap.push PySem.W.emptyDict).push (PySem.W.instObj C s.heap.objs.size) }) :
    codeAny (model prog w) A (.call (.ref C) ⟨vs, kw⟩) R s := by
  obtain ⟨hh, g, d, t, os⟩ := s
  exact PySem.W.make_core (PySem.W.makes_of X hm) (PySem.W.looks_findIn X hi) (fun self => PySem.W.bind_fn X self hf) (.inl rfl) h
end
def putF (f : Str) (v : V) : List (Str × V) → List (Str × V)
  | [] => [(f, v)]
  | (g, x) :: r => if g = f then (g, v) :: r else (g, x) :: putF f v r
theorem lookup_putF (f g : Str) (v : V) : ∀ fs : List (Str × V), (putF f v fs).lookup g = if g = f then some v else fs.lookup g
  | [] => by
    show List.lookup g [(f, v)] = _
    by_cases h : g = f
    · have hb : (g == f) = true := beq_iff_eq.mpr h
      simp only [List.lookup, hb, if_pos h]
    · have hb : (g == f) = false := beq_eq_false_iff_ne.mpr h
      simp only [List.lookup, hb, if_neg h]
  | (k, x) :: r => by
    have ih := lookup_putF f g v r
    rw [show putF f v ((k, x) :: r) = (if k = f then (k, v) :: r else (k, x) :: putF f v r) from rfl]
    by_cases hk : k = f
    · rw [if_pos hk]
      by_cases h : g = k
      · have hb : (g == k) = true := beq_iff_eq.mpr h
        simp only [List.lookup, hb, if_pos (h.trans hk)]
      · have hb : (g == k) = false := beq_eq_false_iff_ne.mpr h
        simp only [List.lookup, hb, if_neg (fun e : g = f => h (e.trans hk.symm))]
    · rw [if_neg hk]
      by_cases h : g = k
      · have hb : (g == k) = true := beq_iff_eq.mpr h
        simp only [List.lookup, hb, if_neg (fun e : g = f => hk (h.symm.trans e))]
      · have hb : (g == k) = false := beq_eq_false_iff_ne.mpr h
        simp only [List.lookup, hb]
        exact ih
theorem keys_putF (f : Str) (v : V) : ∀ fs : List (Str × V), f ∈ (putF f v fs).map (·.1) ∧ ∀ g, g ∈ fs.map (·.1) → g ∈ (putF f v fs).map (·.1)
  | [] => ⟨by simp [putF], fun g h => by simp at h⟩
  | (k, x) :: r => by
    obtain ⟨i1, i2⟩ := keys_putF f v r
    rw [show putF f v ((k, x) :: r) = (if k = f then (k, v) :: r else (k, x) :: putF f v r) from rfl]
    by_cases hk : k = f
    · rw [if_pos hk]
      subst hk
      exact ⟨by simp, fun g h => by simpa using h⟩
    · rw [if_neg hk]
      refine ⟨?_, fun g h => ?_⟩
      · rw [List.map_cons]
        exact List.mem_cons_of_mem _ i1
      · rw [List.map_cons] at h ⊢
        rcases List.mem_cons.mp h with e | e
        · exact List.mem_cons.mpr (.inl e)
        · exact List.mem_cons_of_mem _ (i2 g e)
theorem length_putF (f : Str) (v : V) : ∀ fs : List (Str × V), (putF f v fs).length ≤ fs.length + 1
  | [] => by simp [putF]
  | (k, x) :: r => by
    have ih := length_putF f v r
    rw [show putF f v ((k, x) :: r) = (if k = f then (k, v) :: r else (k, x) :: putF f v r) from rfl]
    by_cases hk : k = f
    · rw [if_pos hk, List.length_cons, List.length_cons]; omega
    · rw [if_neg hk, List.length_cons, List.length_cons]; omega
theorem RelO.some_of {v : V} {o : Option Value} (r : RelO (some v) o) : ∃ u, o = some u ∧ RelV v u := by
  cases o with
  | none => exact (show False from r).elim
  | some u => exact ⟨u, rfl, r⟩
theorem RelO.none_of {o : Option Value} (r : RelO none o) : o = none := by
  cases o with
  | none => rfl
  | some u => exact (show False from r).elim
theorem handed_of {v : V} {u : Value} (r : RelV v u) : PySem.W.handedIn u = true := by
  cases v with
  | non => cases (show u = Value.none from r); rfl
  | bl b => cases (show u = Value.bool b from r); rfl
  | int i => obtain ⟨t, e⟩ := (show ∃ t, u = Value.int i t from r); cases e; rfl
  | str x => obtain ⟨t, e⟩ := (show ∃ t, u = Value.str x t from r); cases e; rfl
  | byt b => obtain ⟨t, e⟩ := (show ∃ t, u = Value.bytes b t from r); cases e; rfl
  | flt b => obtain ⟨t, e⟩ := (show ∃ t, u = Value.float b t from r); cases e; rfl
  | ref a => cases (show u = Value.ref a from r); rfl
  | ty n => cases (show u = Value.type n from r); rfl
section
variable {P : Program} {w : World} {H H' : Hp} {h h' : Heap} {a C dx : Addr} {fs fs' : List (Str × V)}
theorem ins_get (hok : HOk P w H h) (e : H a = some (.ins C dx fs)) : ∃ mA, ObjM h a dx C mA ∧ (∀ f, RelO (fs.lookup f) (mA f)) ∧ PySem.Within mA (fs.map (·.1)) ∧ fs.length ≤ 1000 ∧ H dx = some (.own a) := by
  obtain ⟨d, z, ne, ob, mA, n, r, q⟩ := (show ObjOk P w H h a (.ins C dx fs) from hok a _ e)
  exact ⟨mA, ⟨ob, n, ne⟩, r, q, z, d⟩
end
structure Cls (K : PySem.W.Frag) (C : Addr) : Prop where
  pg : PySem.W.plainGet K C Str.empty = true
  hd : PySem.W.hasDictIn K C = true
  po : PySem.W.plainOver K C = true
  sa : PySem.W.findIn K (.ref C) "__setattr__" = some (some (.builtin "object.__setattr__"))
theorem Cls.get {K : PySem.W.Frag} {C : Addr} (c : Cls K C) (f : Str) : PySem.W.plainGet K C f = true := c.pg
def NoAttr (K : PySem.W.Frag) (C : Addr) (f : Str) : Prop := PySem.W.findIn K (.ref C) f = some none
theorem NoAttr.taker {K : PySem.W.Frag} {C : Addr} {f : Str} (n : NoAttr K C f) : PySem.W.takerIn K C f = some none := by
  unfold PySem.W.takerIn
  rw [show PySem.W.findIn K (.ref C) f = some none from n]
  rfl
structure Meth (K : PySem.W.Frag) (C : Addr) (m : Str) (f : Addr) : Prop where
  at_ : PySem.W.findIn K (.ref C) m = some (some (.ref f))
  fn : PySem.W.isFn K (.ref f) = true
  kp : PySem.W.keepIn K (.ref f) = true
section
variable {X : Cx} {pins : List (Addr × Obj)} {σ : St} {H : Hp} {s : Shared} {a C dx : Addr} {fs : List (Str × V)} {f : Str} {v : V} {A : Around} {E : Value → Shared → Prop}
theorem getattr_ok {b : Bool} {Q : Value → Shared → Prop} (I : Inv X pins σ H s) (e : H a = some (.ins C dx fs)) (c : Cls X.K C) (n : NoAttr X.K C f) (l : fs.lookup f = some v)
    (h : ∀ u s', Inv X pins σ H s' → RelV v u → Q u s') : wpAny (model X.prog X.w) A (getAttr (.ref a) f b) Q E s := by
  obtain ⟨mA, O, r, _, _, _⟩ := ins_get I.hok e
  obtain ⟨u, hu, ru⟩ := RelO.some_of (v := v) (o := mA f) (by rw [← l]; exact r f)
  exact get_map I.kIn O (c.get f) c.hd n hu (handed_of ru) (h u _ (I.tok _) ru)
theorem getmeth_ok {m : Str} {g : Addr} {pl : Sem Bool} {Q : Value × List Value → Shared → Prop} (I : Inv X pins σ H s) (e : H a = some (.ins C dx fs)) (c : Cls X.K C) (k : Meth X.K C m g) (l : fs.lookup m = none)
    (h : Q (.ref g, [.ref a]) s) : wpAny (model X.prog X.w) A (getMethod (.ref a) m pl) Q E s := by
  obtain ⟨mA, O, r, _, _, _⟩ := ins_get I.hok e
  have hn : mA m = none := RelO.none_of (by rw [← l]; exact r m)
  exact get_meth I.kIn O (c.get m) k.at_ k.fn hn h
theorem setattr_ok {y : V} {u : Value} {Q : Unit → Shared → Prop} (I : Inv X pins σ H s) (e : H a = some (.ins C dx fs)) (c : Cls X.K C) (n : NoAttr X.K C f) (hl : fs.length < 1000) (ry : RelV y u)
    (h : ∀ s', Inv X pins σ (upd H a (.ins C dx (putF f y fs))) s' → Q () s') : wpAny (model X.prog X.w) A (setAttr (.ref a) f u) Q E s := by
  obtain ⟨mA, O, r, wi, _, ho⟩ := ins_get I.hok e
  have hz : (fs.map (·.1)).length ≤ sizeLine := by rw [List.length_map, sizeLine_eq]; omega
  refine set_map I.kIn O c.sa c.po n.taker c.hd wi hz fun h' O' sb => h _ ?_
  have hd : ∃ o, h'.get? dx = some o := let ⟨o, _, _, e', _⟩ := O'.ns; ⟨o, e'⟩
  refine I.write (x := a) (e := dx) (by rw [e]; exact True.intro) (.inr ho) (fun b q hb z => (sb.2 b hb).trans z) hd ?_
  refine ⟨by rw [upd_ne O.ne]; exact ho, ?_, O.ne, O'.obj, _, O'.ns, fun g => ?_, fun g hg => ?_⟩
  · have := length_putF f y fs; omega
  · show RelO ((putF f y fs).lookup g) (if g = f then some u else mA g)
    rw [lookup_putF]
    by_cases q : g = f
    · rw [if_pos q, if_pos q]; exact ry
    · rw [if_neg q, if_neg q]; exact r g
  · by_cases q : g = f
    · rw [q]; exact (keys_putF f y fs).1
    · refine (keys_putF f y fs).2 g (wi g fun z => hg ?_)
      show (if g = f then some u else mA g) = none
      rw [if_neg q]; exact z
theorem Inv.made (I : Inv X pins σ H s) : Inv X pins σ (upd (upd H s.heap.objs.size (.own (s.heap.objs.size + 1))) (s.heap.objs.size + 1) (.ins C s.heap.objs.size []))
    { s with heap := (s.heap.push PySem.W.emptyDict).push (PySem.W.instObj C s.heap.objs.size) } := by
  have e1 : (s.heap.push PySem.W.emptyDict).get? s.heap.objs.size = some PySem.W.emptyDict := Heap.get?_push_size s.heap rfl
  have e2 : ((s.heap.push PySem.W.emptyDict).push (PySem.W.instObj C s.heap.objs.size)).get? (s.heap.objs.size + 1) = some (PySem.W.instObj C s.heap.objs.size) := by
    have := Heap.get?_push_size (s.heap.push PySem.W.emptyDict) (o := PySem.W.instObj C s.heap.objs.size) rfl
    rwa [Heap.size_push] at this
  have e3 : (s.heap.push PySem.W.emptyDict).Ns s.heap.objs.size (fun _ => none) := ⟨PySem.W.emptyDict, #[], _, e1, rfl, (fun e he => absurd he (by simp)), fun _ => rfl⟩
  have I1 := I.laid (a := s.heap.objs.size) (o := .own (s.heap.objs.size + 1)) (h' := s.heap.push PySem.W.emptyDict) (t' := s.toks) (fun b u q => Heap.get?_push_of_some _ q) (Nat.le_refl _) ⟨_, e1⟩
  refine I1.laid (a := s.heap.objs.size + 1) (o := .ins C s.heap.objs.size []) (t' := s.toks) (fun b u q => Heap.get?_push_of_some _ q) (Nat.le_of_eq (Heap.size_push _ _)) ?_
  have ne : s.heap.objs.size ≠ s.heap.objs.size + 1 := Nat.ne_of_lt (Nat.lt_succ_self _)
  refine ⟨by rw [upd_ne ne, upd_same], Nat.zero_le _, ne, e2, fun _ => none, (Heap.Ns1.of_empty e3).at fun o q => Heap.get?_push_of_some _ q, fun _ => True.intro, fun y hy => absurd rfl hy⟩
theorem attr_of {prog : Program} {w : World} {env : Env} {e : Expr} {f : Str} {pos : Pos} {s : Shared} {Q : Value → Shared → Prop} (hb : attributeBase e f env (eval e env) = eval e env)
    (h : wpAny (model prog w) A (eval e env) (fun o s₁ => wpAny (model prog w) A (getAttr o f true) Q E s₁) E s) : wpAny (model prog w) A (eval (.Attribute e f pos) env) Q E s :=
  Attribute_any_ h (by rw [arm_eval_Attribute, hb])
end
def tFld (K : PySem.W.Frag) (ta : TE) (f : Str) : TE := fun σ H Q => ta σ H fun x H1 => ∃ a C dx fs v, x = .ref a ∧ H1 a = some (.ins C dx fs) ∧ Cls K C ∧ NoAttr K C f ∧ fs.lookup f = some v ∧ Q v H1
def sFld (K : PySem.W.Frag) (ta tv : TE) (f : Str) : TS := fun D σ H => tv σ H fun y H1 => ta σ H1 fun x H2 => ∃ a C dx fs, x = .ref a ∧ H2 a = some (.ins C dx fs) ∧ Cls K C ∧ NoAttr K C f ∧ fs.length < 1000 ∧
  D.nx σ (upd H2 a (.ins C dx (putF f y fs)))
section
variable {X : Cx} {o e value : Expr} {f : Str} {pos pos' tpos : Pos} {ta tv : TE}
theorem pe_fld (he : PE X e ta) (hb : attributeBase e f X.env (eval e X.env) = eval e X.env) : PE X (.Attribute e f pos) (tFld X.K ta f) := by
  intro pins s σ H Q I h
  refine attr_of hb (thn (he pins s σ H _ I h) fun u s1 ⟨x, H1, I1, rx, a, C, dx, fs, v, ex, ea, c, n, l, q⟩ => ?_)
  subst ex
  obtain rfl : u = Value.ref a := rx
  exact getattr_ok I1 ea c n l fun u' s2 I2 ru => ⟨v, H1, I2, ru, q⟩
theorem ps_fld (ha : PE X o ta) (hv : PE X value tv) (hs : swapsWith value (some (.Attribute o f pos')) pos.line X.env = pure false) : PS X (.Assign [.Attribute o f pos'] value pos) (sFld X.K ta tv f) := by
  intro pins s σ H D I h
  refine plainObj_wpAny_Assign_Attribute (thn (hv pins s σ H _ I h) fun u s1 ⟨y, H1, I1, ry, q⟩ => thn (ha pins s1 σ H1 _ I1 q) fun ov s2 ⟨x, H2, I2, rx, a, C, dx, fs, ex, ea, c, n, l, q2⟩ => ?_) hs
  subst ex
  obtain rfl : ov = Value.ref a := rx
  exact setattr_ok I2 ea c n l ry fun s3 I3 => ⟨σ, _, I3, q2⟩
end
section
variable {X : Cx} {pins : List (Addr × Obj)} {σ : St} {H : Hp} {s : Shared} {A : Around} {E : Value → Shared → Prop} {Q : Value → Shared → Prop} {c : Value} {b : Bool}
inductive TyOf (K : PySem.W.Frag) (H : Hp) : V → Value → Prop where
  | non : TyOf K H .non (.type "NoneType")
  | bl (x : Bool) : TyOf K H (.bl x) (.type "bool")
  | int (i : Int) : TyOf K H (.int i) (.type "int")
  | str (x : Str) : TyOf K H (.str x) (.type "str")
  | flt (x : UInt64) : TyOf K H (.flt x) (.type "float")
  | lst {a : Addr} {xs : List V} (e : H a = some (.lst xs)) : TyOf K H (.ref a) (.type "list")
  | frz {a : Addr} {o : Obj} {xs : List V} (e : H a = some (.frz o (.lst xs))) : TyOf K H (.ref a) (.type "list")
  | tup {a : Addr} {xs : List V} (e : H a = some (.tup xs)) : TyOf K H (.ref a) (.type "tuple")
  | dK {a : Addr} {kvs : List (Key × V)} (e : H a = some (.dK kvs)) : TyOf K H (.ref a) (.type "dict")
  | dT {a : Addr} {kvs : List (List Key × V)} (e : H a = some (.dT kvs)) : TyOf K H (.ref a) (.type "dict")
  | ins {a C dx : Addr} {fs : List (Str × V)} (e : H a = some (.ins C dx fs)) (cl : Cls K C) (ha : PySem.W.findIn K (.ref C) "__class__" = some (some (.builtin "object.__class__")))
      (hn : PySem.W.specialIn K (.builtin "object.__class__") "__get__" = some (some (.builtin "getset_descriptor.__get__"))) (htk : PySem.W.takesIn K (.builtin "object.__class__") = some true)
      (hm : PySem.W.mroIn K C (.type "object") = some true) : TyOf K H (.ref a) (.ref C)
theorem isinst_ok {x : V} {u t : Value} (I : Inv X pins σ H s) (rx : RelV x u) (ty : TyOf X.K H x t) (e : PySem.W.kitOne X.K t c = some b) (h : ∀ tk, Q (.bool b) { s with toks := tk }) :
    wpAny (model X.prog X.w) A (call (.builtin "isinstance") [u, c]) Q E s := by
  cases ty with
  | non => cases (show u = Value.none from rx); exact PySem.W.kia_one PySem.W.kitx_none I.kIn True.intro e (fun z => nomatch z) h
  | bl y => cases (show u = Value.bool y from rx); exact PySem.W.kia_one PySem.W.kitx_bool I.kIn True.intro e (fun z => nomatch z) h
  | int i => obtain ⟨t, q⟩ := (show ∃ t, u = Value.int i t from rx); cases q; exact PySem.W.kia_one PySem.W.kitx_int I.kIn True.intro e (fun z => nomatch z) h
  | str y => obtain ⟨t, q⟩ := (show ∃ t, u = Value.str y t from rx); cases q; exact PySem.W.kia_one PySem.W.kitx_str I.kIn True.intro e (fun z => nomatch z) h
  | flt y => obtain ⟨t, q⟩ := (show ∃ t, u = Value.float y t from rx); cases q; exact PySem.W.kia_one PySem.W.kitx_float I.kIn True.intro e (fun z => nomatch z) h
  | @lst a xs ea =>
    cases (show u = Value.ref a from rx)
    obtain ⟨_, _, n, _, h1⟩ := (show ObjOk X.prog X.w H s.heap a (.lst xs) from I.hok a _ ea)
    exact PySem.W.kia_one PySem.W.kitx_list I.kIn ⟨_, h1, rfl⟩ e (fun z => nomatch z) h
  | @frz a ob xs ea =>
    cases (show u = Value.ref a from rx)
    obtain ⟨_, _, _, n, _, h1⟩ := (show ObjOk X.prog X.w H s.heap a (.frz ob (.lst xs)) from I.hok a _ ea)
    exact PySem.W.kia_one PySem.W.kitx_list I.kIn ⟨_, h1, rfl⟩ e (fun z => nomatch z) h
  | @tup a xs ea =>
    cases (show u = Value.ref a from rx)
    obtain ⟨_, _, _, p⟩ := (show ObjOk X.prog X.w H s.heap a (.tup xs) from I.hok a _ ea)
    obtain ⟨o, h1, h2, _⟩ := p
    exact PySem.W.kia_one PySem.W.kitx_tuple I.kIn ⟨o, h1, h2⟩ e (fun z => nomatch z) h
  | @dK a kvs ea =>
    cases (show u = Value.ref a from rx)
    obtain ⟨_, _, vs, _, p⟩ := (show ObjOk X.prog X.w H s.heap a (.dK kvs) from I.hok a _ ea)
    obtain ⟨o, es, ep, h1, h2, _⟩ := p
    exact PySem.W.kia_one PySem.W.kitx_dict I.kIn ⟨o, h1, h2.1⟩ e (fun z => nomatch z) h
  | @dT a kvs ea =>
    cases (show u = Value.ref a from rx)
    obtain ⟨_, _, xs, _, o, es, ep, h1, h2, _⟩ := (show ObjOk X.prog X.w H s.heap a (.dT kvs) from I.hok a _ ea)
    exact PySem.W.kia_one PySem.W.kitx_dict I.kIn ⟨o, h1, h2.1⟩ e (fun z => nomatch z) h
  | @ins a C dx fs ea cl ha hn htk hm =>
    cases (show u = Value.ref a from rx)
    obtain ⟨mA, O, _⟩ := ins_get I.hok ea
    obtain ⟨od, J, _⟩ := O.look
    exact PySem.W.kia_one (PySem.W.kitx_own (cl.get _) cl.hd ha hn htk hm) I.kIn J e (fun z => nomatch z) h
end
end L2
namespace L2
open PySem PySem.Spec PyProof.Rows
structure Room (k : Nat) (A : Around) : Prop where
  hd : A.handled = none
  dp : A.depth + 3 * k + 5 < recursionLimit
  un : A.units + 16 * k + 200 < cLine
theorem Room.mono {j k : Nat} {A : Around} (r : Room k A) (h : j ≤ k) : Room j A := ⟨r.hd, by have := r.dp; omega, by have := r.un; omega⟩
theorem Room.deeper {k : Nat} {A : Around} (r : Room (k + 1) A) (env : Env) : Room k (A.deeper env) :=
  ⟨r.hd, by have := r.dp; show A.depth + 1 + 3 * k + 5 < _; omega, by have := r.un; show A.units + 3 + 16 * k + 200 < _; omega⟩
theorem make_depth {A : Around} {C : Addr} {us : List Value} {kw : List (Str × Value)} : (A.under (.builtin "type.__call__" ⟨.ref C :: us, kw⟩)).depth = A.depth + 1 := by
  first | rfl | simp [Around.under, Code.weight, Code.isCreation, Code.isGuard, Code.isCaller, Code.frames, Code.isFrame, guardIds]
theorem make_units {A : Around} {C : Addr} {us : List Value} {kw : List (Str × Value)} : (A.under (.builtin "type.__call__" ⟨.ref C :: us, kw⟩)).units = A.units + 1 := by
  first | rfl | simp [Around.under, Code.cUnits, Code.frames, Code.isFrame]
theorem Room.make {k : Nat} {A : Around} (r : Room (k + 1) A) (C : Addr) (us : List Value) (kw : List (Str × Value)) : Room k (A.under (.builtin "type.__call__" ⟨.ref C :: us, kw⟩)) :=
  ⟨r.hd, by have := r.dp; rw [make_depth]; omega, by have := r.un; rw [make_units]; omega⟩
theorem Room.depth {k : Nat} {A : Around} (r : Room k A) : A.depth < recursionLimit := by have := r.dp; omega
theorem Room.units {k : Nat} {A : Around} (r : Room k A) : A.units + 64 < cLine := by have := r.un; omega
def tNil : TA := fun _ H Q => Q [] H
def tCons (ta : TE) (tr : TA) : TA := fun σ H Q => ta σ H fun x H1 => tr σ H1 fun xs H2 => Q (x :: xs) H2
section
variable {X : Cx} {e : Expr} {es : List Expr} {te : TE} {t : TA} {pos : Pos}
theorem pa_nil : PA X [] tNil := fun _ _ _ _ H Q I h => Calls.spliced_nil ⟨[], H, I, .nil, h⟩
theorem pa_cons (ha : PE X e te) (hr : PA X es t) (hs : starEach (e :: es) X.env = (false, eval e X.env) :: starEach es X.env := by rfl) : PA X (e :: es) (tCons te t) := by
  intro pos pins s σ H Q I h
  rw [hs]
  show wpAny _ _ (spliced ((false, eval e X.env) :: backTo pos (starEach es X.env))) _ _ s
  refine Calls.spliced_cons (thn (ha pins s σ H _ I h) fun u s1 ⟨x, H1, I1, r1, q1⟩ => ?_)
  exact thn (hr pos pins s1 σ H1 _ I1 q1) fun us s2 ⟨xs, H2, I2, r2, q2⟩ => ⟨x :: xs, H2, I2, .cons r1 r2, q2⟩
def tTup (t : TA) : TE := fun σ H Q => t σ H fun xs H1 => xs.length ≤ sizeLine ∧ ∀ p, H1 p = none → Q (.ref p) (upd H1 p (.tup xs))
def tLst (t : TA) : TE := fun σ H Q => t σ H fun xs H1 => xs.length ≤ sizeLine ∧ ∀ p, H1 p = none → Q (.ref p) (upd H1 p (.lst xs))
theorem pe_tup {x1} (h : PA X es t) : PE X (.Tuple es x1 pos) (tTup t) := by
  intro pins s σ H Q I hq
  refine wpAny_Tuple_spliced (thn (h pos pins s σ H _ I hq) fun us s1 ⟨xs, H1, I1, r, z, q⟩ => ⟨by rw [← r.length]; exact z, ?_⟩)
  have hf : H1 s1.heap.objs.size = none := I1.hok.fresh (Nat.le_refl _)
  refine ⟨.ref s1.heap.objs.size, upd H1 s1.heap.objs.size (.tup xs), I1.laid (t' := s1.toks) (fun b u e => Heap.get?_push_of_some _ e) (Nat.le_refl _) ?_, rfl, q _ hf⟩
  exact ⟨z, us, r, ⟨_, Heap.get?_push_size _ rfl, rfl, _, rfl⟩⟩
theorem pe_lst (h : PA X es t) : PE X (.List es pos) (tLst t) := by
  intro pins s σ H Q I hq
  refine wpAny_List_spliced (thn (h pos pins s σ H _ I hq) fun us s1 ⟨xs, H1, I1, r, z, q⟩ => ⟨by rw [← r.length]; exact z, ?_⟩)
  have hf : H1 s1.heap.objs.size = none := I1.hok.fresh (Nat.le_refl _)
  refine ⟨.ref s1.heap.objs.size, upd H1 s1.heap.objs.size (.lst xs), I1.laid (t' := s1.toks) (fun b u e => Heap.get?_push_of_some _ e) (Nat.le_refl _) ?_, rfl, q _ hf⟩
  exact ⟨z, us, 0, r, Heap.get?_push_size _ rfl⟩
end
abbrev Sp := List V → Hp → VK → XK → Prop
abbrev CXT := List Env → Hp → Shared → XK → Value → Shared → Prop
structure Env0 (P : Program) (w : World) (K : PySem.W.Frag) (mg : Str → Option Value) (base : Heap) (A : Around) (outer : List Env) (s : Shared) (H : Hp) : Prop where
  frames : A.frames = some outer
  mod : Mod K mg base
  bs : ∀ b o, base.get? b = some o → s.heap.get? b = some o ∧ H b = none
  bsz : base.objs.size ≤ s.heap.objs.size
  funs : s.heap.FunFrames base outer
  frf : ∀ b ∈ frs outer, H b = none
  hok : HOk P w H s.heap
  bare : AllBare s.gens
def CE (outer : List Env) (P : Program) (w : World) (H : Hp) (s : Shared) (Q : VK) (u : Value) (s' : Shared) : Prop :=
  ∃ v H', s'.os = s.os ∧ AllBare s'.gens ∧ Un (frs outer) [] H H' s.heap s'.heap ∧ HOk P w H' s'.heap ∧ RelV v u ∧ Q v H'
def CR (CX : CXT) (outer : List Env) (P : Program) (w : World) (H : Hp) (s : Shared) (Q : VK) (E : XK) (r : Result) (s' : Shared) : Prop :=
  match r with
  | .ok (.ret u) => CE outer P w H s Q u s'
  | .ok _ => False
  | .error e => CX outer H s E e s'
structure FnOk (P : Program) (w : World) (K : PySem.W.Frag) (mg : Str → Option Value) (base : Heap) (CX : CXT) (k : Nat) (f : Addr) (fd : FuncData) (ps : List Str) (sp : Sp) : Prop where
  len : ∀ vs H Q E, sp vs H Q E → vs.length = ps.length
  run : ∀ (A : Around) (outer : List Env) (s : Shared) (H : Hp) (args : Args) (us : List Value) (vs : List V) (Q : VK) (E : XK), Room k A → Env0 P w K mg base A outer s H → BindsTo s fd args (ps.zip us) → Vals vs us → sp vs H Q E →
    codeAny (model P w) A (.call (.ref f) args) (CR CX outer P w H s Q E) s
theorem Env0.make {P : Program} {w : World} {K : PySem.W.Frag} {mg : Str → Option Value} {base : Heap} {A : Around} {outer : List Env} {s : Shared} {H : Hp} (e : Env0 P w K mg base A outer s H) (C : Addr) (us : List Value) (kw : List (Str × Value)) :
    Env0 P w K mg base (A.under (.builtin "type.__call__" ⟨.ref C :: us, kw⟩)) outer s H := ⟨by first | exact e.frames | (simpa [Around.under, Code.envs, Code.isFrame, pushEnvs] using e.frames), e.mod, e.bs, e.bsz, e.funs, e.frf, e.hok, e.bare⟩
section
variable {X : Cx} {pins : List (Addr × Obj)} {σ : St} {H : Hp} {s s' : Shared}
theorem Inv.env0 (I : Inv X pins σ H s) : Env0 X.prog X.w X.K X.mg X.base X.A X.stack s H :=
  ⟨I.ok.frames, I.ok.mod, I.bs, Nat.le_trans I.ok.bsz I.sz, I.stack, I.stkFree, I.hok, I.bare⟩
theorem Inv.after {Q : VK} {u : Value} (I : Inv X pins σ H s) (h : CE X.stack X.prog X.w H s Q u s') : EP X pins σ Q u s' := by
  obtain ⟨v, H', os, bare, un, hok, r, q⟩ := h
  obtain ⟨hh, g, d, t, os'⟩ := s'
  obtain rfl : os' = s.os := os
  exact ⟨v, H', I.call (h' := hh) (g' := g) (d' := d) (t' := t) (ch := []) un hok bare (fun b z => absurd z (by simp)), r, q⟩
end
def tCall (sp : Sp) (dvs : List V) (E : XK) (t : TA) : TE := fun σ H Q => t σ H fun vs H1 => sp (vs ++ dvs) H1 Q E
def tMake (C : Addr) (sp : Sp) (dvs : List V) (E : XK) (t : TA) : TE := fun σ H Q => t σ H fun vs H1 => ∀ x dx, H1 x = none → H1 dx = none → dx ≠ x →
  sp (.ref x :: (vs ++ dvs)) (upd (upd H1 dx (.own x)) x (.ins C dx [])) (fun v H2 => v = .non ∧ Q (.ref x) H2) E
def Binds (K : PySem.W.Frag) (fd : FuncData) (ps : List Str) (ds : List Value) : Prop :=
  ∀ (s : Shared) (us : List Value), K.In s.heap → (us ++ ds).length = ps.length → BindsTo s fd ⟨us, []⟩ (ps.zip (us ++ ds))
theorem Binds.all {K : PySem.W.Frag} {fd : FuncData} {ps : List Str} (h : ∀ us : List Value, us.length = ps.length → bindArgs fd ⟨us, []⟩ = pure (ps.zip us)) : Binds K fd ps [] := fun s us _ hl => by
  rw [List.append_nil] at hl ⊢
  exact .of_eq (h us hl)
def Passes (CX : CXT) (X : Cx) (E : XK) : Prop := ∀ (pins : List (Addr × Obj)) (σ : St) (H : Hp) (s : Shared) (e : Value) (s' : Shared), Inv X pins σ H s → CX X.stack H s E e s' → X.xe e s'
section
variable {X : Cx} {CX : CXT} {k : Nat} {f C : Addr} {fd : FuncData} {ps : List Str} {sp : Sp} {dvs : List V} {ds : List Value} {E : XK} {x m : Str} {p pos apos : Pos} {e o : Expr} {es : List Expr} {ta : TE} {t : TA}
theorem run_fn {pins : List (Addr × Obj)} {σ : St} {H : Hp} {s : Shared} {Q : VK} {us : List Value} {vs : List V} (F : FnOk X.prog X.w X.K X.mg X.base CX k f fd ps sp) (hr : Room k X.A) (hb : Binds X.K fd ps ds) (hd : Vals dvs ds) (hx : Passes CX X E)
    (I : Inv X pins σ H s) (r : Vals vs us) (h : sp (vs ++ dvs) H Q E) : wpAny (model X.prog X.w) X.A (call (.ref f) us) (EP X pins σ Q) X.xe s := by
  have r2 : Vals (vs ++ dvs) (us ++ ds) := r.append hd
  have hl : (us ++ ds).length = ps.length := by rw [← r2.length]; exact F.len _ _ _ _ h
  refine wpAny_call (codeAny_mono (F.run X.A X.stack s H ⟨us, []⟩ (us ++ ds) (vs ++ dvs) Q E hr I.env0 (hb s us I.kIn hl) r2 h) fun r s' hq => ?_)
  cases r with
  | error e => exact hx pins σ H s e s' I hq
  | ok fl =>
    cases fl with
    | ret u => exact I.after hq
    | next => exact False.elim hq
    | brk => exact False.elim hq
    | cont => exact False.elim hq
theorem pe_call (F : FnOk X.prog X.w X.K X.mg X.base CX k f fd ps sp) (hr : Room k X.A) (hg : Gl X x) (hm : X.mg x = some (.ref f)) (hk : PySem.W.keepIn X.K (.ref f) = true) (hb : Binds X.K fd ps ds) (hd : Vals dvs ds) (hx : Passes CX X E)
    (ha : PA X (e :: es) t) (hdb : (x == ("__debug__" : Str)) = false := by decide) (he : starEach (e :: es) X.env = (false, eval e X.env) :: starEach es X.env := by rfl) (hpl : (backTo pos (starEach es X.env)).any (·.1) = false := by rfl) :
    PE X (.Call (.Name x p) (e :: es) [] pos) (tCall sp dvs E t) := by
  intro pins s σ H Q I h
  refine wpAny_Call_Name_kw (ld_glob I hg hm ?_ hdb)
  refine PySem.W.callWith_K (h₀ := X.base) I.ok.mod.kin hk (thn (ha pos pins s σ H _ I h) fun us s1 ⟨vs, H1, I1, r, q⟩ => ⟨I1.kIn, ?_⟩) he hpl
  exact run_fn F hr hb hd hx I1 r q
structure Mk (K : PySem.W.Frag) (C f : Addr) : Prop where
  makes : PySem.W.makesIn K C = true
  init : PySem.W.findIn K (.ref C) "__init__" = some (some (.ref f))
  fn : PySem.W.isFn K (.ref f) = true
  kp : PySem.W.keepIn K (.ref C) = true
theorem run_make {pins : List (Addr × Obj)} {σ : St} {H : Hp} {s : Shared} {Q : VK} {us : List Value} {vs : List V} (M : Mk X.K C f) (F : FnOk X.prog X.w X.K X.mg X.base CX k f fd ps sp) (hr : Room (k + 1) X.A) (hb : Binds X.K fd ps ds) (hd : Vals dvs ds)
    (hx : Passes CX X E) (I : Inv X pins σ H s) (r : Vals vs us)
    (h : ∀ x dx, H x = none → H dx = none → dx ≠ x → sp (.ref x :: (vs ++ dvs)) (upd (upd H dx (.own x)) x (.ins C dx [])) (fun v H2 => v = .non ∧ Q (.ref x) H2) E) :
    wpAny (model X.prog X.w) X.A (call (.ref C) us) (EP X pins σ Q) X.xe s := by
  have hq := h (s.heap.objs.size + 1) s.heap.objs.size (I.hok.fresh (Nat.le_succ _)) (I.hok.fresh (Nat.le_refl _)) (Nat.ne_of_lt (Nat.lt_succ_self _))
  have I2 := Inv.made (C := C) I
  have r2 : Vals (V.ref (s.heap.objs.size + 1) :: (vs ++ dvs)) (Value.ref (s.heap.objs.size + 1) :: (us ++ ds)) := .cons rfl (r.append hd)
  have hl : (Value.ref (s.heap.objs.size + 1) :: us ++ ds).length = ps.length := by
    have e := r2.length
    rw [F.len _ _ _ _ hq] at e
    exact e.symm
  refine wpAny_call (make_map (f := f) I.kIn M.makes M.init (beq_iff_eq.mp M.fn) (codeAny_mono (F.run _ X.stack _ _ ⟨Value.ref (s.heap.objs.size + 1) :: us, []⟩ (Value.ref (s.heap.objs.size + 1) :: (us ++ ds)) _ _ E (hr.make C us [])
    (I2.env0.make C us []) (hb _ (Value.ref (s.heap.objs.size + 1) :: us) I2.kIn hl) r2 hq) fun r s' hq' => ?_))
  cases r with
  | error e => exact hx pins σ _ _ e s' I2 hq'
  | ok fl =>
    cases fl with
    | ret u =>
      obtain ⟨v, H', I3, rv, ev, q3⟩ := I2.after hq'
      subst ev
      exact ⟨rv, ⟨V.ref (s.heap.objs.size + 1), H', I3, rfl, q3⟩⟩
    | next => exact False.elim hq'
    | brk => exact False.elim hq'
    | cont => exact False.elim hq'
theorem pe_make (M : Mk X.K C f) (F : FnOk X.prog X.w X.K X.mg X.base CX k f fd ps sp) (hr : Room (k + 1) X.A) (hg : Gl X x) (hm : X.mg x = some (.ref C)) (hb : Binds X.K fd ps ds) (hd : Vals dvs ds) (hx : Passes CX X E)
    (ha : PA X (e :: es) t) (hdb : (x == ("__debug__" : Str)) = false := by decide) (he : starEach (e :: es) X.env = (false, eval e X.env) :: starEach es X.env := by rfl) (hpl : (backTo pos (starEach es X.env)).any (·.1) = false := by rfl) :
    PE X (.Call (.Name x p) (e :: es) [] pos) (tMake C sp dvs E t) := by
  intro pins s σ H Q I h
  refine wpAny_Call_Name_kw (ld_glob I hg hm ?_ hdb)
  refine PySem.W.callWith_K (h₀ := X.base) I.ok.mod.kin M.kp (thn (ha pos pins s σ H _ I h) fun us s1 ⟨vs, H1, I1, r, q⟩ => ⟨I1.kIn, ?_⟩) he hpl
  exact run_make M F hr hb hd hx I1 r q
end
section
variable {X : Cx} {CX : CXT} {k : Nat} {f C : Addr} {fd : FuncData} {ps ks : List Str} {sp : Sp} {E : XK} {x m : Str} {p pos apos kpos : Pos} {e o : Expr} {es : List Expr} {kws : List Keyword} {te ta : TE} {t tk : TA} {nm : Option Str}
variable {g : List Value → List Value → List Value} {gV : List V → List V → List V}
end
structure FnScope (N P : List Str) (sc : Scope) : Prop where
  kind : sc.kind = .function
  co : sc.isCoroutine = false
  gen : sc.isGenerator = false
  nd : N.Nodup
  pre : N.take P.length = P
  par : ∀ x ∈ P, sc.names.lookup x = some .local ∨ sc.names.lookup x = some .cell
  nofree : ∀ y ∈ sc.names, y.2 ≠ .free
theorem bindL_out {kindOf : Str → Option NameKind} {x : Str} : ∀ {binds : List (Str × Value)} {m : Str → Option Value}, (∀ v, (x, v) ∉ binds) → bindL kindOf binds m x = m x
  | [], _, _ => rfl
  | (n, v) :: r, m, h => by
    unfold bindL
    rw [bindL_out fun w hw => h w (List.mem_cons_of_mem _ hw)]
    split
    · have : x ≠ n := by rintro rfl; exact h v List.mem_cons_self
      simp [this]
    · rfl
theorem bindC_out {kindOf : Str → Option NameKind} {x : Str} : ∀ {binds : List (Str × Value)} {m : Str → Option Value}, (∀ v, (x, v) ∉ binds) → bindC kindOf binds m x = m x
  | [], _, _ => rfl
  | (n, v) :: r, m, h => by
    unfold bindC
    rw [bindC_out fun w hw => h w (List.mem_cons_of_mem _ hw)]
    split
    · rfl
    · have : x ≠ n := by rintro rfl; exact h v List.mem_cons_self
      simp [this]
theorem bindL_get {kindOf : Str → Option NameKind} {x : Str} {v : Value} : ∀ {P : List Str} {vs : List Value} {i : Nat} {m : Str → Option Value}, P.Nodup → P[i]? = some x → vs[i]? = some v → kindOf x = some .local →
    bindL kindOf (P.zip vs) m x = some v
  | [], _, _, _, _, h, _, _ => by simp at h
  | _ :: _, [], _, _, _, _, h, _ => by simp at h
  | p :: P, w :: vs, 0, m, nd, h1, h2, hk => by
    simp at h1 h2; subst h1; subst h2
    show bindL kindOf ((p, w) :: P.zip vs) m p = _
    unfold bindL
    rw [bindL_out fun v hv => (List.nodup_cons.mp nd).1 (List.of_mem_zip hv).1, if_pos hk]
    simp
  | p :: P, w :: vs, i + 1, m, nd, h1, h2, hk => by
    show bindL kindOf ((p, w) :: P.zip vs) m x = _
    unfold bindL
    exact bindL_get (i := i) (List.nodup_cons.mp nd).2 (by simpa using h1) (by simpa using h2) hk
theorem bindC_get {kindOf : Str → Option NameKind} {x : Str} {v : Value} : ∀ {P : List Str} {vs : List Value} {i : Nat} {m : Str → Option Value}, P.Nodup → P[i]? = some x → vs[i]? = some v → kindOf x ≠ some .local →
    bindC kindOf (P.zip vs) m x = some v
  | [], _, _, _, _, h, _, _ => by simp at h
  | _ :: _, [], _, _, _, _, h, _ => by simp at h
  | p :: P, w :: vs, 0, m, nd, h1, h2, hk => by
    simp at h1 h2; subst h1; subst h2
    show bindC kindOf ((p, w) :: P.zip vs) m p = _
    unfold bindC
    rw [bindC_out fun v hv => (List.nodup_cons.mp nd).1 (List.of_mem_zip hv).1, if_neg hk]
    simp
  | p :: P, w :: vs, i + 1, m, nd, h1, h2, hk => by
    show bindC kindOf ((p, w) :: P.zip vs) m x = _
    unfold bindC
    exact bindC_get (i := i) (List.nodup_cons.mp nd).2 (by simpa using h1) (by simpa using h2) hk
def start (N : List Str) (vs : List V) : St := vs.map some ++ List.replicate (N.length - vs.length) none
def cxOf (CX : CXT) (P : Program) (w : World) (K : PySem.W.Frag) (mg : Str → Option Value) (base : Heap) (N : List Str) (qual : Str) (scope : Scope) (f : Addr) (cd : Value) (A : Around) (outer : List Env) (s : Shared) (H : Hp) (E : XK) : Cx where
  prog := P
  w := w
  K := K
  mg := mg
  base := base
  A := A.deeper (envOfC qual scope s.heap.objs.size f cd)
  N := N
  s₀ := s
  H₀ := H
  env := envOfC qual scope s.heap.objs.size f cd
  outer := outer
  stack := envOfC qual scope s.heap.objs.size f cd :: outer
  ex := []
  calm := true
  fn := fun _ => true
  pn := []
  xe := fun e s' => wpAny (model P w) (A.deeper (envOfC qual scope s.heap.objs.size f cd)) (leaving (envOfC qual scope s.heap.objs.size f cd) e) (fun _ s'' => CX outer H s E e s'') (fun e' s'' => CX outer H s E e' s'') s'
theorem cell_has {sc : Scope} {n : Nat} {x : Str} (h : sc.names.lookup x = some .cell) : ∃ c, (cellsFrom n sc.names []).lookup x = some c := by
  have q := PySem.W.cellsFrom_some sc.names n [] (.inl h)
  exact Option.isSome_iff_exists.mp q
theorem inv_start {CX : CXT} {P : Program} {w : World} {K : PySem.W.Frag} {mg : Str → Option Value} {base : Heap} {N ps : List Str} {qual : Str} {scope : Scope} {f : Addr} {cd : Value} {A : Around} {outer : List Env} {s s1 : Shared} {H : Hp} {E : XK} {us : List Value} {vs : List V}
    (S : FnScope N ps scope) (hd : A.handled = none) (e0 : Env0 P w K mg base A outer s H) (hl : vs.length = ps.length) (r : Vals vs us)
    (x : InCallC s s.heap.objs.size (bindL (envOfC qual scope s.heap.objs.size f cd).kindOf (ps.zip us) fun _ => none) (cellsFrom (s.heap.objs.size + 1) scope.names []) (bindC (envOfC qual scope s.heap.objs.size f cd).kindOf (ps.zip us) fun _ => none) s1) :
    Inv (cxOf CX P w K mg base N qual scope f cd A outer s H E) [] (start N vs) H s1 := by
  have hpl : ps.length ≤ N.length := by have := congrArg List.length S.pre; rw [List.length_take] at this; omega
  obtain ⟨h1, tk, rfl, hk⟩ := x.done
  have noA : ∀ b : Addr, b ∉ (cxOf CX P w K mg base N qual scope f cd A outer s H E).ex := fun b z => absurd (show b ∈ ([] : List Addr) from z) (by simp)
  refine ⟨⟨e0.mod, S.kind, rfl, rfl, Nat.le_refl _, fun y z c h1 h2 => ?_, fun y hy => ?_, fun y c _ h => ?_, fun _ => hd, Around.frames_deeper e0.frames, .inr ⟨rfl, rfl⟩, fun b z => absurd z (noA b), e0.bs, e0.bsz, fun b _ _ => noA b, fun b z => absurd z (noA b), e0.funs, e0.frf⟩,
    rfl, e0.bare, Un.kept hk, ⟨_, x.toInCall.ns, fun i y v h1 h2 h3 => ?_⟩, fun y c h => ⟨_, x.cell y c h⟩, e0.hok.fresh (Nat.le_refl _), fun y c h => ?_, fun p hp => absurd (show p ∈ ([] : List (Addr × Obj)) from hp) (by simp), e0.hok.kept hk, ?_⟩
  · exact name_of_addr x.apart (PySem.mem_of_lookup h1) (PySem.mem_of_lookup h2)
  · have hy : scope.names.lookup y = some .cell ∨ scope.names.lookup y = some .free := hy
    rcases hy with hy | hy
    · exact cell_has hy
    · exact absurd rfl (S.nofree _ (PySem.mem_of_lookup hy))
  · exact Nat.le_of_lt (x.above y c (PySem.mem_of_lookup h))
  · have hi : i < vs.length := by
      unfold start at h2
      by_cases hi : i < vs.length
      · exact hi
      · rw [List.getElem?_append_right (by simpa using hi)] at h2
        rw [List.getElem?_replicate] at h2
        split at h2 <;> cases h2
    have ha : vs[i]? = some v := by
      unfold start at h2
      rw [List.getElem?_append_left (by simpa using hi), List.getElem?_map] at h2
      cases e : vs[i]? with
      | none => rw [e] at h2; cases h2
      | some a => rw [e] at h2; cases h2; rfl
    obtain ⟨u, hu, rv⟩ := r.get ha
    have hp : ps[i]? = some y := by
      rw [← S.pre, List.getElem?_take_of_lt (by omega)]; exact h1
    have ndP : ps.Nodup := by rw [← S.pre]; exact S.nd.sublist (List.take_sublist _ _)
    refine ⟨u, rv, ?_⟩
    rcases S.par y (List.mem_of_getElem? hp) with k | k
    · exact .inl ⟨k, bindL_get ndP hp hu k⟩
    · obtain ⟨c, e⟩ := cell_has (n := s.heap.objs.size + 1) k
      refine .inr ⟨.inl k, c, e, ?_⟩
      have q := x.cell y c e
      rw [bindC_get ndP hp hu (by show scope.names.lookup y ≠ _; rw [k]; decide)] at q
      exact q
  · exact e0.hok.fresh (Nat.le_of_lt (x.above y c (PySem.mem_of_lookup h)))
  · unfold start
    show _ = N.length
    rw [List.length_append, List.length_map, List.length_replicate]
    omega
theorem fn_of {CX : CXT} {P : Program} {w : World} {K : PySem.W.Frag} {mg : Str → Option Value} {base : Heap} {k : Nat} {f : Addr} {name qual : Str} {params : Arguments} {body : List Stmt} {scope : Scope} {dV kV doc pm cdv ct oc : Value} {an od : Option Addr}
    {osl : Array (Option Value)} {N ps : List Str} {sp : Sp} (lk : K.lookup f = some ⟨oc, od, .func (PySem.W.fnOf name qual params body scope dV kV doc pm an cdv ct), osl⟩) (hcd : PySem.W.codeIn K cdv qual = true) (S : FnScope N ps scope)
    (len : ∀ vs H Q E, sp vs H Q E → vs.length = ps.length)
    (hbody : ∀ (A : Around) (outer : List Env) (s : Shared) (H : Hp) (vs : List V) (Q : VK) (E : XK), Room k (A.deeper (envOfC qual scope s.heap.objs.size f cdv)) → sp vs H Q E →
      ∃ t, PSs (cxOf CX P w K mg base N qual scope f cdv A outer s H E) body t ∧ t { nx := fun _ H' => Q .non H', rt := Q } (start N vs) H) :
    FnOk P w K mg base CX (k + 1) f (PySem.W.fnOf name qual params body scope dV kV doc pm an cdv ct) ps sp := by
  refine ⟨len, fun A outer s H args us vs Q E hr e0 hb r hsp => ?_⟩
  have hl := len _ _ _ _ hsp
  have KX : K.In s.heap := e0.mod.kin.keeps fun b o e => (e0.bs b o e).1
  have lim : s.heap.NoLimit := e0.mod.nolimit.keeps fun b o e => (e0.bs b o e).1
  have hkind : ∀ y ∈ ps.zip us, scope.names.lookup y.1 = some .local ∨ (scope.names.lookup y.1 = some .cell ∧ ((cellsFrom (s.heap.objs.size + 1) scope.names []).lookup y.1).isSome = true) := fun ⟨n, v⟩ hy => by
    rcases S.par n (List.of_mem_zip hy).1 with q | q
    · exact .inl q
    · exact .inr ⟨q, PySem.W.cellsFrom_some _ _ _ (.inl q)⟩
  refine codeAny_call_function hr.depth (KX _ _ lk) rfl S.co S.gen rfl (PySem.W.codeRec_of KX hcd) (hb _ _ _ _ ?_)
  refine wpAny_newFunctionEnv_cells S.kind hkind fun env he s1 x => ?_
  subst he
  refine ⟨lim.keeps x.toInCall.keep, codeAny_func ?_⟩
  obtain ⟨t, ht, hq⟩ := hbody A outer s H vs Q E (hr.deeper _) hsp
  have I : Inv (cxOf CX P w K mg base N qual scope f cdv A outer s H E) [] (start N vs) H s1 := inv_start S hr.hd e0 hl r x
  refine wpAny_mono (ht [] s1 (start N vs) H _ I hq) (fun fl s' hs => ?_) fun e s' hs => hs
  have fin : ∀ {σ' : St} {H' : Hp} {v : V} {u : Value}, Inv (cxOf CX P w K mg base N qual scope f cdv A outer s H E) [] σ' H' s' → RelV v u → Q v H' → CE outer P w H s Q u s' :=
    fun {σ' H' v u} J rv q => ⟨v, H', J.os, J.bare, J.base, J.hok, rv, q⟩
  cases fl with
  | ret u =>
    obtain ⟨v, σ', H', J, rv, q⟩ := hs
    exact fin J rv q
  | next =>
    obtain ⟨σ', H', J, q⟩ := hs
    exact fin (v := V.non) (u := Value.none) J rfl q
  | brk =>
    obtain ⟨_, _, _, q⟩ := hs
    exact False.elim q
  | cont =>
    obtain ⟨_, _, _, q⟩ := hs
    exact False.elim q
end L2
namespace L2
open PySem PySem.Spec PyProof.Rows
section
variable {X : Cx} {x : Str} {p pos : Pos} {e : Expr} {es : List Expr} {t : TA} {id T : String} {r : List V → Hp → VK → Prop}
def tCB (r : List V → Hp → VK → Prop) (t : TA) : TE := fun σ H Q => t σ H fun vs H1 => r vs H1 Q
theorem pe_callB (hc : CallR X (.builtin id) r) (hg : Gl X x) (hm : X.mg x = none) (hv : bootBuiltins x = some (.builtin id)) (ha : PA X (e :: es) t) (hn : x ≠ "__name__" := by decide) (hdb : (x == ("__debug__" : Str)) = false := by decide)
    (he : starEach (e :: es) X.env = (false, eval e X.env) :: starEach es X.env := by rfl) (hpl : (backTo pos (starEach es X.env)).any (·.1) = false := by rfl) : PE X (.Call (.Name x p) (e :: es) [] pos) (tCB r t) := by
  intro pins s σ H Q I h
  refine wpAny_Call_Name_kw (ld_blt I hg hm hv ?_ hn hdb)
  exact PyProof.Rows.callWith_builtin1 (thn (ha pos pins s σ H _ I h) fun us s1 ⟨vs, H1, I1, r1, q1⟩ => hc pins s1 σ H1 vs us Q I1 r1 q1) he hpl
theorem pe_callTy (hc : CallR X (.type T) r) (hg : Gl X x) (hm : X.mg x = none) (hv : bootBuiltins x = some (.type T)) (ha : PA X (e :: es) t) (hn : x ≠ "__name__" := by decide) (hdb : (x == ("__debug__" : Str)) = false := by decide)
    (he : starEach (e :: es) X.env = (false, eval e X.env) :: starEach es X.env := by rfl) (hpl : (backTo pos (starEach es X.env)).any (·.1) = false := by rfl) : PE X (.Call (.Name x p) (e :: es) [] pos) (tCB r t) := by
  intro pins s σ H Q I h
  refine wpAny_Call_Name_kw (ld_blt I hg hm hv ?_ hn hdb)
  exact PyProof.Rows.callWith_type1 (thn (ha pos pins s σ H _ I h) fun us s1 ⟨vs, H1, I1, r1, q1⟩ => hc pins s1 σ H1 vs us Q I1 r1 q1) he hpl
end
end L2
namespace HT
open PySem PyProof.Rows
section
open PySem.SeqAt
open PySem.AutoSeq1 (wpAny_loadPart')
open PySem.MeetsSeq PySem.MeetsSeq2 PySem.MeetsSeq3
end
section
variable {prog : Program} {w : World} {A : Around} {E : Value → Shared → Prop} {s : Shared}
theorem cat_tup {t b : Addr} {vs ws : List Value} {Q : Value → Shared → Prop} (ht : IsTup s.heap t vs.toArray) (hb : IsTup s.heap b ws.toArray) (hv : vs ≠ [])
    (h1 : ws = [] → Q (.ref t) s) (h2 : ws ≠ [] → Q (.ref s.heap.objs.size) { s with heap := s.heap.push { cls := .type "tuple", data := .seq (vs ++ ws).toArray } })
    (hsz : vs.length + ws.length ≤ sizeLine) : wpAny (model prog w) A (binaryOp .Add (.ref t) (.ref b)) Q E s := by
  obtain ⟨⟨cls, dd, data, sl⟩, ho, hc, n, hd⟩ := id ht
  obtain ⟨⟨cls2, dd2, data2, sl2⟩, ho2, hc2, n2, hd2⟩ := id hb
  simp only at hc hd hc2 hd2
  subst hc hd hc2 hd2
  have e : vs.toArray ++ ws.toArray = (vs ++ ws).toArray := by simp
  by_cases hw : ws = []
  · exact concat_meets ⟨_, ho, rfl⟩ ⟨_, ho2, rfl⟩ noFill_tuple_add seq_tuple_add PySem.F.slot_tuple_add PySem.F.entry_tuple_add (PySem.F.args_tuple_add_2 _ _)
      (tuple_addW1 t b vs.toArray ws.toArray n n2 dd dd2 sl sl2 (by simpa using hv) (by simp [hw])) ⟨ho, ho2, h1 hw⟩
  · refine concat_meets ⟨_, ho, rfl⟩ ⟨_, ho2, rfl⟩ noFill_tuple_add seq_tuple_add PySem.F.slot_tuple_add PySem.F.entry_tuple_add (PySem.F.args_tuple_add_2 _ _)
      (tuple_addW2 t b vs.toArray ws.toArray n n2 dd dd2 sl sl2 (by simpa using hv) (by simpa using hw) (by rw [List.size_toArray, List.size_toArray]; exact hsz)) ⟨ho, ho2, ?_⟩
    rw [e]
    exact h2 hw
def sIx (n d : Nat) : Option Int → Nat
  | none => d
  | some v => if v < 0 then (v + (n : Int)).toNat else min v.toNat n
theorem sIx_le (n d : Nat) (hd : d ≤ n) (o : Option Int) : sIx n d o ≤ n := by
  cases o with
  | none => exact hd
  | some v =>
    show (if v < 0 then (v + (n : Int)).toNat else min v.toNat n) ≤ n
    by_cases hv : v < 0
    · rw [if_pos hv]; omega
    · rw [if_neg hv]; exact Nat.min_le_right _ _
theorem clip_eq (v : Int) (n d : Nat) : (if v < 0 then max (v + (n : Int)) 0 else min v (n : Int)) = ((sIx n d (some v) : Nat) : Int) := by
  show (if v < 0 then max (v + (n : Int)) 0 else min v (n : Int)) = (((if v < 0 then (v + (n : Int)).toNat else min v.toNat n) : Nat) : Int)
  by_cases hv : v < 0
  · simp only [if_pos hv]; omega
  · simp only [if_neg hv]; omega
theorem adjust_gen (lo hi : Option Int) (n : Nat) : Builtin.Slice.sliceAdjust lo hi 1 (n : Int) = (((sIx n 0 lo : Nat) : Int), ((sIx n n hi : Nat) : Int)) := by
  have h1 : ¬ ((1 : Int) < 0) := by omega
  unfold Builtin.Slice.sliceAdjust
  simp only [h1, if_false]
  refine Prod.ext ?_ ?_
  · cases lo with
    | none => rfl
    | some v => exact clip_eq v n 0
  · cases hi with
    | none => rfl
    | some v => exact clip_eq v n n
theorem places_gen (i j : Nat) : Builtin.Slice.slicePlaces (i : Int) (j : Int) 1 = j - i := by
  unfold Builtin.Slice.slicePlaces
  have h1 : (1 : Int) > 0 := by omega
  simp only [h1, if_true, Int.ediv_one]
  split <;> omega
theorem slicePart_ {v : Value} {o : Option Int} {Q : Option Int → Shared → Prop} (p : IsPart v o) (h : Q o s) : wpAny (model prog w) A (Builtin.Slice.slicePartIndex v) Q E s := by
  cases p with
  | none => exact slicePart_none h
  | int i t => exact slicePart_int h
theorem sliceApplied_gen {sl : Addr} {vl vu : Value} {lo hi : Option Int} {n : Nat} {Q : Int × Int × Nat → Shared → Prop} (hs : s.heap.IsSliceOf sl vl vu .none) (pl : IsPart vl lo) (pu : IsPart vu hi)
    (h : Q (((sIx n 0 lo : Nat) : Int), 1, sIx n n hi - sIx n 0 lo) s) : wpAny (model prog w) A (Builtin.Slice.sliceApplied (.ref sl) (pure (n : Int))) Q E s := by
  obtain ⟨os, hos, hcs, hds⟩ := id hs
  unfold Builtin.Slice.sliceApplied Builtin.Slice.sliceFields
  refine wpAny_bind (wpAny_bind (wpAny_field hos hds (x := vl) rfl (wpAny_bind (wpAny_field hos hds (x := vu) rfl (wpAny_bind (wpAny_field hos hds (x := .none) rfl (wpAny_pure ?_)))))))
  refine wpAny_bind (slicePart_none ?_)
  show wpAny _ _ (if ((1 : Int) == 0) = true then _ else _) _ _ s
  rw [if_neg (by decide)]
  refine wpAny_bind (slicePart_ pl (wpAny_bind (slicePart_ pu (wpAny_bind (wpAny_pure ?_)))))
  show wpAny _ _ (match Builtin.Slice.sliceAdjust lo hi 1 (n : Int) with | (lo, hi) => pure (lo, (1 : Int), Builtin.Slice.slicePlaces lo hi 1)) _ _ s
  rw [adjust_gen lo hi n]
  show wpAny _ _ (pure (((sIx n 0 lo : Nat) : Int), (1 : Int), Builtin.Slice.slicePlaces ((sIx n 0 lo : Nat) : Int) ((sIx n n hi : Nat) : Int) 1)) _ _ s
  rw [places_gen]
  exact wpAny_pure h
theorem pick_gen (xs : Array Value) (i k : Nat) : ((List.range k).filterMap fun (m : Nat) => xs[((i : Int) + (m : Int) * 1).toNat]?).toArray = ((xs.toList.drop i).take k).toArray := by
  have e : (fun (m : Nat) => xs[((i : Int) + (m : Int) * 1).toNat]?) = fun m => xs[i + m]? := by
    funext m
    have : ((i : Int) + (m : Int) * 1).toNat = i + m := by omega
    rw [this]
  rw [e]
  have := pick_run xs i k
  rw [List.filterMap_map] at this
  have e2 : ((fun x => xs[x]?) ∘ fun x => i + x) = fun m => xs[i + m]? := rfl
  rw [e2] at this
  rw [this]
theorem getItem_tuple_cut {t sl : Addr} {items : Array Value} {vl vu : Value} {lo hi : Option Int} {Q : Value → Shared → Prop} (ht : IsTup s.heap t items) (hs : s.heap.IsSliceOf sl vl vu .none) (pl : IsPart vl lo) (pu : IsPart vu hi)
    (hw : ¬ (sIx items.size 0 lo = 0 ∧ sIx items.size items.size hi = items.size))
    (h : Q (.ref s.heap.objs.size) { s with heap := s.heap.push { cls := .type "tuple", data := .seq ((items.toList.drop (sIx items.size 0 lo)).take (sIx items.size items.size hi - sIx items.size 0 lo)).toArray } })
    (hsz : items.size ≤ sizeLine) : wpAny (model prog w) A (getItem (.ref t) (.ref sl)) Q E s := by
  have htake : sizeOk (.seq ((items.toList.drop (sIx items.size 0 lo)).take (sIx items.size items.size hi - sIx items.size 0 lo)).toArray) := by
    show ((items.toList.drop (sIx items.size 0 lo)).take (sIx items.size items.size hi - sIx items.size 0 lo)).toArray.size ≤ sizeLine
    rw [List.size_toArray, List.length_take, List.length_drop, Array.length_toList]
    omega
  have hj : sIx items.size items.size hi ≤ items.size := sIx_le _ _ (Nat.le_refl _) hi
  obtain ⟨os, hos, hcs, hds⟩ := id hs
  have hTs : s.TypeIs (.ref sl) "slice" := ⟨os, hos, hcs⟩
  unfold getItem
  try with_reducible refine wpAny_holding ?_
  first | refine wpAny_bind (wpAny_pure ?_) | skip
  refine wpAny_bind (wpAny_sequenceKey ht.typeIs (by decide) ?_)
  refine wpAny_bind (wpAny_callSpecial?_slot (name := Str.ofString "__getitem__") ht.typeIs PyProof.Rows.slot_tuple_getitem
    (wpAny_call_entry PyProof.Rows.slot_tuple_getitem ht.typeIs entry_tuple_getitem ?_ (args_tuple_getitem _ _)))
  show wpAny _ _ (Builtin.Tuple.tupleItemsOf (.ref t) >>= _) _ _ s
  refine wpAny_bind (tupleItemsOf_ ht ?_)
  refine wpAny_bind (wpAny_typeOf hTs ?_)
  rw [if_pos (by decide)]
  refine wpAny_bind (sliceApplied_gen hs pl pu ?_)
  have hno : ¬ ((((sIx items.size 0 lo : Nat) : Int) == 0 && (1 : Int) == 1 && (sIx items.size items.size hi - sIx items.size 0 lo) == items.size) = true) := by
    intro q
    rw [Bool.and_eq_true, Bool.and_eq_true] at q
    have q1 : ((sIx items.size 0 lo : Nat) : Int) = 0 := eq_of_beq q.1.1
    have q2 : sIx items.size items.size hi - sIx items.size 0 lo = items.size := eq_of_beq q.2
    exact hw ⟨by omega, by omega⟩
  show wpAny _ _ (if (((sIx items.size 0 lo : Nat) : Int) == 0 && (1 : Int) == 1 && (sIx items.size items.size hi - sIx items.size 0 lo) == items.size) = true then _ else _) _ _ s
  rw [if_neg hno, pick_gen]
  first
    | exact wpAny_bind (m := Builtin.Tuple.tupleExact _) (wpAny_newObj_type (wpAny_pure ⟨_, rfl, wpAny_pure h⟩) htake)
    | exact wpAny_bind (m := Builtin.Tuple.tupleExact _) (wpAny_newObj_type (wpAny_bind (wpAny_pure (wpAny_pure ⟨_, rfl, wpAny_pure h⟩))) htake)
    | exact wpAny_bind (wpAny_bind (m := Builtin.Tuple.tupleExact _) (wpAny_newObj_type (wpAny_pure (wpAny_pure ⟨_, rfl, wpAny_pure h⟩)) htake))
    | exact wpAny_bind (wpAny_bind (m := Builtin.Tuple.tupleExact _) (wpAny_newObj_type (wpAny_pure ⟨_, rfl, wpAny_pure h⟩) htake))
end
end HT
namespace L2
open PySem PySem.Spec PyProof.Rows
abbrev TO := St → Hp → (Option Int → Hp → Prop) → Prop
def PO (X : Cx) (e : Option Expr) (t : TO) : Prop :=
  ∀ (pins : List (Addr × Obj)) (s : Shared) (σ : St) (H : Hp) (Q : Option Int → Hp → Prop), Inv X pins σ H s → t σ H Q →
    wpAny (model X.prog X.w) X.A (evalPart e X.env) (fun u s' => ∃ o H', Inv X pins σ H' s' ∧ IsPart u o ∧ Q o H') X.xe s
def tNoPart : TO := fun _ H Q => Q none H
def tPart (t : TE) : TO := fun σ H Q => t σ H fun x H1 => ∃ i, x = .int i ∧ Q (some i) H1
theorem intsAre_of {ns : List Int} : ∀ {us : List Value}, Vals (ns.map V.int) us → IntsAre us ns := by
  induction ns with
  | nil => intro us r; rw [List.map_nil] at r; cases r; exact .nil
  | cons n ns ih =>
    intro us r
    rw [List.map_cons] at r
    cases r with
    | cons r1 r2 =>
      obtain ⟨t, e⟩ := r1
      subst e
      exact .cons n t (ih r2)
section
variable {X : Cx} {e : Expr} {te : TE} {lo hi : Option Expr} {tl th : TO} {pos p2 : Pos}
theorem po_none : PO X none tNoPart := by
  intro pins s σ H Q I h
  rw [evalPart_none]
  exact wpAny_pure ⟨none, H, I, .none, h⟩
theorem po_some (h : PE X e te) : PO X (some e) (tPart te) := by
  intro pins s σ H Q I hw
  rw [evalPart_some]
  refine thn (h pins s σ H _ I hw) fun u s1 ⟨x, H1, I1, r1, q1⟩ => ?_
  obtain ⟨i, rfl, q⟩ := q1
  obtain ⟨t, rfl⟩ := r1
  exact ⟨some i, H1, I1, .int i t, q⟩
def SlR (X : Cx) (r : V → Option Int → Option Int → Hp → VK → Prop) : Prop :=
  ∀ (pins : List (Addr × Obj)) (s : Shared) (σ : St) (H : Hp) (x : V) (v vl vu : Value) (lo hi : Option Int) (sl : Addr) (Q : VK), Inv X pins σ H s → RelV x v → s.heap.IsSliceOf sl vl vu .none → IsPart vl lo → IsPart vu hi → r x lo hi H Q →
    ∃ T id, typeLookup (.type T) "__getitem__" = pure (some (.builtin id)) ∧ s.TypeIs v T ∧ wpAny (model X.prog X.w) X.A (getItem v (.ref sl)) (EP X pins σ Q) X.xe s
def tSl (r : V → Option Int → Option Int → Hp → VK → Prop) (te : TE) (tl th : TO) : TE := fun σ H Q => te σ H fun x H1 => tl σ H1 fun l H2 => th σ H2 fun u H3 => r x l u H3 Q
theorem pe_slice {r : V → Option Int → Option Int → Hp → VK → Prop} (hr : SlR X r) (he : PE X e te) (hl : PO X lo tl) (hu : PO X hi th) : PE X (.Subscript e (.Slice lo hi none p2) pos) (tSl r te tl th) := by
  intro pins s σ H Q I h
  refine Subscript_ (thn (he pins s σ H _ I h) fun v s1 ⟨x, H1, I1, r1, q1⟩ => ?_)
  refine wpAny_Slice (thn (hl pins s1 σ H1 _ I1 q1) fun vl s2 ⟨l, H2, I2, pl, q2⟩ => thn (hu pins s2 σ H2 _ I2 q2) fun vu s3 ⟨u, H3, I3, pu, q3⟩ => ?_)
  rw [evalPart_none]
  refine wpAny_pure ?_
  have I4 : Inv X pins σ H3 { s3 with heap := s3.heap.push { cls := .type "slice", data := .fields #[vl, vu, .none] } } := I3.kept (t' := s3.toks) fun b ob q => Heap.get?_push_of_some _ q
  obtain ⟨T, id, hT, ht, hg⟩ := hr pins { s3 with heap := s3.heap.push { cls := .type "slice", data := .fields #[vl, vu, .none] } } σ H3 x v vl vu l u s3.heap.objs.size Q I4 r1 (Heap.IsSliceOf.new ..) pl pu q3
  show wpAny (model X.prog X.w) X.A (subscriptTail e (.Slice lo hi none p2) v (.ref s3.heap.objs.size)) (EP X pins σ Q) X.xe { s3 with heap := s3.heap.push { cls := .type "slice", data := .fields #[vl, vu, .none] } }
  exact tail_any (ops := [.ref s3.heap.objs.size, v]) ht hT hg (by with_unfolding_all rfl)
def cutV (xs : List V) (lo hi : Option Int) : List V := (xs.drop (HT.sIx xs.length 0 lo)).take (HT.sIx xs.length xs.length hi - HT.sIx xs.length 0 lo)
theorem cutV_length (xs : List V) (lo hi : Option Int) : (cutV xs lo hi).length ≤ xs.length := by
  unfold cutV
  rw [List.length_take, List.length_drop]
  omega
def rSlT (K : PySem.W.Frag) : V → Option Int → Option Int → Hp → VK → Prop := fun x lo hi H Q => ∃ a xs, x = .ref a ∧ SqT K H a xs ∧
  ¬ (HT.sIx xs.length 0 lo = 0 ∧ HT.sIx xs.length xs.length hi = xs.length) ∧ ∀ p, H p = none → Q (.ref p) (upd H p (.tup (cutV xs lo hi)))
theorem sl_tup : SlR X (rSlT X.K) := by
  intro pins s σ H x v vl vu lo hi sl Q I rx hs pl pu h
  obtain ⟨a, xs, rfl, hx, hw, q⟩ := h
  cases rx
  obtain ⟨its, r, ht, hz⟩ := I.tuple hx
  have hlen : its.toArray.size = xs.length := by rw [List.size_toArray]; exact r.length.symm
  refine ⟨"tuple", _, PyProof.Rows.slot_tuple_getitem.lookup, ht.typeIs, ?_⟩
  refine HT.getItem_tuple_cut ht hs pl pu (by rw [hlen]; exact hw) ?_ (by rw [hlen]; exact hz)
  rw [hlen]
  refine ⟨.ref s.heap.objs.size, _, I.laid (t' := s.toks) (o := .tup (cutV xs lo hi)) (fun b ob q => Heap.get?_push_of_some _ q) (Nat.le_refl _) ?_, rfl, q _ (I.hok.fresh (Nat.le_refl _))⟩
  exact ⟨Nat.le_trans (cutV_length xs lo hi) hz, _, (r.drop (HT.sIx xs.length 0 lo)).take (HT.sIx xs.length xs.length hi - HT.sIx xs.length 0 lo), IsTup.new _ _⟩
def rCatT (K : PySem.W.Frag) : R2 := fun x y H Q => ∃ a b xs ys, x = .ref a ∧ y = .ref b ∧ SqT K H a xs ∧ SqT K H b ys ∧ xs ≠ [] ∧ xs.length + ys.length ≤ sizeLine ∧
  (ys = [] → Q (.ref a) H) ∧ (ys ≠ [] → ∀ p, H p = none → Q (.ref p) (upd H p (.tup (xs ++ ys))))
theorem Vals.nil_iff {xs : List V} {us : List Value} (r : Vals xs us) : us = [] ↔ xs = [] := by
  cases r with
  | nil => simp
  | cons _ _ => simp
theorem op_catT : OpR X (binaryOp .Add) (rCatT X.K) := by
  intro pins s σ H x y v u Q I rx ry h
  obtain ⟨a, b, xs, ys, rfl, rfl, ha, hb, hx, hz, q1, q2⟩ := h
  cases rx
  cases ry
  obtain ⟨its, r1, p1, _⟩ := I.tuple ha
  obtain ⟨its2, r2, p2, _⟩ := I.tuple hb
  refine HT.cat_tup p1 p2 (fun z => hx (r1.nil_iff.mp z)) (fun z => ⟨.ref a, H, I, rfl, q1 (r2.nil_iff.mp z)⟩) (fun z => ?_) (by rw [← r1.length, ← r2.length]; exact hz)
  refine ⟨.ref s.heap.objs.size, _, I.laid (t' := s.toks) (o := .tup (xs ++ ys)) (fun b ob q => Heap.get?_push_of_some _ q) (Nat.le_refl _) ?_, rfl, q2 (fun w => z (r2.nil_iff.mpr w)) _ (I.hok.fresh (Nat.le_refl _))⟩
  exact ⟨by rw [List.length_append]; exact hz, _, r1.append r2, IsTup.new _ _⟩
end
end L2
namespace L2
open PySem PySem.Spec PyProof.Rows
def ixN (n : Nat) (i : Int) : Option Nat := if 0 ≤ i then (if i < n then some i.toNat else none) else if -(n : Int) ≤ i then some (i + n).toNat else none
def atI {α : Type} (xs : List α) (i : Int) : Option α := (ixN xs.length i).bind fun j => xs[j]?
theorem ixN_seq {n : Nat} {i : Int} {j : Nat} (h : ixN n i = some j) : seqIndex? i n = some j ∧ j < n ∧ -(n : Int) ≤ i ∧ i < n := by
  unfold ixN at h
  by_cases h0 : 0 ≤ i
  · rw [if_pos h0] at h
    by_cases h1 : i < n
    · rw [if_pos h1] at h
      have e : i.toNat = j := Option.some.inj h
      exact ⟨by rw [seqIndex_of h0 h1, e], by omega, by omega, h1⟩
    · rw [if_neg h1] at h; cases h
  · rw [if_neg h0] at h
    by_cases h1 : -(n : Int) ≤ i
    · rw [if_pos h1] at h
      have e : (i + n).toNat = j := Option.some.inj h
      exact ⟨by rw [seqIndex_neg (by omega) h1, e], by omega, h1, by omega⟩
    · rw [if_neg h1] at h; cases h
theorem atI_get {α : Type} {xs : List α} {i : Int} {v : α} (h : atI xs i = some v) : ∃ j, seqIndex? i xs.length = some j ∧ xs[j]? = some v ∧ j < xs.length ∧ -(xs.length : Int) ≤ i ∧ i < xs.length := by
  unfold atI at h
  cases e : ixN xs.length i with
  | none => rw [e] at h; cases h
  | some j =>
    rw [e] at h
    obtain ⟨h1, h2, h3, h4⟩ := ixN_seq e
    exact ⟨j, h1, h, h2, h3, h4⟩
theorem atI_nat {α : Type} {xs : List α} {j : Nat} {v : α} (h : xs[j]? = some v) : atI xs (j : Int) = some v := by
  have hj : j < xs.length := (List.getElem?_eq_some_iff.mp h).1
  have e : ixN xs.length (j : Int) = some j := by
    unfold ixN
    rw [if_pos (by omega), if_pos (by omega)]; simp
  unfold atI; rw [e]; exact h
def PlainIx (b : Expr) : Prop := ∀ o i, subscripted b false o i = operate [o, i] (getItem o i)
def IxR (X : Cx) (r : R2) : Prop :=
  ∀ (value slice : Expr) (pins : List (Addr × Obj)) (s : Shared) (σ : St) (H : Hp) (x y : V) (v u : Value) (Q : VK), Inv X pins σ H s → RelV x v → RelV y u → r x y H Q →
    subscripted slice false v u = operate [v, u] (getItem v u) → wpAny (model X.prog X.w) X.A (subscriptTail value slice v u) (EP X pins σ Q) X.xe s
section
variable {X : Cx} {a b : Expr} {ta tb : TE} {pos : Pos}
theorem pe_ix {r : R2} (hr : IxR X r) (ha : PE X a ta) (hb : PE X b tb) (hs : PlainIx b) : PE X (.Subscript a b pos) (tOp r ta tb) := by
  intro pins s σ H Q I h
  exact Subscript_ (binT ha hb I h fun v u s2 x y H2 I2 rx ry q => hr a b pins s2 σ H2 x y v u Q I2 rx ry q (hs _ _))
def rIxL (K : PySem.W.Frag) : R2 := fun x y H Q => ∃ p xs i v, x = .ref p ∧ y = .int i ∧ SqL K H p xs ∧ atI xs i = some v ∧ Q v H
def rIxT (K : PySem.W.Frag) : R2 := fun x y H Q => ∃ p xs i v, x = .ref p ∧ y = .int i ∧ SqT K H p xs ∧ atI xs i = some v ∧ Q v H
theorem ix_list : IxR X (rIxL X.K) := by
  intro value slice pins s σ H x y v u Q I rx ry h hs
  obtain ⟨p, xs, i, z, rfl, rfl, hq, he, q⟩ := h
  cases rx
  obtain ⟨t, rfl⟩ := ry
  obtain ⟨its, r, pl, hz⟩ := I.list hq
  obtain ⟨j, h1, h2, h3, h4, h5⟩ := atI_get he
  obtain ⟨w, ew, rw'⟩ := r.get h2
  have hl := r.length
  have hn := line63
  have fin : EP X pins σ Q w s := ⟨z, H, I, rw', q⟩
  by_cases h0 : 0 ≤ i
  · have hj : i.toNat = j := by
      rw [seqIndex_of h0 h5] at h1
      exact Option.some.inj h1
    exact item_listR pl.isList h0 (by omega) (by rw [hj]; simpa using ew) fin hs
  · have hj : (i + (its.toArray.size : Int)).toNat = j := by
      rw [seqIndex_neg (by omega) h4] at h1
      rw [List.size_toArray, ← hl]
      exact Option.some.inj h1
    exact subscriptTail_builtinR (x := w) pl.isList.typeIs slot_list_getitem.lookup
      (wpAny_getItem_list_neg (Q := fun r s' => r = w ∧ EP X pins σ Q r s') pl.isList (by omega) (by rw [List.size_toArray] <;> omega) (by omega) (by rw [hj]; simpa using ew) ⟨rfl, fin⟩) hs
theorem ix_tup : IxR X (rIxT X.K) := by
  intro value slice pins s σ H x y v u Q I rx ry h hs
  obtain ⟨p, xs, i, z, rfl, rfl, hq, he, q⟩ := h
  cases rx
  obtain ⟨t, rfl⟩ := ry
  obtain ⟨its, r, pl, hz⟩ := I.tuple hq
  obtain ⟨j, h1, h2, h3, h4, h5⟩ := atI_get he
  obtain ⟨w, ew, rw'⟩ := r.get h2
  have hl := r.length
  have hn := line63
  have fin : EP X pins σ Q w s := ⟨z, H, I, rw', q⟩
  exact subscriptTail_builtinR (x := w) pl.typeIs slot_tuple_getitem.lookup
    (getItem_tuple (j := j) (Q := fun r s' => r = w ∧ EP X pins σ Q r s') pl (by omega) (by omega) (by rw [List.size_toArray, ← hl]; exact h1) (by simpa using ew) ⟨rfl, fin⟩) hs
theorem mapSeq_set (its : List Value) (n j : Nat) (u : Value) : Obj.mapSeq (·.setIfInBounds j u) { cls := .type "list", data := .seq its.toArray n } = { cls := .type "list", data := .seq (its.set j u).toArray n } := by
  simp [Obj.mapSeq]
theorem Inv.lst {pins : List (Addr × Obj)} {σ : St} {H : Hp} {s : Shared} {p : Addr} {xs : List V} (I : Inv X pins σ H s) (h : H p = some (.lst xs)) :
    ∃ (its : List Value) (n : Nat), Vals xs its ∧ s.heap.get? p = some { cls := .type "list", data := .seq its.toArray n } ∧ xs.length ≤ sizeLine := by
  obtain ⟨z, its, n, r, e⟩ := I.hok p _ h
  exact ⟨its, n, r, e, z⟩
theorem Inv.lstUpd {pins : List (Addr × Obj)} {σ : St} {H : Hp} {s : Shared} {p : Addr} {xs ys : List V} {its its' : List Value} {n n' : Nat} {f : Obj → Obj} (I : Inv X pins σ H s) (h : H p = some (.lst xs))
    (ho : s.heap.get? p = some { cls := .type "list", data := .seq its.toArray n }) (hf : f { cls := .type "list", data := .seq its.toArray n } = { cls := .type "list", data := .seq its'.toArray n' }) (r : Vals ys its') (hz : ys.length ≤ sizeLine) (t : Nat) :
    Inv X pins σ (upd H p (.lst ys)) { s with heap := s.heap.update p f, toks := t } := by
  have e : (s.heap.update p f).get? p = some { cls := .type "list", data := .seq its'.toArray n' } := by
    rw [Heap.get?_update_self f ho (by rw [hf] <;> rfl), hf]
  refine I.write (x := p) (e := p) (by rw [h]; trivial) (.inl rfl) (fun b u hb q => (Heap.get?_update_other _ _ (Ne.symm hb)).trans q) ⟨_, e⟩ ?_
  exact ⟨hz, its', n', r, e⟩
def rSetL : V → V → V → Hp → (Hp → Prop) → Prop := fun o i v H Q => ∃ p xs k j, o = .ref p ∧ i = .int k ∧ H p = some (.lst xs) ∧ ixN xs.length k = some j ∧ Q (upd H p (.lst (xs.set j v)))
theorem set_list : PSet X rSetL := by
  intro pins s σ H o i v ov iv u Q I ro ri rv h
  obtain ⟨p, xs, k, j, rfl, rfl, hp, hj, q⟩ := h
  cases ro
  obtain ⟨t, rfl⟩ := ri
  obtain ⟨its, n, r, ho, hz⟩ := I.lst hp
  obtain ⟨h1, h2, h3, h4⟩ := ixN_seq hj
  have hl := r.length
  have hn := line63
  have I' : Inv X pins σ (upd H p (.lst (xs.set j v))) { s with heap := s.heap.update p (Obj.mapSeq (·.setIfInBounds j u)) } :=
    I.lstUpd hp ho (mapSeq_set its n j u) (r.set rv j) (by rw [List.length_set]; exact hz) s.toks
  by_cases h0 : 0 ≤ k
  · have hk : k.toNat = j := by
      rw [seqIndex_of h0 h4] at h1
      exact Option.some.inj h1
    exact PySem.W.ki_setAt ho h0 (by omega) (by rw [List.size_toArray, ← hl]; exact h4) (by rw [hk]; exact ⟨_, I', q⟩)
  · have hk : (k + (its.toArray.size : Int)).toNat = j := by
      rw [seqIndex_neg (by omega) h3] at h1
      rw [List.size_toArray, ← hl]
      exact Option.some.inj h1
    exact PySem.W.ki_setBack ho (by omega) (by rw [List.size_toArray, ← hl]; exact h3) (by omega) (by rw [hk]; exact ⟨_, I', q⟩)
def flatV : V → Bool
  | .non => true
  | .bl _ => true
  | .int _ => true
  | .str _ => true
  | _ => false
def eqV : V → V → Bool
  | .non, .non => true
  | .bl a, .bl b => a == b
  | .bl a, .int b => (if a then 1 else 0) == b
  | .int a, .bl b => a == (if b then 1 else 0)
  | .int a, .int b => a == b
  | .str a, .str b => a == b
  | _, _ => false
theorem eqAt_V {A : Around} {s : Shared} {y x : V} {u v : Value} (ry : RelV y u) (rx : RelV x v) (fy : flatV y = true) (fx : flatV x = true) : SeqAt.EqAt A s u v (eqV y x) := by
  cases y with
  | non =>
    cases ry
    cases x with
    | non => cases rx; exact SeqAt.EqAt.same _
    | bl b => cases rx; exact SeqAt.EqAt.none_bool b
    | int b => obtain ⟨t, rfl⟩ := rx; exact SeqAt.EqAt.none_int b t
    | str b => obtain ⟨t, rfl⟩ := rx; exact SeqAt.EqAt.none_str b t
    | _ => exact absurd (show false = true from fx) Bool.false_ne_true
  | bl a =>
    cases ry
    cases x with
    | non => cases rx; exact SeqAt.EqAt.bool_none a
    | bl b => cases rx; exact SeqAt.EqAt.bool_bool a b
    | int b => obtain ⟨t, rfl⟩ := rx; exact SeqAt.EqAt.bool_int a b t
    | str b => obtain ⟨t, rfl⟩ := rx; exact SeqAt.EqAt.bool_str a b t
    | _ => exact absurd (show false = true from fx) Bool.false_ne_true
  | int a =>
    obtain ⟨t', rfl⟩ := ry
    cases x with
    | non => cases rx; exact SeqAt.EqAt.int_none a t'
    | bl b => cases rx; exact SeqAt.EqAt.int_bool a t' b
    | int b => obtain ⟨t, rfl⟩ := rx; exact SeqAt.EqAt.int_int a t' b t
    | str b => obtain ⟨t, rfl⟩ := rx; exact SeqAt.EqAt.int_str a t' b t
    | _ => exact absurd (show false = true from fx) Bool.false_ne_true
  | str a =>
    obtain ⟨t', rfl⟩ := ry
    cases x with
    | non => cases rx; exact SeqAt.EqAt.str_none a t'
    | bl b => cases rx; exact SeqAt.EqAt.str_bool a t' b
    | int b => obtain ⟨t, rfl⟩ := rx; exact SeqAt.EqAt.str_int a t' b t
    | str b => obtain ⟨t, rfl⟩ := rx; exact SeqAt.EqAt.str_str a t' b t
    | _ => exact absurd (show false = true from fx) Bool.false_ne_true
  | _ => exact absurd (show false = true from fy) Bool.false_ne_true
theorem call_len_seq : CallR X (.builtin "len") (fun xs H Q => ∃ p ys, xs = [.ref p] ∧ (SqL X.K H p ys ∨ SqT X.K H p ys) ∧ Q (.int ys.length) H) := by
  intro pins s σ H xs us Q I r h
  obtain ⟨p, ys, rfl, hq, q⟩ := h
  obtain ⟨u, rfl, rx⟩ := vals1 r
  cases rx
  have hn := line63
  rcases hq with hq | hq
  · obtain ⟨its, r', pl, hz⟩ := I.list hq
    have hlen := r'.length
    exact Calls.call_len_list pl.isList (by simp only [List.size_toArray] <;> omega) ⟨.int ys.length, H, I.tok _, ⟨s.toks + 1, by rw [List.size_toArray, hlen]⟩, q⟩
  · obtain ⟨its, r', pl, hz⟩ := I.tuple hq
    have hlen := r'.length
    exact len_tuple pl (by simp only [List.size_toArray] <;> omega) ⟨.int ys.length, H, I.tok _, ⟨s.toks + 1, by rw [List.size_toArray, hlen]⟩, q⟩
theorem call_tuple_of : CallR X (.type "tuple") (fun xs H Q => ∃ p ys, xs = [.ref p] ∧ ((SqL X.K H p ys ∧ ∀ l, H l = none → Q (.ref l) (upd H l (.tup ys))) ∨ (SqT X.K H p ys ∧ Q (.ref p) H))) := by
  intro pins s σ H xs us Q I r h
  obtain ⟨p, ys, rfl, h⟩ := h
  obtain ⟨u, rfl, rx⟩ := vals1 r
  cases rx
  rcases h with ⟨hq, q⟩ | ⟨hq, q⟩
  · obtain ⟨its, r', pl, hz⟩ := I.list hq
    have hlen := r'.length
    refine call_tuple_list pl.isList (fun h' kp => ?_) (by simp only [List.size_toArray] <;> omega)
    have I1 : Inv X pins σ H { s with heap := h' } := I.kept (t' := s.toks) kp
    have I2 : Inv X pins σ (upd H h'.objs.size (.tup ys)) { s with heap := h'.push { cls := .type "tuple", data := .seq its.toArray } } :=
      I1.laid (t' := s.toks) (fun b o e => Heap.get?_push_of_some _ e) (Nat.le_refl _) (show ObjOk X.prog X.w _ _ _ (.tup ys) from ⟨hz, its, r', IsTup.new _ _⟩)
    exact ⟨.ref h'.objs.size, _, I2, rfl, q _ (I1.hok.fresh (Nat.le_refl _))⟩
  · obtain ⟨its, r', pl, hz⟩ := I.tuple hq
    exact call_tuple_same pl ⟨.ref p, H, I, rfl, q⟩
variable {o e : Expr} {es : List Expr} {to : TE} {t : TA} {name : Str} {apos cpos : Pos} {T id : String} {r : V → List V → Hp → VK → Prop}
/- xs.append(e), list.index on a module's tuple .. are MtR facts of 06m -/
end
end L2
namespace L2
open PySem PySem.Spec PyProof.Rows
def MtM (X : Cx) (id : String) (r : V → List V → Hp → VK → Prop) : Prop :=
  ∀ (pins : List (Addr × Obj)) (s : Shared) (σ : St) (H : Hp) (x : V) (xs : List V) (v : Value) (us : List Value) (Q : VK), Inv X pins σ H s → RelV x v → Vals xs us → r x xs H Q →
    wpAny (model X.prog X.w) X.A (call (.builtin id) (v :: us)) (EP X pins σ Q) X.xe s
theorem Vals.one : ∀ {x : V} {us : List Value}, Vals [x] us → ∃ u, us = [u] ∧ RelV x u
  | _, _, .cons r .nil => ⟨_, rfl, r⟩
section
variable {X : Cx} {pins : List (Addr × Obj)} {σ : St} {H : Hp} {s : Shared} {l b : Addr} {xs ys zs : List V}
theorem Inv.lset {its its' : List Value} {n : Nat} {f : Array Value → Array Value} {t' : Nat} (I : Inv X pins σ H s) (hH : H l = some (.lst xs))
    (e : s.heap.get? l = some { cls := .type "list", data := .seq its.toArray n }) (hf : f its.toArray = its'.toArray) (hv : Vals ys its') (hz : ys.length ≤ sizeLine) :
    Inv X pins σ (upd H l (.lst ys)) { s with heap := s.heap.update l (Obj.mapSeq f), toks := t' } := by
  have q := PySem.IsL.update e f
  rw [hf] at q
  refine I.write (x := l) (e := l) (by rw [hH]; exact trivial) (.inl rfl) (fun b' u hb hu => (Heap.get?_update_other s.heap (Obj.mapSeq f) (Ne.symm hb)).trans hu) ⟨_, q⟩ ?_
  exact ⟨hz, its', _, hv, q⟩
theorem Inv.lstM (I : Inv X pins σ H s) (hH : H l = some (.lst xs)) : xs.length ≤ sizeLine ∧ ∃ (its : List Value) (n : Nat), Vals xs its ∧ xs.length = its.length ∧ s.heap.get? l = some { cls := .type "list", data := .seq its.toArray n } := by
  obtain ⟨z, its, n, r, e⟩ := I.hok l _ hH
  exact ⟨z, its, n, r, r.length, e⟩
end
section
variable {X : Cx}
def rAppend : V → List V → Hp → VK → Prop := fun x vs H Q => ∃ l xs y, x = .ref l ∧ vs = [y] ∧ H l = some (.lst xs) ∧ xs.length < sizeLine ∧ Q .non (upd H l (.lst (xs ++ [y])))
theorem mt_append : MtM X "list.append" rAppend := by
  intro pins s σ H x vs v us Q I rx rv h
  obtain ⟨l, xs, y, rfl, rfl, hH, hz, q⟩ := h
  cases rx
  obtain ⟨u, rfl, ru⟩ := rv.one
  obtain ⟨z, its, n, r, hl, e⟩ := I.lstM hH
  refine call_meets F.slot_list_append ⟨_, e, rfl⟩ F.entry_list_append (F.args_list_append_2 _ _) (PySem.list_append l its.toArray n u (by rw [List.size_toArray]; omega)) ⟨e, ?_⟩
  refine ⟨.non, _, I.lset (its' := its ++ [u]) hH e (by simp) (r.append (.cons ru .nil)) ?_, rfl, q⟩
  rw [List.length_append, List.length_singleton]
  omega
end
section
variable {prog : Program} {w : World} {A : Around} {E : Value → Shared → Prop} {s : Shared}
set_option maxRecDepth 100000 in
end
section
variable {X : Cx}
end
end L2
namespace Att
open PySem PySem.W PySem.Calls PyProof.Rows
theorem ints_of_wellAll {P : Params} {h : Heap} : ∀ (ns : List Int) (vs : List Value), WellAll P h vs (ns.map WData.int) → IntsAre vs ns := by
  intro ns
  induction ns with
  | nil =>
    intro vs w
    rw [List.map_nil] at w
    cases w
    exact .nil
  | cons n ns ih =>
    intro vs w
    rw [List.map_cons] at w
    cases w with
    | cons a b =>
      cases a
      exact .cons _ _ (ih _ b)
theorem script_of {l : OpenLaw} {n : Nat} (hn : l.most = some n) {P : Params} {h : Heap} {args : List WData} {vals : List Value}
    (hpre : l.row.toRowW.claim.pre args = true) (hwl : WellAll P h vals args) :
    ∃ a vs ns, vals = [Value.ref a] ∧ args = [WData.list (ns.map WData.int)] ∧ h.get? a = some { cls := .type "list", data := .seq vs.toArray } ∧ IntsAre vs ns ∧ ns.length ≤ n := by
  have hsh : WShape.hasAll [] args [.list .int] = true := (pre_splitW hpre).1
  have hc : l.pre.holds [] { args := args } = true := (pre_splitW hpre).2
  obtain ⟨d, r, rfl, h1, h2⟩ := hasAllW_cons hsh
  obtain rfl := hasAllW_nil h2
  obtain ⟨xs, rfl, h3⟩ := hasW_list h1
  obtain ⟨ns, rfl⟩ := items_int h3
  have hlen : ns.length ≤ n := by
    unfold OpenLaw.pre at hc
    have h4 : (WTm.not (.lt (.lit (.int (n : Int))) (.len (.arg 0)))).holds [] { args := [.list (ns.map .int)] } = true := by
      have h4 := (holds_andW hc).1
      rw [hn] at h4
      exact h4
    have h5 := condW_of h4 (w_not (w_lt w_lit (w_len_list (w_arg rfl))))
    rw [List.length_map] at h5
    refine Nat.le_of_not_lt fun q => ?_
    have q' : (n : Int) < ((ns.length : Nat) : Int) := by omega
    first
      | (rw [decide_eq_true q'] at h5; exact absurd h5 (by decide))
      | (simp at h5; omega)
  cases hwl with
  | cons w1 w2 =>
    cases w2
    cases w1 with
    | list ho hall => exact ⟨_, _, ns, rfl, rfl, ho, ints_of_wellAll ns _ hall, hlen⟩
theorem post_true (l : OpenLaw) (args : List WData) : l.row.toRowW.claim.post args (.bool true) args = true :=
  postW_of (r := l.row.toRowW) (X := (true == true))
    (show WShape.has [] (.bool true) .bool = true by first | rfl | decide | simp [WShape.has, WShape.arms, WShape.armsAll])
    (show (WTm.eq .res (.lit (.bool true))).value [] { args := args, res := some (.bool true), after := args } = some (.bool (true == true)) from w_eq_bool (w_res rfl) w_lit) rfl
theorem attach_call {l : OpenLaw} {n : Nat} {q : Program} {loose : List Str} {XP : (Str → Option Value) → Heap → Prop} {YP : World → Heap → Prop} {d : DefRec}
    (hn : l.most = some n) (hdf : d.params.defaults = [])
    (call : ∀ (w : World) (s₀ s₁ : Shared) (mg mb : Str → Option Value) (fa : Addr) (o : Obj) (pm cd doc : Value) (a : Addr) (vs : List Value) (ns : List Int),
      Ground q loose [] XP w s₀ mg mb s₁.heap → YP w s₁.heap →
      s₁.heap.get? fa = some o → o.data = .func (docDef d.name d.params d.body d.scope pm cd doc) → s₁.heap.CodeRec cd d.name → mg d.name = some (.ref fa) →
      s₁.heap.get? a = some { cls := .type "list", data := .seq vs.toArray } → IntsAre vs ns → ns.length ≤ n → s₁.gens = #[] →
      codeAny (model l.prog w) callerA (.call (.ref fa) ⟨[.ref a], []⟩) (fun r s' => r = .ok (.ret (.bool true)) ∧ OldK s₁.heap s'.heap ∧ s'.os = s₁.os ∧ AllBare s'.gens) s₁) :
    WalkO q loose XP YP l.row.toRowW d [] (fun f vs => PySem.call f vs) := by
  intro w s₀ s₁ mg mb G Y fa o pm cd doc dV kV ho hd hcd hD hmg hg args vals as hpre hlay hrd hwl hlo
  obtain rfl : dV = .none := Dflts.none hD hdf
  obtain rfl : kV = .none := Dflts.noKw hD
  obtain ⟨a, vs, ns, rfl, rfl, hobj, hints, hlen⟩ := script_of hn hpre hwl
  refine enter_call (codeAny_mono (call w s₀ s₁ mg mb fa o pm cd doc a vs ns G Y ho (fd_plain hd) hcd hmg hobj hints hlen hg) fun r s' hq => ?_)
  obtain ⟨rfl, h2, h3, h4⟩ := hq
  exact ⟨.inl ⟨.bool true, .bool true, [], rfl, fun _ => rfl, .bool true, post_true l _, fun _ => ⟨List.Pairwise.nil, fun _ hm => (nomatch hm)⟩⟩, h2, h3, h4⟩
section
variable {prog : Program} {w : World} {A : Around} {E : Value → Shared → Prop} {s : Shared} {K : Frag}
end
end Att
namespace L2
open PySem PySem.Spec PyProof.Rows
theorem vals_ints : ∀ {vs : List Value} {ns : List Int}, IntsAre vs ns → Vals (ns.map V.int) vs
  | _, _, .nil => .nil
  | _, _, .cons n t h => .cons ⟨t, rfl⟩ (vals_ints h)
end L2
namespace L2
open PySem PySem.Spec PyProof.Rows
end L2
/- THE LAST THEOREM (shape; LID, My.* are yours):
   My.Adr: a structure of the addresses that your layer names (classes, functions); My.Txt K t: a structure (Prop) of the equations over K;
   My.txt_mk : {K} {implicit addresses ..} (e1 : nsIn K mainGlobals "law" = some (some (.ref f))) (e2 : K.lookup f = some ⟨oc, od, .func (fnOf "law" "law" params body scope dV kV doc pm an cdv ct), sl⟩) (e3 : codeIn K cdv "law" = true) .. : ∃ t, My.Txt K t
set_option maxRecDepth 100000 in
set_option maxHeartbeats 0 in
theorem PySem.Challenge.cw_LID_holds : PySem.Challenge.rw_LID.Holds := by
  w_on; o_law; k_head; (case hw => w_witness2)
  k_fill
  refine L2.walk_of (l := PySem.Challenge.rw_LID) (n := 63) (k := 40) (x := "script") (CX := fun w => ..) (sp := fun _ => My.sp_law) rfl (by decide) rfl ⟨rfl, by decide, by decide⟩ (fun w h Y => PySem.W.kIn_of Y) ?F ?S ?C
  case F =>
    intro w mg fa h KX G hmg
    have T : ∃ t, My.Txt (L2.KOf KX) t := by
      dsimp only [L2.KOf]                          -- K must stand as «<heap const> w.params» for k_is
      refine' My.txt_mk ?e1 ?e2 ?e3 ..
      (case e1 => PySem.W.k_is)                    -- in the order: a name -> its address -> its object -> its parts
      (case e2 => PySem.W.k_is)
      ..
    obtain ⟨t, T⟩ := T
    have e0 := hmg.symm.trans (PySem.W.mg_of KX G T.law)
    cases e0                                       -- fa is the law's own address
    exact ⟨_, fun s u => .of_eq rfl, fun base kb nb => My.law_fn T kb nb⟩     -- if «.of_eq rfl» comes too early: refine' ⟨_, ?b, fun base kb nb => My.law_fn T kb nb⟩; exact fun s u => .of_eq rfl
  case S => exact fun w H a ns hl hO hS => ..
  case C => exact ..
(the tactic k_is has no namespace: write k_is) -/
namespace L2
open PySem PySem.Spec PyProof.Rows
def inClass (s : Stmt) (j : Nat) : Stmt := match s with
  | .ClassDef _ _ _ body _ _ _ _ _ _ _ => body.getD j (.Pass ⟨0, 0, 0, 0⟩)
  | _ => .Pass ⟨0, 0, 0, 0⟩
def defArgs (s : Stmt) : Arguments := match s with
  | .FunctionDef _ a _ _ _ _ _ _ _ _ => a
  | _ => { posonlyargs := [], args := [], vararg := none, kwonlyargs := [], kw_defaults := [], kwarg := none, defaults := [] }
def defBody (s : Stmt) : List Stmt := match s with
  | .FunctionDef _ _ b _ _ _ _ _ _ _ => b
  | _ => []
def defScope (s : Stmt) : Scope := match s with
  | .FunctionDef _ _ _ _ _ _ sc _ _ _ => sc
  | _ => { kind := .function, names := [], isGenerator := false, isCoroutine := false }
abbrev CX0 : CXT := fun _ _ _ _ _ _ => False
abbrev E0 : XK := fun _ _ _ => False
theorem pass0 {X : Cx} : Passes CX0 X E0 := fun _ _ _ _ _ _ _ h => h.elim
structure Fun (K : PySem.W.Frag) (x qual : Str) (st : Stmt) (f : Addr) (fd : FuncData) : Prop where
  ex : ∃ (oc : Value) (od : Option Addr) (kV doc pm : Value) (an : Option Addr) (cdv ct : Value) (osl : Array (Option Value)),
    fd = PySem.W.fnOf x qual (defArgs st) (defBody st) (defScope st) .none kV doc pm an cdv ct ∧ K.lookup f = some ⟨oc, od, .func fd, osl⟩ ∧ PySem.W.codeIn K cdv qual = true
  kp : PySem.W.keepIn K (.ref f) = true
section
variable {P : Program} {w : World} {K : PySem.W.Frag} {mg : Str → Option Value} {base : Heap}
theorem Fun.ok {x qual : Str} {st : Stmt} {f : Addr} {fd : FuncData} {N ps : List Str} {k : Nat} {sp : Sp} (F : Fun K x qual st f fd) (S : FnScope N ps (defScope st)) (len : ∀ vs H Q E, sp vs H Q E → vs.length = ps.length)
    (hbody : ∀ (cdv : Value) (A : Around) (outer : List Env) (s : Shared) (H : Hp) (vs : List V) (Q : VK) (E : XK), Room k (A.deeper (envOfC qual (defScope st) s.heap.objs.size f cdv)) → sp vs H Q E →
      ∃ t, PSs (cxOf CX0 P w K mg base N qual (defScope st) f cdv A outer s H E).nox (defBody st) t ∧ t { nx := fun _ H' => Q .non H', rt := Q } (start N vs) H) : FnOk P w K mg base CX0 (k + 1) f fd ps sp := by
  obtain ⟨oc, od, kV, doc, pm, an, cdv, ct, osl, rfl, lk, hcd⟩ := F.ex
  refine fn_of lk hcd S len fun A outer s H vs Q E hr hsp => ?_
  obtain ⟨t, h, q⟩ := hbody cdv A outer s H vs Q E hr hsp
  exact ⟨t, h.nox, q⟩
theorem Fun.binds {x qual : Str} {st : Stmt} {f : Addr} {fd : FuncData} {ps : List Str} (F : Fun K x qual st f fd)
    (h : ∀ (kV doc pm : Value) (an : Option Addr) (cdv ct : Value) (us : List Value), us.length = ps.length → bindArgs (PySem.W.fnOf x qual (defArgs st) (defBody st) (defScope st) .none kV doc pm an cdv ct) ⟨us, []⟩ = pure (ps.zip us)) : Binds K fd ps [] := by
  obtain ⟨oc, od, kV, doc, pm, an, cdv, ct, osl, rfl, lk, hcd⟩ := F.ex
  exact .all (h kV doc pm an cdv ct)
theorem fun_mk {x qual : Str} {st : Stmt} {f : Addr} {oc : Value} {od an : Option Addr} {osl : Array (Option Value)} {kV doc pm cdv ct : Value} (l : K.lookup f = some ⟨oc, od, .func (PySem.W.fnOf x qual (defArgs st) (defBody st) (defScope st) .none kV doc pm an cdv ct), osl⟩)
    (c : PySem.W.codeIn K cdv qual = true) (k : PySem.W.keepIn K (.ref f) = true) : Fun K x qual st f (PySem.W.fnOf x qual (defArgs st) (defBody st) (defScope st) .none kV doc pm an cdv ct) := ⟨⟨oc, od, kV, doc, pm, an, cdv, ct, osl, rfl, l, c⟩, k⟩
end
theorem hu_of {A : Around} {k : Nat} (hr : Room k A) : A.units + 1 < cLine := Nat.lt_of_le_of_lt (Nat.add_le_add_left (by decide : 1 ≤ 64) _) hr.units
section
variable {X : Cx}
theorem pv (i : Nat) {x : Str} {pos : Pos} (hN : X.N[i]? = some x := by rfl) (hv : Vis X.env.scope x := by first | exact Or.inl rfl | exact Or.inr (Or.inl rfl) | exact Or.inr (Or.inr rfl)) (hd : (x == ("__debug__" : Str)) = false := by decide)
    (hcd : (x == ("__classdict__" : Str)) = false := by decide) : PE X (.Name x pos) (tVar i) := pe_var hN hv hd hcd
end
theorem iteF {A B : Prop} (h : B) : if false = true then A else B := by
  rw [if_neg Bool.false_ne_true]
  exact h
theorem iteT {A B : Prop} (h : A) : if true = true then A else B := by
  rw [if_pos rfl]
  exact h
theorem ite2 {c A B : Prop} [Decidable c] (h1 : c → A) (h2 : ¬ c → B) : if c then A else B := by
  by_cases h : c
  · rw [if_pos h]
    exact h1 h
  · rw [if_neg h]
    exact h2 h
def Same (H H' : Hp) : Prop := ∀ b o, H b = some o → H' b = some o
theorem Same.refl (H : Hp) : Same H H := fun _ _ h => h
theorem Same.trans {H H1 H2 : Hp} (a : Same H H1) (b : Same H1 H2) : Same H H2 := fun c o h => b c o (a c o h)
theorem Same.free {H H' : Hp} (e : Same H H') {l : Addr} (h : H' l = Option.none) : H l = Option.none := by
  cases q : H l with
  | none => rfl
  | some o =>
    rw [e l o q] at h
    cases h
theorem Same.seq {K : PySem.W.Frag} {H H' : Hp} {a : Addr} {xs : List V} (e : Same H H') (h : SqL K H a xs) : SqL K H' a xs := by
  rcases h with (h | ⟨o, h⟩) | h
  · exact .inl (.inl (e _ _ h))
  · exact .inl (.inr ⟨o, e _ _ h⟩)
  · exact .inr h
end L2
set_option maxHeartbeats 4000000
namespace L2
open PySem PySem.Spec PyProof.Rows
section
variable {κ : Type} [DecidableEq κ]
def valV (kvs : List (κ × V)) (k : κ) : Option V := (kvs.find? fun kv => decide (kv.1 = k)).map (·.2)
def putK (kvs : List (κ × V)) (k : κ) (v : V) : List (κ × V) :=
  if (kvs.any fun kv => decide (kv.1 = k)) = true then kvs.map (fun kv => if kv.1 = k then (kv.1, v) else kv) else kvs ++ [(k, v)]
theorem valV_nil {k : κ} : valV ([] : List (κ × V)) k = none := rfl
theorem valV_pos {p : κ × V} {r : List (κ × V)} {k : κ} (e : p.1 = k) : valV (p :: r) k = some p.2 := by simp [valV, List.find?_cons, e]
theorem valV_neg {p : κ × V} {r : List (κ × V)} {k : κ} (e : ¬ p.1 = k) : valV (p :: r) k = valV r k := by simp [valV, List.find?_cons, e]
theorem valV_any (k : κ) : ∀ kvs : List (κ × V), (kvs.any fun kv => decide (kv.1 = k)) = (valV kvs k).isSome
  | [] => rfl
  | p :: r => by
    rw [List.any_cons]
    by_cases e : p.1 = k
    · simp only [valV_pos e, decide_eq_true e, Bool.true_or, Option.isSome_some]
    · rw [valV_neg e, decide_eq_false e, Bool.false_or]; exact valV_any k r
theorem valV_map (k j : κ) (y : V) : ∀ kvs : List (κ × V), valV (kvs.map fun kv => if kv.1 = k then (kv.1, y) else kv) j = (valV kvs j).map fun x => if j = k then y else x
  | [] => rfl
  | p :: r => by
    have ih := valV_map k j y r
    rw [List.map_cons]
    by_cases h : p.1 = k
    · rw [if_pos h]
      by_cases e : p.1 = j
      · rw [valV_pos (p := (p.1, y)) e, valV_pos e, Option.map_some, if_pos (e.symm.trans h)]
      · rw [valV_neg (p := (p.1, y)) e, valV_neg e, ih]
    · rw [if_neg h]
      by_cases e : p.1 = j
      · rw [valV_pos (p := p) e, valV_pos e, Option.map_some, if_neg (fun z => h (e.trans z))]
      · rw [valV_neg (p := p) e, valV_neg e, ih]
theorem valV_snoc (k j : κ) (y : V) : ∀ kvs : List (κ × V), valV kvs k = none → valV (kvs ++ [(k, y)]) j = if j = k then some y else valV kvs j
  | [], _ => by
    by_cases e : k = j
    · rw [if_pos e.symm]; exact valV_pos (p := (k, y)) e
    · rw [if_neg (fun z => e z.symm)]; exact valV_neg (p := (k, y)) e
  | p :: r, hn => by
    rw [List.cons_append]
    have hk : ¬ p.1 = k := fun z => by rw [valV_pos z] at hn; cases hn
    rw [valV_neg hk] at hn
    have ih := valV_snoc k j y r hn
    by_cases e : p.1 = j
    · rw [valV_pos e, valV_pos e, if_neg (fun z => hk (e.trans z))]
    · rw [valV_neg e, valV_neg e, ih]
theorem valV_put (kvs : List (κ × V)) (k j : κ) (y : V) : valV (putK kvs k y) j = if j = k then some y else valV kvs j := by
  unfold putK
  by_cases a : (kvs.any fun kv => decide (kv.1 = k)) = true
  · rw [if_pos a, valV_map]
    rw [valV_any] at a
    by_cases e : j = k
    · obtain ⟨x, hx⟩ := Option.isSome_iff_exists.mp a
      rw [if_pos e, e, hx, Option.map_some, if_pos rfl]
    · rw [if_neg e]
      cases valV kvs j with
      | none => rfl
      | some x => rw [Option.map_some, if_neg e]
  · rw [if_neg a]
    refine valV_snoc k j y kvs ?_
    rw [valV_any] at a
    cases q : valV kvs k with
    | none => rfl
    | some x => rw [q] at a; exact (a rfl).elim
theorem length_putK (kvs : List (κ × V)) (k : κ) (v : V) : (putK kvs k v).length ≤ kvs.length + 1 := by
  unfold putK
  split
  · rw [List.length_map]; omega
  · rw [List.length_append, List.length_cons, List.length_nil]; omega
theorem RelO.isSome_eq {o : Option V} {u : Option Value} (r : RelO o u) : o.isSome = u.isSome := by
  cases o with
  | none => cases u with
    | none => rfl
    | some _ => exact (show False from r).elim
  | some _ => cases u with
    | none => exact (show False from r).elim
    | some _ => rfl
theorem KV.val {kvs : List (κ × V)} {vs : List (κ × Value)} (r : KV kvs vs) (k : κ) : RelO (valV kvs k) (valueAt vs k) := by
  unfold KV at r
  induction r with
  | nil => exact True.intro
  | @cons p q ps qs h t ih =>
    obtain ⟨h1, h2⟩ := h
    by_cases e : p.1 = k
    · have e' : q.1 = k := h1.symm.trans e
      have b : valueAt (q :: qs) k = some q.2 := by simp [valueAt, List.find?_cons, e']
      rw [valV_pos e, b]; exact h2
    · have e' : ¬ q.1 = k := fun z => e (h1.trans z)
      have b : valueAt (q :: qs) k = valueAt qs k := by simp [valueAt, List.find?_cons, e']
      rw [valV_neg e, b]; exact ih
theorem KV.any {kvs : List (κ × V)} {vs : List (κ × Value)} (r : KV kvs vs) (k : κ) : (kvs.any fun kv => decide (kv.1 = k)) = vs.any fun kv => decide (kv.1 = k) := by
  unfold KV at r
  induction r with
  | nil => rfl
  | cons h t ih => rw [List.any_cons, List.any_cons, ih, h.1]
theorem KV.repl {kvs : List (κ × V)} {vs : List (κ × Value)} (r : KV kvs vs) (k : κ) {y : V} {u : Value} (ry : RelV y u) :
    KV (kvs.map fun kv => if kv.1 = k then (kv.1, y) else kv) (vs.map fun kv => if kv.1 = k then (kv.1, u) else kv) := by
  unfold KV at r ⊢
  induction r with
  | nil => exact .nil
  | @cons p q ps qs h t ih =>
    rw [List.map_cons, List.map_cons]
    refine .cons ?_ ih
    obtain ⟨h1, h2⟩ := h
    by_cases e : p.1 = k
    · rw [if_pos e, if_pos (h1.symm.trans e)]; exact ⟨h1, ry⟩
    · rw [if_neg e, if_neg (fun z => e (h1.trans z))]; exact ⟨h1, h2⟩
theorem KV.put {kvs : List (κ × V)} {vs : List (κ × Value)} (r : KV kvs vs) (k : κ) {y : V} {u : Value} (ry : RelV y u) : KV (putK kvs k y) (stored vs k u) := by
  unfold putK stored
  rw [r.any k]
  by_cases e : (vs.any fun kv => decide (kv.1 = k)) = true
  · rw [if_pos e, if_pos e]; exact r.repl k ry
  · rw [if_neg e, if_neg e]; exact Paired.snoc r ⟨rfl, ry⟩
theorem KV.length {kvs : List (κ × V)} {vs : List (κ × Value)} (r : KV kvs vs) : kvs.length = vs.length := Paired.length r
end
theorem kV_is {P : Program} {w : World} {k : Key} {u : Value} (r : RelV (kV k) u) : (mixKind P w).is k u = true := by
  cases k with
  | inl i => obtain ⟨t, e⟩ := (show ∃ t, u = Value.int i t from r); subst e; exact mixKind_int P w i t
  | inr x => obtain ⟨t, e⟩ := (show ∃ t, u = Value.str x t from r); subst e; exact mixKind_str P w x t
theorem items_are {P : Program} {w : World} : ∀ {ks : List Key} {us : List Value}, Vals (ks.map kV) us → ItemsAre (mixKind P w) ks us
  | [], _, r => by rw [List.map_nil] at r; cases r; exact .nil
  | k :: ks, _, r => by
    rw [List.map_cons] at r
    cases r with
    | cons h t => exact .cons (kV_is h) (items_are t)
abbrev KT (H : Hp) : List (List Key × V) → List (List Key × Addr × Value) → Prop := Paired fun p q => p.1 = q.1 ∧ H q.2.1 = some (.tup (p.1.map kV)) ∧ RelV p.2 q.2.2
theorem KT.val {H : Hp} {kvs : List (List Key × V)} {xs : List (List Key × Addr × Value)} (r : KT H kvs xs) (k : List Key) : RelO (valV kvs k) ((atKey xs k).map (·.2)) := by
  induction r with
  | nil => exact True.intro
  | @cons p q ps qs h t ih =>
    obtain ⟨h1, _, h2⟩ := h
    by_cases e : p.1 = k
    · have e' : q.1 = k := h1.symm.trans e
      have b : atKey (q :: qs) k = some q.2 := by simp [atKey, List.find?_cons, e']
      rw [valV_pos e, b]; exact h2
    · have e' : ¬ q.1 = k := fun z => e (h1.trans z)
      have b : atKey (q :: qs) k = atKey qs k := by simp [atKey, List.find?_cons, e']
      rw [valV_neg e, b]; exact ih
section
variable {P : Program} {w : World} {H : Hp} {h : Heap} {a : Addr}
theorem rd_of {u : HO} (ok : HOk P w H h) (e : Rd H a u) : ObjOk P w H h a u := e.ok ok
theorem dk_rd {kvs : List (Key × V)} (ok : HOk P w H h) (e : Rd H a (.dK kvs)) : kvs.length ≤ sizeLine ∧ (a == sysModules) = false ∧ ∃ vs, KV kvs vs ∧ h.DictOf (mixKind P w) a vs :=
  show ObjOk P w H h a (.dK kvs) from rd_of ok e
theorem dk_of {kvs : List (Key × V)} (ok : HOk P w H h) (e : H a = some (.dK kvs)) : kvs.length ≤ sizeLine ∧ (a == sysModules) = false ∧ ∃ vs, KV kvs vs ∧ h.DictOf (mixKind P w) a vs := dk_rd ok (.inl e)
theorem key_of {ks : List Key} (ok : HOk P w H h) (e : H a = some (.tup (ks.map kV))) : (tupleKind (mixKind P w)).is h ks a := by
  obtain ⟨_, its, r, o, h1, h2, n, h3⟩ := (show ObjOk P w H h a (.tup (ks.map kV)) from ok a _ e)
  exact ⟨o, its.toArray, n, h1, h2, h3, by simpa using items_are r⟩
theorem dt_rd {kvs : List (List Key × V)} (ok : HOk P w H h) (e : Rd H a (.dT kvs)) : kvs.length ≤ sizeLine ∧ (a == sysModules) = false ∧
    ∃ xs, KT H kvs xs ∧ h.DictOfH (tupleKind (mixKind P w)) a xs := by
  obtain ⟨z, y, xs, r, o, es, ep, h1, h2, h3, h4, h5⟩ := (show ObjOk P w H h a (.dT kvs) from rd_of ok e)
  refine ⟨z, y, xs, r, o, es, ep, h1, h2, h3, h4, fun x hx => ?_, h5⟩
  have all : ∀ {l : List (List Key × V)} {m : List (List Key × Addr × Value)}, KT H l m → ∀ x ∈ m, (tupleKind (mixKind P w)).is h x.1 x.2.1 := by
    intro l m q
    induction q with
    | nil => intro x hx; exact nomatch hx
    | @cons p q ps qs hq t ih =>
      intro x hx
      rcases List.mem_cons.mp hx with e | hx
      · subst e
        exact key_of ok (by rw [← hq.1]; exact hq.2.1)
      · exact ih x hx
  exact all r x hx
end
def DGet (H : Hp) (a : Addr) (y : V) (r : Option V) : Prop :=
  (∃ kvs k, Rd H a (.dK kvs) ∧ y = kV k ∧ r = valV kvs k) ∨ ∃ kvs k b, Rd H a (.dT kvs) ∧ y = .ref b ∧ H b = some (.tup (k.map kV)) ∧ r = valV kvs k
theorem DGet.k {H : Hp} {a : Addr} {kvs : List (Key × V)} {k : Key} (e : H a = some (.dK kvs)) : DGet H a (kV k) (valV kvs k) := .inl ⟨kvs, k, .inl e, rfl, rfl⟩
section
variable {X : Cx} {pins : List (Addr × Obj)} {σ : St} {H : Hp} {s : Shared} {a : Addr} {y v : V} {u r : Value} {o : Option V} {A : Around} {E : Value → Shared → Prop}
theorem Inv.big (I : Inv X pins σ H s) : sysModules < s.heap.objs.size := by
  have h : mainGlobals < s.heap.objs.size := (I.mod.glob.keeps I.bk).lt
  exact Nat.lt_trans (by decide) h
theorem d_getItem {Q : Value → Shared → Prop} (hu : A.units + 1 < cLine) (I : Inv X pins σ H s) (g : DGet H a y (some v)) (ry : RelV y u) (h : ∀ w' s', Inv X pins σ H s' → RelV v w' → Q w' s') :
    wpAny (model X.prog X.w) A (getItem (.ref a) u) Q E s := by
  rcases g with ⟨kvs, k, e, ey, l⟩ | ⟨kvs, k, b, e, ey, eb, l⟩
  · subst ey
    obtain ⟨z, hd, vs, rel, dd⟩ := dk_rd I.hok e
    obtain ⟨w', hw, rw'⟩ := RelO.some_of (v := v) (o := valueAt vs k) (by rw [l]; exact rel.val k)
    exact wpAny_getItem_of (kV_is ry) dd.mapOf hw (h w' _ (I.tok _) rw')
  · subst ey
    cases (show u = Value.ref b from ry)
    obtain ⟨z, hd, xs, rel, dd⟩ := dt_rd I.hok e
    obtain ⟨w', hw, rw'⟩ := RelO.some_of (v := v) (o := (atKey xs k).map (·.2)) (by rw [l]; exact rel.val k)
    obtain ⟨p, hp, hp2⟩ := Option.map_eq_some_iff.mp hw
    refine wpAny_getItem_heap (tupleKind_room_in1 hu) (key_of I.hok eb) dd hp ?_
    rw [hp2]
    exact h w' _ (I.tok _) rw'
theorem d_write {h' : Heap} {t' : Nat} {ob : HO} (I : Inv X pins σ H s) (mu : Mut (H a)) (hs : Heap.SameBut a s.heap h') (he : ∃ q, h'.get? a = some q) (new : ObjOk X.prog X.w (upd H a ob) h' a ob) :
    Inv X pins σ (upd H a ob) { s with heap := h', toks := t' } :=
  I.write (x := a) (e := a) mu (.inl rfl) (fun b q hb z => (hs.2 b hb).trans z) he new
theorem dk_new {P : Program} {w : World} {H' : Hp} {h' : Heap} {kvs : List (Key × V)} {vs : List (Key × Value)} (z : kvs.length ≤ sizeLine) (hd : (a == sysModules) = false) (rel : KV kvs vs) (dd : h'.DictOf (mixKind P w) a vs) :
    ObjOk P w H' h' a (.dK kvs) := ⟨z, hd, vs, rel, dd⟩
end
section
variable {X : Cx} {pins : List (Addr × Obj)} {σ : St} {H : Hp} {s : Shared} {a : Addr} {kvs : List (Key × V)} {k : Key} {u : Value} {A : Around} {E : Value → Shared → Prop}
end
def NoSl (i : Expr) : Prop := ∀ ov iv, subscripted i false ov iv = operate [ov, iv] (getItem ov iv)
theorem subD_of {prog : Program} {w : World} {A : Around} {E : Value → Shared → Prop} {s : Shared} {env : Env} {value slice : Expr} {pos : Pos} {T id : String} {Q : Value → Shared → Prop}
    (hl : typeLookup (.type T) "__getitem__" = pure (some (.builtin id))) (hs : NoSl slice)
    (h : wpAny (model prog w) A (eval value env) (fun o s₁ => wpAny (model prog w) A (eval slice env) (fun i s₂ => s₂.TypeIs o T ∧ wpAny (model prog w) A (getItem o i) Q E s₂) E s₁) E s) :
    wpAny (model prog w) A (eval (.Subscript value slice pos) env) Q E s := by
  refine Subscript_ (wpAny_mono h (fun o s₁ h₁ => wpAny_mono h₁ (fun i s₂ h₂ => ?_) fun _ _ x => x) fun _ _ x => x)
  obtain ⟨hT, h₂⟩ := h₂
  unfold subscriptTail
  refine wpAny_bind ?_
  rw [getitemInPython_of_ne hT.not_modules]
  refine wpAny_bind (wpAny_specialOf hT hl ?_)
  have fin : wpAny (model prog w) A (subscripted slice false o i) (fun r s₃ => wpAny (model prog w) A (letTemporaryGo value o r >>= fun _ => pure r) Q E s₃) E s₂ := by
    rw [hs o i]
    exact wpAny_operating (wpAny_mono h₂ (fun r s₃ h₃ => wpAny_bind (wpAny_letTemporaryGo (wpAny_pure h₃))) fun _ _ x => x)
  first
    | exact wpAny_pure (wpAny_bind fin)
    | exact wpAny_bind (wpAny_pure (wpAny_bind fin))
    | exact wpAny_bind fin
theorem dict_typeIs {X : Cx} {pins : List (Addr × Obj)} {σ : St} {H : Hp} {s : Shared} {a : Addr} {y : V} {o : Option V} (I : Inv X pins σ H s) (g : DGet H a y o) : s.TypeIs (.ref a) "dict" := by
  rcases g with ⟨kvs, k, e, _, _⟩ | ⟨kvs, k, b, e, _, _, _⟩
  · obtain ⟨_, _, vs, _, dd⟩ := dk_rd I.hok e
    exact dd.typeIs
  · obtain ⟨_, _, xs, _, dd⟩ := dt_rd I.hok e
    exact dd.typeIs
def tDGet (td ty : TE) : TE := fun σ H Q => td σ H fun x H1 => ty σ H1 fun y H2 => ∃ a v, x = .ref a ∧ DGet H2 a y (some v) ∧ Q v H2
section
variable {X : Cx} {o i e value : Expr} {pos pos' tpos : Pos} {td ty tv : TE}
theorem pe_dget (hu : X.A.units + 1 < cLine) (ho : PE X o td) (hi : PE X i ty) (hs : NoSl i) : PE X (.Subscript o i pos) (tDGet td ty) := by
  intro pins s σ H Q I h
  refine subD_of PySem.F.slot_dict_getitem.lookup hs (thn (ho pins s σ H _ I h) fun u s1 ⟨x, H1, I1, rx, q1⟩ => thn (hi pins s1 σ H1 _ I1 q1) fun iv s2 ⟨y, H2, I2, ry, a, v, ex, g, q2⟩ => ?_)
  subst ex
  obtain rfl : u = Value.ref a := rx
  exact ⟨dict_typeIs I2 g, d_getItem hu I2 g ry fun w' s3 I3 rw' => ⟨v, H2, I3, rw', q2⟩⟩
end
theorem dk_empty {P : Program} {w : World} {H : Hp} (h : Heap) (hb : sysModules < h.objs.size) : ObjOk P w H (h.push { cls := .type "dict", data := .dict #[] }) h.objs.size (.dK []) :=
  ⟨Nat.zero_le _, beq_eq_false_iff_ne.mpr (Ne.symm (Nat.ne_of_lt hb)), [], .nil, Heap.DictOf.new h⟩
section
variable {X : Cx} {pos : Pos}
end
def tPairs : List (TE × TE) → St → Hp → (List (V × V) → Hp → Prop) → Prop
  | [], _, H, Q => Q [] H
  | (tk, tv) :: r, σ, H, Q => tk σ H fun x H1 => tv σ H1 fun y H2 => tPairs r σ H2 fun ps H3 => Q ((x, y) :: ps) H3
abbrev VV : List (V × V) → List (Value × Value) → Prop := Paired fun p q => RelV p.1 q.1 ∧ RelV p.2 q.2
def PPs (X : Cx) (pos : Pos) (keys : List (Option Expr)) (values : List Expr) (trs : List (TE × TE)) : Prop :=
  ∀ (pins : List (Addr × Obj)) (s : Shared) (σ : St) (H : Hp) (Q : List (V × V) → Hp → Prop), Inv X pins σ H s → tPairs trs σ H Q →
    wpAny (model X.prog X.w) X.A (evalPairs (pairTrees keys values X.env pos)) (fun vs s' => ∃ ps H', Inv X pins σ H' s' ∧ VV ps vs ∧ Q ps H') X.xe s
theorem pps_nil {X : Cx} {pos : Pos} : PPs X pos [] [] [] := fun pins s σ H Q I h => pairTrees_nil_walk ⟨[], H, I, .nil, h⟩
theorem pps_cons {X : Cx} {pos : Pos} {k v : Expr} {ks : List (Option Expr)} {vs : List Expr} {tk tv : TE} {trs : List (TE × TE)} (hk : PE X k tk) (hv : PE X v tv) (hr : PPs X pos ks vs trs) :
    PPs X pos (some k :: ks) (v :: vs) ((tk, tv) :: trs) := fun pins s σ H Q I h =>
  pairTrees_cons_walk (thn (hk pins s σ H _ I h) fun u s1 ⟨x, H1, I1, rx, q1⟩ => thn (hv pins s1 σ H1 _ I1 q1) fun w2 s2 ⟨y, H2, I2, ry, q2⟩ =>
    thn (hr pins s2 σ H2 _ I2 q2) fun ws s3 ⟨ps, H3, I3, rel, q3⟩ => ⟨(x, y) :: ps, H3, I3, .cons ⟨rx, ry⟩ rel, q3⟩)
def mergeK (kvs more : List (Key × V)) : List (Key × V) := more.foldl (fun acc kv => putK acc kv.1 kv.2) kvs
theorem KV.merge : ∀ {more : List (Key × V)} {rs : List (Key × Value)} {kvs : List (Key × V)} {vs : List (Key × Value)}, KV more rs → KV kvs vs → KV (mergeK kvs more) (merged vs rs) := by
  intro more rs kvs vs r
  unfold KV at r
  induction r generalizing kvs vs with
  | nil => intro q; exact q
  | @cons p q ps qs h t ih =>
    intro r0
    have e : KV (putK kvs p.1 p.2) (stored vs q.1 q.2) := by
      have := r0.put p.1 h.2
      rw [← h.1]; exact this
    exact ih e
theorem length_mergeK : ∀ (more kvs : List (Key × V)), (mergeK kvs more).length ≤ kvs.length + more.length
  | [], kvs => by show kvs.length ≤ kvs.length + 0; omega
  | p :: r, kvs => by
    have h1 := length_mergeK r (putK kvs p.1 p.2)
    have h2 := length_putK kvs p.1 p.2
    show (mergeK (putK kvs p.1 p.2) r).length ≤ _
    rw [List.length_cons]; omega
theorem carries_of {P : Program} {w : World} : ∀ {kvs : List (Key × V)} {ws : List (Value × Value)}, VV (kvs.map fun kv => (kV kv.1, kv.2)) ws → ∃ rs, Carries (mixKind P w) ws rs ∧ KV kvs rs
  | [], _, r => by rw [List.map_nil] at r; cases r; exact ⟨[], True.intro, .nil⟩
  | p :: kvs, _, r => by
    rw [List.map_cons] at r
    cases r with
    | @cons a b as bs h t =>
      obtain ⟨rs, c, q⟩ := carries_of (P := P) (w := w) t
      obtain ⟨b1, b2⟩ := b
      exact ⟨(p.1, b2) :: rs, ⟨kV_is h.1, rfl, c⟩, .cons ⟨rfl, h.2⟩ q⟩
def tDisp (trs : List (TE × TE)) : TE := fun σ H Q => ∀ p, H p = none → tPairs trs σ (upd H p (.dK [])) fun ps H2 => H2 p = some (.dK []) ∧ ∃ kvs : List (Key × V), ps = kvs.map (fun kv => (kV kv.1, kv.2)) ∧ kvs.length ≤ 15 ∧ Q (.ref p) (upd H2 p (.dK (mergeK [] kvs)))
theorem pe_disp {X : Cx} {pos : Pos} {keys : List (Option Expr)} {values : List Expr} {trs : List (TE × TE)} (h : PPs X pos keys values trs) (hall : keys.all (·.isSome) = true) (hl : keys.length = values.length) (h0 : keys ≠ [])
    (h15 : keys.length ≤ 15) : PE X (.Dict keys values pos) (tDisp trs) := by
  intro pins s σ H Q I q
  have hn := I.hok.fresh (Nat.le_refl s.heap.objs.size)
  have I1 := I.laid (a := s.heap.objs.size) (o := .dK []) (h' := s.heap.push { cls := .type "dict", data := .dict #[] }) (t' := s.toks) (fun _ _ q => Heap.get?_push_of_some _ q) (Nat.le_refl _) (dk_empty s.heap I.big)
  refine wpAny_Dict_walk (knd := mixKind X.prog X.w) hall hl h0 h15 (thn (h pins _ σ _ _ I1 (q _ hn)) fun ws s2 ⟨ps, H2, I2, rel, e, kvs, ep, lk, q2⟩ => ?_)
  subst ep
  obtain ⟨rs, c, rk⟩ := carries_of (P := X.prog) (w := X.w) rel
  obtain ⟨z, hd, vs0, r0, dd⟩ := dk_of I2.hok e
  cases r0
  refine ⟨rs, c, dd, fun h' dd' hs => ⟨.ref s.heap.objs.size, _, ?_, rfl, q2⟩⟩
  have hz : (mergeK [] kvs).length ≤ sizeLine := by
    have h1 := length_mergeK kvs []
    rw [List.length_nil] at h1
    rw [sizeLine_eq]; omega
  have he : ∃ q, h'.get? s.heap.objs.size = some q := let ⟨q, _, _, hq, _⟩ := dd'; ⟨q, hq⟩
  exact d_write I2 (by rw [e]; exact True.intro) hs he (dk_new hz hd (rk.merge .nil) dd')
structure M1 (X : Cx) (o : Expr) (m : Str) (apos : Pos) (e : Expr) (cpos : Pos) : Prop where
  base : attributeBase o m X.env (eval o X.env) = eval o X.env
  few : ((backTo cpos (starEach [e] X.env)).all (fun x => !x.1) && (backToKw cpos (keywordEach [] X.env)).all (fun x => x.1.isSome)
    && decide (([e] : List Expr).length + ([] : List Keyword).length + (if ([] : List Keyword).isEmpty then 0 else 1) < 30)) = true
  line : (apos.endLine == cpos.line) = true
  trees : backTo cpos (starEach [e] X.env) = [(false, eval e X.env)]
def IsD (H : Hp) (a : Addr) : Prop := (∃ kvs, Rd H a (.dK kvs)) ∨ ∃ kvs, Rd H a (.dT kvs)
theorem isD_at {X : Cx} {pins : List (Addr × Obj)} {σ : St} {H : Hp} {s : Shared} {a : Addr} (I : Inv X pins σ H s) (d : IsD H a) :
    s.TypeIs (.ref a) "dict" ∧ (∀ b, Value.ref a = .ref b → ∃ ob, s.heap.get? b = some ob ∧ ob.dict = none) ∧ (a == sysModules) = false := by
  rcases d with ⟨kvs, e⟩ | ⟨kvs, e⟩
  · obtain ⟨_, hd, vs, _, dd⟩ := dk_rd I.hok e
    refine ⟨dd.typeIs, fun b q => ?_, hd⟩
    cases q
    obtain ⟨ob, _, _, h1, h2, _⟩ := dd
    exact ⟨ob, h1, h2.2.1⟩
  · obtain ⟨_, hd, xs, _, dd⟩ := dt_rd I.hok e
    refine ⟨dd.typeIs, fun b q => ?_, hd⟩
    cases q
    obtain ⟨ob, _, _, h1, h2, _⟩ := dd
    exact ⟨ob, h1, h2.2.1⟩
section
variable {X : Cx} {pins : List (Addr × Obj)} {σ : St} {H : Hp} {s : Shared} {a : Addr} {y d : V} {u r : Value} {o : Option V} {A : Around} {E : Value → Shared → Prop}
end
section
variable {X : Cx} {o e f : Expr} {apos cpos : Pos} {td ty tx : TE}
end
section
variable {X : Cx} {pins : List (Addr × Obj)} {σ : St} {H : Hp} {s : Shared} {a : Addr} {kvs : List (Key × V)} {A : Around} {E : Value → Shared → Prop}
end
section
variable {X : Cx} {pins : List (Addr × Obj)} {σ : St} {H : Hp} {s : Shared} {a : Addr} {y : V} {u : Value} {A : Around} {E : Value → Shared → Prop}
end
end L2
namespace L2
open PySem PySem.Spec PyProof.Rows
section
variable {X : Cx}
end
section
variable {κ : Type} [DecidableEq κ]
end
end L2
namespace PySem
open AutoSeq1 (wpAny_loadPart')
open Sem (wp)
section
variable {prog : Program} {w : World} {A : Around} {E : Value → Shared → Prop} {s : Shared}
end
section
variable {prog : Program} {w : World} {A : Around} {E : Value → Shared → Prop} {s : Shared}
end
end PySem
namespace PySem
open Sem (wp)
section
variable {prog : Program} {w : World} {K : Type} [DecidableEq K] (knd : KeyKind prog w K)
def IsPairKey (h : Heap) (x : K × List K) (a : Addr) : Prop := ∃ o v b n, h.get? a = some o ∧ o.cls = .type "tuple" ∧ o.data = .seq #[v, .ref b] n ∧ knd.is x.1 v = true ∧ IsTupleKey knd h x.2 b
def pairKeyHash (x : K × List K) : Int := reduceHash (Builtin.Tuple.tupleHashOf [knd.hash x.1, tupleKeyHash knd x.2])
variable {knd}
theorem IsPairKey.typeIs {s : Shared} {x : K × List K} {a : Addr} (h : IsPairKey knd s.heap x a) : s.TypeIs (.ref a) "tuple" := let ⟨o, _, _, _, ho, hc, _⟩ := h; ⟨o, ho, hc⟩
theorem IsPairKey.inj {h : Heap} {a : Addr} {x y : K × List K} (hx : IsPairKey knd h x a) (hy : IsPairKey knd h y a) : x = y := by
  obtain ⟨o, v, b, n, ho, _, hd, h1, h2⟩ := hx
  obtain ⟨o', v', b', n', ho', _, hd', h1', h2'⟩ := hy
  obtain rfl : o = o' := Option.some.inj (ho.symm.trans ho')
  rw [hd] at hd'
  injection hd' with e _
  have e1 : v = v' ∧ b = b' := by simpa using e
  obtain ⟨rfl, rfl⟩ := e1
  exact Prod.ext (knd.inj _ _ _ h1 h1') (h2.inj h2')
theorem IsPairKey.keeps {h h' : Heap} {x : K × List K} {a d : Addr} {o : Obj} {es ep} (hx : IsPairKey knd h x a) (ho : h.get? d = some o) (hd : o.data = .dict es ep) (hs : Heap.SameBut d h h') : IsPairKey knd h' x a := by
  obtain ⟨o', v, b, n, ho', hc, hd', h1, h2⟩ := hx
  have hne : a ≠ d := by
    rintro rfl
    obtain rfl : o' = o := Option.some.inj (ho'.symm.trans ho)
    rw [hd] at hd'; exact nomatch hd'
  exact ⟨o', v, b, n, (hs.2 a hne).trans ho', hc, hd', h1, h2.keeps ho hd hs⟩
variable {A : Around} {E : Value → Shared → Prop} {s : Shared}
theorem wpAny_pyHash_pair {x : K × List K} {a : Addr} {Q : Int → Shared → Prop} (hu : A.units + 1 < cLine) (hk : IsPairKey knd s.heap x a) (h : Q (pairKeyHash knd x) { s with toks := s.toks + (x.2.length + 3) }) :
    wpAny (model prog w) A (pyHash (.ref a)) Q E s := by
  have hT := hk.typeIs
  obtain ⟨o, v, b, n, ho, _, hd, h1, h2⟩ := hk
  unfold pyHash
  first | unfold pyHashByItsType | skip
  first | refine wpAny_bind (wpAny_cRoomFor_or (.inr (by omega)) ?_) | skip
  refine wpAny_bind (wpAny_specialOf hT F.slot_tuple_hash.lookup ?_)
  show wpAny _ _ (if (some (Value.builtin "tuple.__hash__") == some Value.none) = true then _ else _) Q E s
  rw [if_neg (by rw [beq_builtin_none]; exact Bool.false_ne_true)]
  refine wpAny_bind (wpAny_specialOf hT F.slot_tuple_hash.lookup ?_)
  show wpAny _ _ (callSpecialIfBoundUnlessNone? (.ref a) "__hash__" _ >>= _) Q E s
  refine wpAny_bind (wpAny_callSpecialIfBoundUnlessNone?_slot hT F.slot_tuple_hash (wpAny_call_entry F.slot_tuple_hash hT F.entry_tuple_hash ?_ (F.args_tuple_hash_1 _)))
  show wpAny _ _ (Builtin.Tuple.tupleItemsOf (.ref a) >>= _) _ _ s
  refine wpAny_bind (wpAny_tupleItemsOf ho hd ?_)
  refine wpAny_bind ?_
  rw [← Array.forIn_toList]
  refine wpAny_forIn_list _
    (fun rest (r : Array Int) s' => (rest = [v, .ref b] ∧ r = #[] ∧ s' = s) ∨ (rest = [.ref b] ∧ r = #[knd.hash x.1] ∧ s' = { s with toks := s.toks + 1 }) ∨ (rest = [] ∧ r = #[knd.hash x.1, tupleKeyHash knd x.2] ∧ s' = { s with toks := s.toks + 1 + (x.2.length + 1) }))
    _ ?_ ?_ _ _ (.inl ⟨rfl, rfl, rfl⟩)
  · rintro y rest r s' (⟨e, rfl, rfl⟩ | ⟨e, rfl, rfl⟩ | ⟨e, _, _⟩)
    · obtain ⟨rfl, rfl⟩ := List.cons.inj e
      refine wpAny_bind (knd.pyHash h1 ?_)
      exact wpAny_pure (.inr (.inl ⟨rfl, rfl, rfl⟩))
    · obtain ⟨rfl, rfl⟩ := List.cons.inj e
      refine wpAny_bind (wpAny_pyHash_tuple (show A.in1.units < cLine from hu) h2 ?_)
      exact wpAny_pure (.inr (.inr ⟨rfl, rfl, rfl⟩))
    · cases e
  · rintro r s' (⟨e, _, _⟩ | ⟨e, _, _⟩ | ⟨_, rfl, rfl⟩)
    · cases e
    · cases e
    · show wpAny _ _ (retInt (Builtin.Tuple.tupleHashOf [knd.hash x.1, tupleKeyHash knd x.2])) _ _ _
      refine wpAny_ret_mkInt ?_
      show wpAny _ _ (if (decide (-(2 : Int) ^ 63 ≤ Builtin.Tuple.tupleHashOf [knd.hash x.1, tupleKeyHash knd x.2]) && decide (Builtin.Tuple.tupleHashOf [knd.hash x.1, tupleKeyHash knd x.2] < 2 ^ 63)) = true then _ else _) Q E _
      have et : s.toks + 1 + (x.2.length + 1) + 1 = s.toks + (x.2.length + 3) := by omega
      unfold pairKeyHash reduceHash at h
      by_cases hr : (decide (-(2 : Int) ^ 63 ≤ Builtin.Tuple.tupleHashOf [knd.hash x.1, tupleKeyHash knd x.2]) && decide (Builtin.Tuple.tupleHashOf [knd.hash x.1, tupleKeyHash knd x.2] < 2 ^ 63)) = true
      · rw [if_pos hr]
        rw [if_pos hr, ← et] at h
        exact wpAny_pure h
      · rw [if_neg hr]
        rw [if_neg hr, ← et] at h
        exact wpAny_bind (wpAny_rule (wpAny_pure h))
theorem pair_eq_tree {x y : K × List K} {a b : Addr} {P : Fin → Shared → Prop} (hu : A.units < cLine) (hx : IsPairKey knd s.heap x a) (hy : IsPairKey knd s.heap y b) (h : P (.done (.ret (.bool (decide (x = y))))) s) :
    wpAny (model prog w) A (Builtin.«tuple.__eq__» ⟨[.ref a, .ref b], []⟩) P E s := by
  have hTb := hy.typeIs
  obtain ⟨oa, va, ba, na, hoa, _, hda, h1, h2⟩ := hx
  obtain ⟨ob, vb, bb, nb, hob, _, hdb, h1', h2'⟩ := hy
  show wpAny _ _ (isInstance (.ref b) (.type "tuple") >>= _) _ _ s
  refine wpAny_bind (wpAny_isInstance hTb isSubtype_tuple_tuple ?_)
  simp only [Bool.not_true, Bool.false_eq_true, if_false]
  refine wpAny_bind (wpAny_tupleItemsOf hoa hda ?_)
  refine wpAny_bind (wpAny_tupleItemsOf hob hdb ?_)
  refine wpAny_bind ?_
  refine wpAny_forIn_list _
    (fun rest r s' => r.1 = none ∧ s' = s ∧ ((rest = [(va, vb), (.ref ba, .ref bb)]) ∨ (rest = [(.ref ba, .ref bb)] ∧ x.1 = y.1) ∨ (rest = [] ∧ x = y)))
    _ ?_ ?_ _ _ ⟨rfl, rfl, .inl rfl⟩
  · rintro ⟨u, v⟩ rest r s' ⟨hr, rfl, (e | ⟨e, e1⟩ | ⟨e, _⟩)⟩
    · obtain ⟨e2, rfl⟩ := List.cons.inj e
      cases e2
      refine wpAny_bind (knd.eqBool (a := x.1) (b := y.1) h1 h1' ?_)
      by_cases hk : x.1 = y.1
      · rw [decide_eq_true hk]
        simp only [Bool.not_true, Bool.false_eq_true, if_false]
        exact wpAny_pure ⟨by first | rfl | trivial, by first | rfl | trivial, by first | exact .inr (.inl ⟨rfl, hk⟩) | simp [hk]⟩
      · rw [decide_eq_false hk]
        simp only [Bool.not_false, if_true]
        have hf : decide (x = y) = false := decide_eq_false fun z => hk (by rw [z])
        rw [hf] at h
        exact wpAny_bind (wpAny_pure (wpAny_pure (wpAny_pure h)))
    · obtain ⟨e2, rfl⟩ := List.cons.inj e
      cases e2
      refine wpAny_bind (wpAny_eqBool_tuple hu h2 h2' ?_)
      by_cases hk : x.2 = y.2
      · rw [decide_eq_true hk]
        simp only [Bool.not_true, Bool.false_eq_true, if_false]
        exact wpAny_pure ⟨by first | rfl | trivial, by first | rfl | trivial, by first | exact .inr (.inr ⟨rfl, Prod.ext e1 hk⟩) | simp [e1, hk, Prod.ext_iff]⟩
      · rw [decide_eq_false hk]
        simp only [Bool.not_false, if_true]
        have hf : decide (x = y) = false := decide_eq_false fun z => hk (by rw [z])
        rw [hf] at h
        exact wpAny_bind (wpAny_pure (wpAny_pure (wpAny_pure h)))
    · cases e
  · rintro ⟨r1, r2⟩ s' ⟨hr, rfl, (e | ⟨e, _⟩ | ⟨_, e⟩)⟩
    · cases e
    · cases e
    · simp only at hr
      subst hr
      refine wpAny_pure ?_
      rw [decide_eq_true e] at h
      exact h
theorem wpAny_eqBool_pair {x y : K × List K} {a b : Addr} {Q : Bool → Shared → Prop} (hu : A.units + 1 < cLine) (hx : IsPairKey knd s.heap x a) (hy : IsPairKey knd s.heap y b) (h : Q (decide (x = y)) s) :
    wpAny (model prog w) A (eqBool (.ref a) (.ref b)) Q E s := by
  unfold eqBool
  try with_reducible refine wpAny_holding ?_
  show wpAny _ _ (if (Value.ref a == Value.ref b) = true then _ else _) Q E s
  by_cases hab : (Value.ref a == Value.ref b) = true
  · rw [if_pos hab]
    have e : a = b := by have := eq_of_beq hab; injection this
    subst e
    obtain rfl := hx.inj hy
    exact wpAny_bind (wpAny_rule (wpAny_pure (by simpa using h)))
  · rw [if_neg hab]
    exact wpAny_bind (wpAny_richCompare_same_room (op := .Eq) hx.typeIs hy.typeIs F.slot_tuple_eq
      (wpAny_call_entry F.slot_tuple_eq hx.typeIs F.entry_tuple_eq (pair_eq_tree (by show A.units + 1 < cLine; exact hu) hx hy ⟨_, rfl, (fun e => nomatch e), wpAny_truthy_bool h⟩) (F.args_tuple_eq_2 _ _)) (by omega))
theorem wpAny_eqIsQuiet_tupleN {n : Nat} {ks : List K} {a : Addr} {Q : Bool → Shared → Prop} (hk : IsTupleKey knd s.heap ks a) (h : Q true s) : wpAny (model prog w) A (eqIsQuiet (n + 1) (.ref a)) Q E s := by
  have hT := hk.typeIs
  obtain ⟨o, items, m, ho, _, hd, hi⟩ := hk
  unfold eqIsQuiet
  refine wpAny_bind (wpAny_specialOf hT F.slot_tuple_eq.lookup ?_)
  show wpAny _ _ (isInstance (.ref a) (.type "tuple") >>= _) _ _ s
  refine wpAny_bind (wpAny_isInstance hT isSubtype_tuple_tuple ?_)
  simp only [Bool.not_true, Bool.false_eq_true, if_false]
  refine wpAny_bind (wpAny_seqItems ho hd ?_)
  refine wpAny_bind ?_
  show wpAny _ _ (forIn items _ _) _ _ s
  rw [← Array.forIn_toList]
  refine wpAny_forIn_list _ (fun rest r s' => r.1 = none ∧ s' = s ∧ ∀ v ∈ rest, carriedByValue v = true) _ ?_ ?_ _ _ ⟨rfl, rfl, hi.byValue⟩
  · rintro v rest r s' ⟨hr, rfl, hall⟩
    rw [eqIsQuiet_byValue _ (hall v List.mem_cons_self)]
    refine wpAny_bind (wpAny_pure ?_)
    simp only [Bool.not_true, Bool.false_eq_true, if_false]
    exact wpAny_pure ⟨rfl, rfl, fun u hu' => hall u (List.mem_cons_of_mem _ hu')⟩
  · rintro ⟨r1, r2⟩ s' ⟨hr, rfl, _⟩
    simp only at hr
    subst hr
    exact wpAny_pure h
theorem wpAny_eqIsQuiet_pair {x : K × List K} {a : Addr} {Q : Bool → Shared → Prop} (hk : IsPairKey knd s.heap x a) (h : Q true s) : wpAny (model prog w) A (eqIsQuiet 8 (.ref a)) Q E s := by
  have hT := hk.typeIs
  obtain ⟨o, v, b, m, ho, _, hd, h1, h2⟩ := hk
  unfold eqIsQuiet
  refine wpAny_bind (wpAny_specialOf hT F.slot_tuple_eq.lookup ?_)
  show wpAny _ _ (isInstance (.ref a) (.type "tuple") >>= _) _ _ s
  refine wpAny_bind (wpAny_isInstance hT isSubtype_tuple_tuple ?_)
  simp only [Bool.not_true, Bool.false_eq_true, if_false]
  refine wpAny_bind (wpAny_seqItems ho hd ?_)
  refine wpAny_bind ?_
  show wpAny _ _ (forIn _ _ _) _ _ s
  rw [← Array.forIn_toList]
  refine wpAny_forIn_list _ (fun rest r s' => r.1 = none ∧ s' = s ∧ ∀ u ∈ rest, u = v ∨ u = .ref b) _ ?_ ?_ _ _ ⟨rfl, rfl, fun u hu => by simpa using hu⟩
  · rintro u rest r s' ⟨hr, rfl, hall⟩
    rcases hall u List.mem_cons_self with rfl | rfl
    · rw [eqIsQuiet_byValue _ (knd.byValue _ _ h1)]
      refine wpAny_bind (wpAny_pure ?_)
      simp only [Bool.not_true, Bool.false_eq_true, if_false]
      exact wpAny_pure ⟨rfl, rfl, fun u hu' => hall u (List.mem_cons_of_mem _ hu')⟩
    · refine wpAny_bind (wpAny_eqIsQuiet_tupleN h2 ?_)
      simp only [Bool.not_true, Bool.false_eq_true, if_false]
      exact wpAny_pure ⟨rfl, rfl, fun u hu' => hall u (List.mem_cons_of_mem _ hu')⟩
  · rintro ⟨r1, r2⟩ s' ⟨hr, rfl, _⟩
    simp only at hr
    subst hr
    exact wpAny_pure h
end
def pairKind {prog : Program} {w : World} {K : Type} [DecidableEq K] (knd : KeyKind prog w K) : HeapKind prog w (K × List K) where
  is := IsPairKey knd
  hash := pairKeyHash knd
  draws := fun x => x.2.length + 3
  room := fun A => A.units + 1 < cLine
  inj := fun hx hy => hx.inj hy
  keeps := fun x ho hd hs => x.keeps ho hd hs
  pyHash := fun hu hk h => wpAny_pyHash_pair hu hk h
  eqBool := fun hu hx hy h => wpAny_eqBool_pair hu hx hy h
  quiet := fun hk h => wpAny_eqIsQuiet_pair hk h
end PySem
namespace PySem
open Sem (wp)
theorem getAttrQ_miss_list {prog : Program} {w : World} {A : Around} {E : Value → Shared → Prop} {s : Shared} {a : Addr} {o : Obj} {xs : Array Value} {k : Nat} {name : Str} {Q : Option Value → Shared → Prop}
    (hx : s.heap.get? a = some o) (hc : o.cls = .type "list") (hdat : o.data = .seq xs k) (hd : o.dict = none) (hmiss : typeLookup (.type "list") name = pure none) (hname : (["__module__", "__name__", "__qualname__", "__doc__", "__annotations__"] : List Str).contains name = false) (hA : A.handled = none)
    (h : ∀ h' tk e, Heap.NewExcOf s.heap h' e "AttributeError" → Q none { s with heap := h', toks := tk }) (hsz : name.length + 100 ≤ sizeLine := by size_fits) :
    wpAny (model prog w) A (getAttr? (.ref a) name) Q E s := by
  obtain ⟨c, dct, dat, sl⟩ := o
  simp only at hc hdat hd
  subst hc hdat hd
  obtain ⟨hp, g, d, tk, os⟩ := s
  have hT : ∀ tk', (⟨hp, g, d, tk', os⟩ : Shared).TypeIs (.ref a) "list" := fun _ => ⟨_, hx, rfl⟩
  have f1 := sub_AttributeError
  have f3 := F.slot_list_getattribute.lookup
  have f4 := F.slot_list_getattribute.bind (.ref a)
  have f5 := am_list_getattr_none
  unfold getAttr? getAttrBy? getAttrBy
  repeat (any_goals (first | assumption | exact hT _ | ((with_reducible show wpAny _ _ (call (Value.builtin "list.__getattribute__") _ _) _ _ _); refine call_meets F.slot_list_getattribute (hT _) am_entry_list_getattribute (F.args_list_getattribute_2 _ _) (meets_getattribute_miss_list a xs k sl name _ hmiss hname hsz) ⟨hx, hA, fun h' tk' e hx' => ?_⟩) | wp_step))
  obtain ⟨t', u', he⟩ := hx'.there
  show wpAny _ _ (getattributeRaised _ _ _ _ _ _ _) _ _ _
  unfold getattributeRaised
  repeat (any_goals (first | assumption | wp_step))
  exact h _ _ _ hx'.of
end PySem
namespace L2
open PySem PySem.Spec PyProof.Rows
section
variable {prog : Program} {w : World} {A : Around} {R : Result → Shared → Prop} {s : Shared}
theorem compLoop_any {elt target iter : Expr} {scope : Scope} {pos : Pos} {it acc : Value} {env : Env} (I : Nat → Shared → Prop)
    (turn : ∀ n s, I n s → wpAny (model prog w) A (pyNext it) (fun r s₁ => match r with
      | none => R (.ok .next) s₁
      | some v => wpAny (model prog w) A (letOwnedTupleGo target it v) (fun _ s₁' => wpAny (model prog w) A (assign target env v) (fun _ s₂ => wpAny (model prog w) A (eval elt env) (fun x s₃ =>
          wpAny (model prog w) A (call (.builtin "list.append") [acc, x]) (fun _ s₄ => ∃ m, m < n ∧ I m s₄) (fun _ _ => False) s₃) (fun _ _ => False) s₂) (fun _ _ => False) s₁') (fun _ _ => False) s₁) (fun _ _ => False) s)
    (n : Nat) (h : I n s) :
    codeAny (model prog w) A (.compLoop (.ListComp elt [⟨target, iter, [], 0⟩] scope pos) 0 it acc env) R s := by
  refine codeAny_loop rfl I (fun n s hI => ?_) n h
  show wpAny _ _ ((compTurn (.ListComp elt [⟨target, iter, [], 0⟩] scope pos) 0 it acc env).onRaise (fun x => do noteFrame x env; theTreesLotGoes x)) _ _ s
  refine wpAny_noted ?_
  rw [compTurn_list1]
  refine wpAny_bind (wpAny_standAt (wpAny_bind (wpAny_mono (turn n s hI) (fun r s₁ h₁ => ?_) fun _ _ h' => h'.elim)))
  cases r with
  | none => exact wpAny_pure h₁
  | some v =>
    refine wpAny_bind (wpAny_mono h₁ (fun _ s₁' h₁' => ?_) fun _ _ h' => h'.elim)
    exact wpAny_bind (wpAny_mono h₁' (fun _ s₂ h₂ => wpAny_bind (wpAny_bind (wpAny_mono h₂ (fun x s₃ h₃ => wpAny_bind (wpAny_mono h₃
      (fun _ s₄ h₄ => wpAny_pure (wpAny_pure ⟨rfl, h₄⟩)) fun _ _ h' => h'.elim)) fun _ _ h' => h'.elim))) fun _ _ h' => h'.elim)
end
theorem lookup_relabel_free {env : Env} (hk : env.scope.kind = .function) : ∀ {names : List (Str × NameKind)} {x : Str}, names.lookup x = some .free → env.kindOf x = some .cell →
    (names.map fun (n, k) => if (k == NameKind.free && env.scope.kind == .function && env.kindOf n == some .cell) then (n, NameKind.cell) else (n, k)).lookup x = some .cell
  | [], _, h, _ => by simp at h
  | (n, k) :: r, x, h, hc => by
    have ih := @lookup_relabel_free env hk r x
    show List.lookup x ((if (k == NameKind.free && env.scope.kind == .function && env.kindOf n == some .cell) = true then (n, NameKind.cell) else (n, k)) :: _) = _
    cases hx : x == n with
    | true =>
      have e : x = n := eq_of_beq hx
      subst e
      simp only [List.lookup_cons, hx] at h
      cases h
      rw [if_pos (by rw [hk, hc]; rfl)]
      simp [List.lookup_cons]
    | false =>
      simp only [List.lookup_cons, hx] at h
      by_cases hcc : (k == NameKind.free && env.scope.kind == .function && env.kindOf n == some .cell) = true
      · rw [if_pos hcc]; simp only [List.lookup_cons, hx]; exact ih h hc
      · rw [if_neg hcc]; simp only [List.lookup_cons, hx]; exact ih h hc
theorem lookup_relabel_inv {env : Env} : ∀ {names : List (Str × NameKind)} {x : Str}, ((names.map fun (n, k) => if (k == NameKind.free && env.scope.kind == .function && env.kindOf n == some .cell) then (n, NameKind.cell) else (n, k)).lookup x = some .cell ∨
    (names.map fun (n, k) => if (k == NameKind.free && env.scope.kind == .function && env.kindOf n == some .cell) then (n, NameKind.cell) else (n, k)).lookup x = some .free) → names.lookup x = some .free ∨ names.lookup x = some .cell
  | [], _, h => by simp at h
  | (n, k) :: r, x, h => by
    have ih := @lookup_relabel_inv env r x
    replace h : List.lookup x ((if (k == NameKind.free && env.scope.kind == .function && env.kindOf n == some .cell) = true then (n, NameKind.cell) else (n, k)) :: _) = _ ∨ List.lookup x ((if (k == NameKind.free && env.scope.kind == .function && env.kindOf n == some .cell) = true then (n, NameKind.cell) else (n, k)) :: _) = _ := h
    cases hx : x == n with
    | true =>
      simp only [List.lookup_cons, hx]
      by_cases hcc : (k == NameKind.free && env.scope.kind == .function && env.kindOf n == some .cell) = true
      · have : k = .free := by
          have := (Bool.and_eq_true _ _ ▸ (Bool.and_eq_true _ _ ▸ hcc).1).1
          exact eq_of_beq this
        exact .inl (by rw [this])
      · rw [if_neg hcc] at h
        simp only [List.lookup_cons, hx] at h
        rcases h with h | h
        · exact .inr h
        · exact .inl h
    | false =>
      simp only [List.lookup_cons, hx]
      by_cases hcc : (k == NameKind.free && env.scope.kind == .function && env.kindOf n == some .cell) = true
      · rw [if_pos hcc] at h; simp only [List.lookup_cons, hx] at h; exact ih h
      · rw [if_neg hcc] at h; simp only [List.lookup_cons, hx] at h; exact ih h
abbrev cxComp (X : Cx) (Nc : List Str) (scope : Scope) (cl : List (Str × Addr)) (C : Addr) (s2 : Shared) (H2 : Hp) (fp : List Addr) : Cx :=
  { prog := X.prog, w := X.w, K := X.K, mg := X.mg, base := X.base, A := X.A, N := Nc, s₀ := s2, H₀ := H2, env := compEnvC scope cl C X.env, outer := X.stack, stack := X.stack, ex := fp, fn := fun _ => false, calm := X.calm, pn := [], xe := fun _ _ => False }
abbrev capN (own : List Str) (cap : List (Str × Nat)) : List Str := own ++ cap.map (·.1)
def capSt (no : Nat) (cap : List (Str × Nat)) (σ : St) : St := List.replicate no none ++ cap.map fun p => (σ[p.2]?).join
structure CompScope (X : Cx) (scope : Scope) (cap : List (Str × Nat)) (cl : List (Str × Addr)) : Prop where
  clos : closureFor scope X.env = pure cl
  kind : scope.kind = .function
  nocell : ∀ y ∈ scope.names, y.2 ≠ .cell
  names : ∀ y ∈ scope.names, y.2 = .local → scope.names.lookup y.1 = some .local
  sub : ∀ x c, cl.lookup x = some c → X.env.cells.lookup x = some c
  has : ∀ x, scope.names.lookup x = some .free → ∃ c, cl.lookup x = some c
  cap : ∀ p ∈ cap, X.N[p.2]? = some p.1 ∧ scope.names.lookup p.1 = some .free ∧ X.env.scope.names.lookup p.1 = some .cell
def CompW (J : It) (D : Addr) (g : TG) (te : TE) (Q : VK) (σ : St) (H : Hp) : Prop := ∃ W : Nat → Nat → St → Hp → Prop,
  (∃ m, W 0 m σ H) ∧ ∀ i m σc H2, W i m σc H2 →
    (J.stop i H2 ∧ Q (.ref D) H2) ∨ (J.go i H2 ∧ ∀ x H3, J.yld i H2 x H3 → g x σc H3 fun σ4 H4 => te σ4 H4 fun y H5 => ∃ ys, H5 D = some (.lst ys) ∧ ys.length < sizeLine ∧ ∃ m', m' < m ∧ W (i + 1) m' σ4 (upd H5 D (.lst (ys ++ [y]))))
def tComp (no : Nat) (cap : List (Str × Nat)) (wi : TI) (g : TG) (te : TE) : TE := fun σ H Q => wi σ H fun J H1 => ∀ D, H1 D = none → CompW J D g te Q (capSt no cap σ) (upd H1 D (.lst []))
section
variable {X : Cx} {pins : List (Addr × Obj)} {σ : St} {s2 : Shared} {H2 : Hp}
theorem capSt_get {no : Nat} {cap : List (Str × Nat)} {own : List Str} (hno : own.length = no) {i : Nat} {x : Str} {v : V} (h1 : (capN own cap)[i]? = some x) (h2 : (capSt no cap σ)[i]? = some (some v)) :
    ∃ p ∈ cap, p.1 = x ∧ σ[p.2]? = some (some v) := by
  subst hno
  unfold capSt at h2
  by_cases hi : i < own.length
  · rw [List.getElem?_append_left (by simpa using hi), List.getElem?_replicate] at h2
    rw [if_pos hi] at h2
    cases h2
  · rw [List.getElem?_append_right (by simpa using hi)] at h2
    unfold capN at h1
    rw [List.getElem?_append_right (by simpa using hi)] at h1
    rw [List.length_replicate, List.getElem?_map] at h2
    rw [List.getElem?_map] at h1
    cases e : cap[i - own.length]? with
    | none => rw [e] at h1; cases h1
    | some p =>
      rw [e] at h1 h2
      refine ⟨p, List.mem_of_getElem? e, Option.some.inj h1, ?_⟩
      have q : (σ[p.2]?).join = some v := Option.some.inj h2
      cases e2 : σ[p.2]? with
      | none => rw [e2] at q; cases q
      | some o => rw [e2] at q; exact congrArg some q
theorem comp_block {elt iter tg : Expr} {scope : Scope} {own : List Str} {cap : List (Str × Nat)} {cl : List (Str × Addr)} {pos : Pos} {J : It} {fp : List Addr} {it : Addr} {tn : Nat → Heap → Prop} {g : TG} {te : TE} {Q : VK}
    (S : CompScope X scope cap cl) (hc : X.calm = true) (I : Inv X pins σ H2 s2) (T : Turn X.prog X.w X.K tg J fp it tn) (st : tn 0 s2.heap) (hf : ∀ b ∈ fp, FpOk X pins H2 b)
    (hg : ∀ C s2 H2 fp, PG (cxComp X (capN own cap) scope cl C s2 H2 fp) tg g) (he : ∀ C s2 H2 fp, PE (cxComp X (capN own cap) scope cl C s2 H2 fp) elt te)
    (W : Nat → Nat → St → Hp → Prop) (w0 : ∃ m, W 0 m (capSt own.length cap σ) (upd H2 s2.heap.objs.size (.lst [])))
    (turn : ∀ i m σc H3, W i m σc H3 → (J.stop i H3 ∧ Q (.ref s2.heap.objs.size) H3) ∨ (J.go i H3 ∧ ∀ x H4, J.yld i H3 x H4 → g x σc H4 fun σ5 H5 => te σ5 H5 fun y H6 => ∃ ys, H6 s2.heap.objs.size = some (.lst ys) ∧ ys.length < sizeLine ∧ ∃ m', m' < m ∧ W (i + 1) m' σ5 (upd H6 s2.heap.objs.size (.lst (ys ++ [y])))))
    {RR : Value → Addr → Result → Shared → Prop}
    (hRR : ∀ C H' s' m, s2.heap.objs.size ≤ C → s'.heap.Ns C m → H' C = none → Inv X pins σ H' s' → (∀ h', Heap.SameBut C s'.heap h' → Inv X pins σ H' { s' with heap := h' }) → Q (.ref s2.heap.objs.size) H' → RR (.ref s2.heap.objs.size) C (.ok .next) s')
    {E : Value → Shared → Prop} :
    wpAny (model X.prog X.w) X.A (newList []) (fun acc s₃ => wpAny (model X.prog X.w) X.A (newFunctionEnv scope X.env.globals cl [] X.env.qual none .none (some X.env)) (fun cenv s₄ =>
      codeAny (model X.prog X.w) X.A (.compStart (.ListComp elt [⟨tg, iter, [], 0⟩] scope pos) 0 (.ref it) acc { cenv with scope := relabel scope X.env }) (RR acc cenv.locals) s₄) E s₃) E s2 := by
  refine wpAny_newObj_type (wpAny_newFunctionEnv S.nocell (by intro y hy; simp at hy) (fun h₁ hns₁ hsb₁ => ?_) S.kind)
  dsimp only at hns₁ hsb₁ ⊢
  generalize hH2 : s2.heap.push { cls := .type "list", dict := none, data := .seq ([] : List Value).toArray } = G2 at hns₁ hsb₁ ⊢
  have hC : G2.objs.size = s2.heap.objs.size + 1 := by rw [← hH2, Heap.size_push]
  have hDC : s2.heap.objs.size ≠ G2.objs.size := by rw [hC]; exact Nat.ne_of_lt (Nat.lt_succ_self _)
  have hCle : s2.heap.objs.size ≤ G2.objs.size := by rw [hC]; exact Nat.le_succ _
  have below : ∀ b, b < s2.heap.objs.size → b ≠ G2.objs.size ∧ b ≠ s2.heap.objs.size := fun b hb => ⟨by rw [hC]; exact Nat.ne_of_lt (Nat.lt_succ_of_lt hb), Nat.ne_of_lt hb⟩
  have old : ∀ b o, s2.heap.get? b = some o → h₁.get? b = some o := fun b o e => hsb₁.extBut b o (below b (Heap.lt_size e)).1 (Heap.get?_push_of_some _ (hH2 ▸ Heap.get?_push_of_some _ e))
  have hacc : h₁.get? s2.heap.objs.size = some { cls := .type "list", dict := none, data := .seq ([] : List Value).toArray } := hsb₁.extBut _ _ hDC (Heap.get?_push_of_some _ (hH2 ▸ Heap.get?_push_size _ rfl))
  have hfps : ∀ b ∈ fp, b < s2.heap.objs.size := fun b hb => by
    obtain ⟨o, e, _⟩ := T.obj _ _ st b hb
    exact Heap.lt_size e
  have hfree : ∀ b, s2.heap.objs.size ≤ b → H2 b = none := fun b hb => I.hok.fresh hb
  generalize hX : cxComp X (capN own cap) scope cl G2.objs.size s2 H2 fp = X'
  have hOk : X'.Ok := by
    subst hX
    refine ⟨I.ok.mod, S.kind, I.ok.glob, I.ok.blt, hCle, fun x y c e1 e2 => I.ok.inj x y c (S.sub x c e1) (S.sub y c e2), fun x hx => ?_, fun x c z => absurd (show false = true from z) Bool.false_ne_true, I.ok.hd, I.ok.frames, .inl rfl,
      fun b hb => ⟨(below b (hfps b hb)).1, fun x c e => (hf b hb).2.2.2.2.1 x c (S.sub x c e)⟩, I.bs, Nat.le_trans I.ok.bsz I.sz, fun b o e hb => ?_, fun b hb z => ?_, I.stack, I.stkFree⟩
    · rcases lookup_relabel_inv (env := X.env) (names := scope.names) (x := x) hx with h | h
      · exact S.has x h
      · exact absurd rfl (S.nocell _ (PySem.mem_of_lookup h))
    · rcases (hf b hb).2.2.2.1 with z | z
      · exact I.ok.noex b o e z
      · exact absurd (Nat.lt_of_lt_of_le (Heap.lt_size e) (Nat.le_trans I.ok.bsz z)) (Nat.lt_irrefl _)
    · rcases List.mem_cons.mp (I.stkSub b z) with z | z
      · exact (hf b hb).2.1 z
      · exact (hf b hb).2.2.1 z
  have hI0 : Inv X' [] (capSt own.length cap σ) (upd H2 s2.heap.objs.size (.lst [])) { s2 with heap := h₁, toks := s2.toks + ([] : List (Str × Value)).length } := by
    subst hX
    refine ⟨hOk, rfl, I.bare, Un.laid old (Nat.le_refl _) (hfree _ (Nat.le_refl _)), ⟨_, hns₁, fun i x v e1 e2 e3 => ?_⟩, fun x c e => ?_, ?_, fun x c e => ?_, fun p hp => absurd (show p ∈ ([] : List (Addr × Obj)) from hp) (by simp), ?_, ?_⟩
    · obtain ⟨p, hp, rfl, hσ⟩ := capSt_get rfl e1 e2
      obtain ⟨c1, c2, c3⟩ := S.cap p hp
      obtain ⟨m, hn, hl⟩ := I.loc
      obtain ⟨u, r, l⟩ := hl p.2 p.1 v c1 hσ (.inr (.inl c3))
      refine ⟨u, r, .inr ⟨.inl (lookup_relabel_free I.ok.kind c2 c3), ?_⟩⟩
      obtain ⟨c, hcl⟩ := S.has _ c2
      refine ⟨c, hcl, ?_⟩
      rcases l with ⟨k, _⟩ | ⟨_, c', e, z⟩
      · have k' : X.env.scope.names.lookup p.1 = some .local := k
        rw [c3] at k'; cases k'
      · have := S.sub _ _ hcl
        rw [e] at this; cases this
        obtain ⟨o, ho, hd⟩ := z
        exact ⟨o, old _ _ ho, hd⟩
    · obtain ⟨v, o, ho, hd⟩ := I.cell x c (S.sub x c e)
      exact ⟨v, o, old _ _ ho, hd⟩
    · show upd H2 s2.heap.objs.size (.lst []) G2.objs.size = none
      rw [upd_ne (Ne.symm hDC)]
      exact hfree _ hCle
    · have e' := S.sub x c e
      obtain ⟨v, o, ho, hd⟩ := I.cell x c e'
      rw [upd_ne (below c (Heap.lt_size ho)).2]
      exact I.freeC x c e'
    · exact I.hok.laid old (Nat.le_refl _) ⟨Nat.zero_le _, [], _, .nil, hacc⟩
    · show (capSt own.length cap σ).length = (capN own cap).length
      unfold capSt capN
      simp
  have hP : X'.prog = X.prog := by subst hX; rfl
  have hw : X'.w = X.w := by subst hX; rfl
  have hK : X'.K = X.K := by subst hX; rfl
  have hA : X'.A = X.A := by subst hX; rfl
  have hcalm : X'.calm = true := by subst hX; exact hc
  have hxe : X'.xe = fun _ _ => False := by subst hX; rfl
  have henv : X'.env = compEnvC scope cl G2.objs.size X.env := by subst hX; rfl
  have hbase : ∀ {σ' H' s'}, Inv X' [] σ' H' s' → Un (frs X.stack) fp H2 H' s2.heap s'.heap ∧ s'.os = s2.os := fun {σ' H' s'} J => by subst hX; exact ⟨J.base, J.os⟩
  have hg' : PG X' tg g := by subst hX; exact hg _ _ _ _
  have he' : PE X' elt te := by subst hX; exact he _ _ _ _
  have stat : ∀ {H' : Hp}, (∀ b ∈ fp, H' b = none) → ∀ b ∈ fp, FpOk X' [] H' b := fun {H'} hn b hb => by
    subst hX
    refine ⟨hn b hb, (below b (hfps b hb)).1, fun z => ?_, .inl hb, fun x c e => (hf b hb).2.2.2.2.1 x c (S.sub x c e), fun p hp => absurd (show p ∈ ([] : List (Addr × Obj)) from hp) (by simp)⟩
    rcases List.mem_cons.mp (I.stkSub b z) with z | z
    · exact (hf b hb).2.1 z
    · exact (hf b hb).2.2.1 z
  have back : ∀ {σ' H' s'}, Inv X' [] σ' H' s' → Q (.ref s2.heap.objs.size) H' → RR (.ref s2.heap.objs.size) G2.objs.size (.ok .next) s' := fun {σ' H' s'} J q => by
    obtain ⟨u, ho⟩ := hbase J
    have hcf : ∀ b ∈ fp, (b ∈ X.ex ∨ X.s₀.heap.objs.size ≤ b) ∧ b ≠ X.env.locals ∧ (∀ x c, X.env.cells.lookup x = some c → c ≠ b) ∧ ∀ p ∈ X.pn ++ pins, p.1 ≠ b := fun b hb => by
      obtain ⟨f0, f1, f2, f3, f4, f5⟩ := hf b hb
      exact ⟨f3, f1, f4, f5⟩
    have hCn : H' G2.objs.size = none := by have := J.free; rw [henv] at this; exact this
    have hok' : HOk X.prog X.w H' s'.heap := by have := J.hok; rw [hP, hw] at this; exact this
    obtain ⟨m, hm, _⟩ := J.loc
    rw [henv] at hm
    refine hRR _ H' s' m hCle hm hCn (I.call' ho u hok' J.bare hcf) (fun h' hs => ?_) q
    have kn : ∀ b o, s2.heap.get? b = some o → h'.get? b = s'.heap.get? b := fun b o e => hs.2 b (below b (Heap.lt_size e)).1
    refine I.call' (s' := { s' with heap := h' }) ho ⟨fun b o e n hb hx => (kn b o e).trans (u.keep b o e n hb hx), fun b o e n hb hx => ?_, u.free, fun b o e hx => ?_, u.tups, u.frzs, u.tbls⟩ (fun b ob e => ?_) J.bare hcf
    · obtain ⟨sl, e1⟩ := u.slot b o e n hb hx
      exact ⟨sl, (kn b o e).trans e1⟩
    · obtain ⟨o', e1⟩ := u.there b o e hx
      exact ⟨o', (kn b o e).trans e1⟩
    · refine (hok' b ob e).stay (fun c w' hc q => (hs.2 c ?_).trans q) (fun _ q => q) fun _ _ q => q
      rintro rfl
      rcases hc with rfl | hc
      · rw [hCn] at e; cases e
      · rw [hCn] at hc; cases hc
  have loop : ∀ s₃ : Shared, s₃ = { s2 with heap := h₁, toks := s2.toks + ([] : List (Str × Value)).length } →
      codeAny (model X.prog X.w) X.A (.compLoop (.ListComp elt [⟨tg, iter, [], 0⟩] scope pos) 0 (.ref it) (.ref s2.heap.objs.size) (compEnvC scope cl G2.objs.size X.env))
        (RR (.ref s2.heap.objs.size) G2.objs.size) s₃ := by
    rintro s₃ rfl
    obtain ⟨m0, w0⟩ := w0
    refine compLoop_any (fun n s' => ∃ i σ' H', Inv X' [] σ' H' s' ∧ tn i s'.heap ∧ (∀ b ∈ fp, H' b = none) ∧ W i n σ' H') ?_ m0
      ⟨0, _, _, hI0, T.keep _ _ _ st fun b hb o e => old b o e, fun b hb => ?_, w0⟩
    · rintro n s3 ⟨i, σ3, H3, I3, st3, fr3, w3⟩
      rcases turn i n σ3 H3 w3 with ⟨stop, qn⟩ | ⟨go, step⟩
      · have d := T.done X' hP hw hK hcalm i [] s3 σ3 H3 (fun _ _ => False) I3 (stat fr3) st3 stop
        rw [hA] at d
        refine thn d fun r s4 ⟨hr, I4⟩ => ?_
        subst hr
        exact back I4 qn
      · have d := T.item X' hP hw hK hcalm i [] s3 σ3 H3 (fun _ _ => False) I3 (stat fr3) st3 go
        rw [hA] at d
        refine thn d fun r s4 ⟨u, hr, h4⟩ => ?_
        subst hr
        refine thn h4 fun _ s5 ⟨x, H5, I5, r5, y5, st5, fr5⟩ => ?_
        have I5' := I5.pinned (stat fr5) (T.obj _ _ st5)
        have d2 := hg' _ s5 σ3 H5 x u _ I5' r5 (step x H5 y5)
        rw [hP, hw, hA, hxe, henv] at d2
        refine thn d2 fun _ s6 ⟨σ6, H6, I6, q6⟩ => ?_
        have d3 := he' _ s6 σ6 H6 _ I6 q6
        rw [hP, hw, hA, hxe, henv] at d3
        refine thn d3 fun y7 s7 ⟨v7, H7, I7, r7, ys, e7, l7, m', hm, w7⟩ => ?_
        have d4 := mt_append (X := X') _ s7 σ6 H7 (.ref s2.heap.objs.size) [v7] (.ref s2.heap.objs.size) [y7] (fun _ H8 => W (i + 1) m' σ6 H8) I7 rfl (.cons r7 .nil) ⟨_, ys, v7, rfl, rfl, e7, l7, w7⟩
        rw [hP, hw, hA, hxe] at d4
        refine thn d4 fun _ s8 ⟨v8, H8, I8, _, w8⟩ => ?_
        refine ⟨m', hm, i + 1, σ6, H8, I8.unpinned, T.keep _ _ _ st5 fun b hb o e => (I8.pin (b, o) (List.mem_append_right _ (List.mem_append_right _ (mem_pinsAt hb e)))).1, fun b hb => ?_, w8⟩
        obtain ⟨o, e, d⟩ := T.obj _ _ st5 b hb
        exact (I8.pin (b, o) (List.mem_append_right _ (List.mem_append_right _ (mem_pinsAt hb e)))).2.1
    · rw [upd_ne (below b (hfps b hb)).2]
      exact (hf b hb).1
  exact codeAny_compStart_list (loop _ rfl) (T.self _ 0 _ _ _ (T.keep _ _ _ st fun b hb o e => old b o e) (loop _ rfl))
theorem pe_comp {elt iter tg : Expr} {scope : Scope} {own : List Str} {cap : List (Str × Nat)} {cl : List (Str × Addr)} {pos : Pos} {wi : TI} {g : TG} {te : TE}
    (S : CompScope X scope cap cl) (hc : X.calm = true) (hi : PI X tg iter wi)
    (hg : ∀ C s2 H2 fp, PG (cxComp X (capN own cap) scope cl C s2 H2 fp) tg g) (he : ∀ C s2 H2 fp, PE (cxComp X (capN own cap) scope cl C s2 H2 fp) elt te)
    (hs : ∀ x, foldedSetIterable iter X.env x = pure x := by intro _; rfl) : PE X (.ListComp elt [⟨tg, iter, [], 0⟩] scope pos) (tComp own.length cap wi g te) := by
  intro pins s σ H Q I h
  rw [eval_ListComp]
  refine wpAny_comprehension_free (use := none) rfl hs S.clos S.kind S.names (thn (hi pins s σ H _ I h) fun v s1 h1 => thn h1 fun itv s2 h2 => ?_)
  obtain ⟨it, fp, tn, J, H2, e, I2, T, st2, f2, rd⟩ := h2
  subst e
  obtain ⟨W, w0, turn⟩ := rd _ (I2.hok.fresh (Nat.le_refl _))
  exact comp_block (RR := fun acc C => compPost (model X.prog X.w) X.A X.xe none (EP X pins σ Q) acc C) S hc I2 T st2 f2 hg he W w0 turn
    fun C H' s' m _ hm _ _ hback q => ⟨m, hm, fun h' hs' => ⟨.ref s2.heap.objs.size, H', hback h' hs', rfl, q⟩⟩
end
section
variable {prog : Program} {w : World} {A : Around} {R : Result → Shared → Prop} {s : Shared}
end
section
variable {X : Cx} {pins : List (Addr × Obj)} {σ : St} {s2 : Shared} {H2 : Hp}
end
section
variable {X : Cx}
end
section
variable {X : Cx}
theorem call_isinst : CallR X (.builtin "isinstance") (fun xs H Q => ∃ x n t b, xs = [x, .ty n] ∧ TyOf X.K H x t ∧ PySem.W.kitOne X.K t (.type n) = some b ∧ Q (.bl b) H) := by
  intro pins s σ H xs us Q I r h
  obtain ⟨x, n, t, b, rfl, ty, e, q⟩ := h
  obtain ⟨u, w', rfl, ru, rw'⟩ := vals2 r
  cases rw'
  exact isinst_ok I ru ty e fun tk => ⟨.bl b, H, I.tok tk, rfl, q⟩
end
theorem eqV_refl {x : V} (h : flatV x = true) : eqV x x = true := by
  cases x <;> first | rfl | exact beq_self_eq_true _ | (exact absurd (show false = true from h) Bool.false_ne_true)
theorem all_range_succ (e : Nat → Bool) (n : Nat) : (List.range (n + 1)).all e = (e 0 && (List.range n).all fun j => e (j + 1)) := by
  rw [List.range_succ_eq_map, List.all_cons, List.all_map]
  rfl
section
variable {X : Cx} {pins : List (Addr × Obj)} {σ : St} {H : Hp} {s : Shared} {A : Around}
end
theorem clos_loop (env : Env) : ∀ (names : List (Str × NameKind)) (acc : List (Str × Addr)), (∀ y ∈ names, y.2 = .free → ∃ c, env.cells.lookup y.1 = some c) → (∀ x c, acc.lookup x = some c → env.cells.lookup x = some c) →
    ∃ cl, (forIn names acc (fun (x : Str × NameKind) (cs : List (Str × Addr)) => (if (x.2 == NameKind.free) = true then (do let a ← cellOf env x.1; pure (ForInStep.yield ((x.1, a) :: cs)) : Sem _) else pure (ForInStep.yield cs))) : Sem (List (Str × Addr))) = pure cl ∧
      (∀ x c, cl.lookup x = some c → env.cells.lookup x = some c) ∧ (∀ x, (∃ c, acc.lookup x = some c) ∨ (x, NameKind.free) ∈ names → ∃ c, cl.lookup x = some c)
  | [], acc, _, h2 => ⟨acc, rfl, h2, fun x hx => hx.elim id fun z => (by cases z)⟩
  | (n, k) :: r, acc, h1, h2 => by
    by_cases hk : k = .free
    · subst hk
      obtain ⟨c, hc⟩ := h1 (n, .free) List.mem_cons_self rfl
      obtain ⟨cl, e, a, b⟩ := clos_loop env r ((n, c) :: acc) (fun y hy => h1 y (List.mem_cons_of_mem _ hy)) (fun x c' hx => by
        cases hxn : x == n with
        | true =>
          simp only [List.lookup_cons, hxn] at hx
          have : x = n := eq_of_beq hxn
          subst this
          cases hx
          exact hc
        | false =>
          simp only [List.lookup_cons, hxn] at hx
          exact h2 x c' hx)
      refine ⟨cl, ?_, a, fun x hx => b x ?_⟩
      · rw [← e, List.forIn_cons]
        have ec : cellOf env n = pure c := by unfold cellOf; rw [hc]
        simp only [beq_self_eq_true, if_true, ec]
        rfl
      · rcases hx with ⟨c', hx⟩ | hx
        · refine .inl ?_
          cases hxn : x == n with
          | true => exact ⟨c, by simp only [List.lookup_cons, hxn]⟩
          | false => exact ⟨c', by simp only [List.lookup_cons, hxn]; exact hx⟩
        · rcases List.mem_cons.mp hx with z | z
          · cases z
            exact .inl ⟨c, by simp [List.lookup_cons]⟩
          · exact .inr z
    · obtain ⟨cl, e, a, b⟩ := clos_loop env r acc (fun y hy => h1 y (List.mem_cons_of_mem _ hy)) h2
      refine ⟨cl, ?_, a, fun x hx => b x ?_⟩
      · rw [← e, List.forIn_cons]
        have hb : (k == NameKind.free) = false := by simpa using hk
        simp only [hb, Bool.false_eq_true, if_false]
        rfl
      · rcases hx with hx | hx
        · exact .inl hx
        · rcases List.mem_cons.mp hx with z | z
          · cases z
            exact absurd rfl hk
          · exact .inr z
theorem comp_scope {X : Cx} {scope : Scope} {cap : List (Str × Nat)} (hcell : ∀ x, X.env.scope.names.lookup x = some .cell → ∃ c, X.env.cells.lookup x = some c) (kind : scope.kind = .function) (nocell : ∀ y ∈ scope.names, y.2 ≠ .cell)
    (names : ∀ y ∈ scope.names, y.2 = .local → scope.names.lookup y.1 = some .local) (free : ∀ y ∈ scope.names, y.2 = .free → X.env.scope.names.lookup y.1 = some .cell)
    (hcap : ∀ p ∈ cap, X.N[p.2]? = some p.1 ∧ scope.names.lookup p.1 = some .free ∧ X.env.scope.names.lookup p.1 = some .cell) : ∃ cl, CompScope X scope cap cl := by
  obtain ⟨cl, e, a, b⟩ := clos_loop X.env scope.names [] (fun y hy hf => hcell _ (free y hy hf)) (fun x c h => by simp at h)
  refine ⟨cl, ?_, kind, nocell, names, a, fun x hx => b x (.inr (PySem.mem_of_lookup hx)), hcap⟩
  unfold closureFor
  refine Eq.trans ?_ e
  simp only [bind_pure]
abbrev CTurn (n : Nat) (D : Addr) (Pv : Nat → List V → St → Hp → Prop) (i : Nat) (σ : St) (y : V) (H5 : Hp) : Prop :=
  ∃ ys, H5 D = some (.lst ys) ∧ ys.length < sizeLine ∧ ∃ m', m' < n - i ∧ m' = n - (i + 1) ∧ i + 1 ≤ n ∧ ∃ acc, Pv (i + 1) acc σ (upd H5 D (.lst (ys ++ [y])))
theorem cturn {n : Nat} {D : Addr} {Pv : Nat → List V → St → Hp → Prop} {i : Nat} {σ : St} {y : V} {H5 : Hp} {acc : List V} (h1 : H5 D = some (.lst acc)) (h2 : acc.length < sizeLine) (hi : i < n) (h3 : Pv (i + 1) (acc ++ [y]) σ (upd H5 D (.lst (acc ++ [y])))) : CTurn n D Pv i σ y H5 :=
  ⟨acc, h1, h2, n - (i + 1), by omega, rfl, hi, acc ++ [y], h3⟩
theorem comp_list {K : PySem.W.Frag} {a D : Addr} {xs : List V} {ni : Nat} {te : TE} {Q : VK} {σ : St} {H : Hp} (Pv : Nat → List V → St → Hp → Prop) (h0 : Pv 0 [] σ H) (hl : ∀ i acc σ H, i ≤ xs.length → Pv i acc σ H → SqL K H a xs)
    (hs : ∀ i x acc σ H, i < xs.length → xs[i]? = some x → Pv i acc σ H → te (σ.set ni (some x)) H fun y H5 => CTurn xs.length D Pv i (σ.set ni (some x)) y H5) (hd : ∀ acc σ H, Pv xs.length acc σ H → Q (.ref D) H) :
    CompW (Itl K a) D (gName ni) te Q σ H := by
  refine ⟨fun i m σ H => m = xs.length - i ∧ i ≤ xs.length ∧ ∃ acc, Pv i acc σ H, ⟨xs.length, by simp, Nat.zero_le _, [], h0⟩, ?_⟩
  rintro i m σ H ⟨rfl, hi, acc, p⟩
  have q := hl i acc σ H hi p
  by_cases hlt : i < xs.length
  · refine .inr ⟨⟨xs, xs[i], q, by simp [hlt]⟩, fun x H' y => ?_⟩
    obtain ⟨e, y⟩ := y
    subst e
    exact hs i x acc σ _ hlt (y xs q) p
  · have e : i = xs.length := by omega
    subst e
    exact .inl ⟨⟨xs, q, Nat.le_refl _⟩, hd acc σ H p⟩
section
variable {X : Cx}
end
section
variable {X : Cx}
end
section
variable {X : Cx}
theorem valsOfInts : ∀ {us : List Value} {ns : List Int}, IntsAre us ns → Vals (ns.map V.int) us
  | _, _, .nil => .nil
  | _, _, .cons i t r => .cons ⟨t, rfl⟩ (valsOfInts r)
def rSorted (K : PySem.W.Frag) : List V → Hp → VK → Prop := fun xs H Q => ∃ (p : Addr) (ns : List Int), xs = [.ref p] ∧ SqL K H p (ns.map V.int) ∧ ns.length < 64 ∧ ∀ ms : List Int, ms.Perm ns → ms.Pairwise (· ≤ ·) → ∀ l, H l = none → Q (.ref l) (upd H l (.lst (ms.map V.int)))
theorem call_sorted : CallR X (.builtin "sorted") (rSorted X.K) := by
  intro pins s σ H xs us Q I r h
  obtain ⟨p, ns, rfl, hq, h64, q⟩ := h
  obtain ⟨u, rfl, ru⟩ := vals1 r
  cases ru
  obtain ⟨its, rv, pl, hz⟩ := I.list hq
  have hl := rv.length
  rw [List.length_map] at hl
  refine sorted_ints pl.isList (intsAre_of rv) (by omega) fun out ms hi hp ho => ?_
  obtain ⟨e, he⟩ := sortedAll_at s.heap its out
  refine ⟨.ref (s.heap.objs.size + 1), _, I.laid (t' := s.toks) (o := .lst (ms.map V.int)) (fun b o q => sortedAll_old q) (Nat.le_succ _) ?_, rfl, q ms hp ho _ (I.hok.fresh (Nat.le_succ _))⟩
  refine ⟨?_, out.toList, e, valsOfInts hi, by simpa using he⟩
  rw [List.length_map, hp.length_eq]
  have : (64 : Nat) ≤ sizeLine := by decide
  omega
theorem comp_range {lo : Int} {n : Nat} {D : Addr} {ni : Nat} {te : TE} {Q : VK} {σ : St} {H : Hp} (Pv : Nat → List V → St → Hp → Prop) (h0 : Pv 0 [] σ H)
    (hs : ∀ i acc σ H, i < n → Pv i acc σ H → te (σ.set ni (some (.int (lo + i)))) H fun y H5 => CTurn n D Pv i (σ.set ni (some (.int (lo + i)))) y H5) (hd : ∀ acc σ H, Pv n acc σ H → Q (.ref D) H) :
    CompW (Itr lo n) D (gName ni) te Q σ H := by
  refine ⟨fun i m σ H => m = n - i ∧ i ≤ n ∧ ∃ acc, Pv i acc σ H, ⟨n, by simp, Nat.zero_le _, [], h0⟩, ?_⟩
  rintro i m σ H ⟨rfl, hi, acc, p⟩
  by_cases hlt : i < n
  · refine .inr ⟨hlt, fun x H' y => ?_⟩
    obtain ⟨e, y⟩ := y
    subst e y
    exact hs i acc σ _ hlt p
  · have e : i = n := by omega
    subst e
    exact .inl ⟨Nat.le_refl _, hd acc σ H p⟩
end
inductive D where
  | fl (x : V)
  | tp (l : List D)
  | ls (l : List D)
mutual
def Den (K : PySem.W.Frag) (H : Hp) : D → V → Prop
  | .fl x, v => v = x ∧ flatV x = true
  | .tp l, v => ∃ a xs, v = .ref a ∧ SqT K H a xs ∧ Dens K H l xs
  | .ls l, v => ∃ a xs, v = .ref a ∧ SqL K H a xs ∧ Dens K H l xs
def Dens (K : PySem.W.Frag) (H : Hp) : List D → List V → Prop
  | [], xs => xs = []
  | d :: l, xs => ∃ x r, xs = x :: r ∧ Den K H d x ∧ Dens K H l r
end
mutual
def D.eq : D → D → Bool
  | .fl x, .fl y => eqV x y
  | .tp l, .tp m => D.eqs l m
  | .ls l, .ls m => D.eqs l m
  | _, _ => false
def D.eqs : List D → List D → Bool
  | [], [] => true
  | x :: l, y :: m => D.eq x y && D.eqs l m
  | _, _ => false
end
mutual
def D.dep : D → Nat
  | .fl _ => 0
  | .tp l => D.deps l + 1
  | .ls l => D.deps l + 1
def D.deps : List D → Nat
  | [] => 0
  | x :: l => max (D.dep x) (D.deps l)
end
section
variable {X : Cx} {pins : List (Addr × Obj)} {σ : St} {H : Hp} {s : Shared}
theorem Inv.not_both {a : Addr} {xs ys : List V} (I : Inv X pins σ H s) (h : SqL X.K H a xs) (h' : SqT X.K H a ys) : False := by
  obtain ⟨its, r1, p1, _⟩ := I.list h
  obtain ⟨its2, r2, p2, _⟩ := I.tuple h'
  obtain ⟨o, ho, hc, _⟩ := p1.isList
  obtain ⟨o2, ho2, hc2, _⟩ := p2
  rw [ho] at ho2
  cases ho2
  rw [hc] at hc2
  simp at hc2
mutual
theorem eqD_self (I : Inv X pins σ H s) : ∀ (d e : D) {v : V}, Den X.K H d v → Den X.K H e v → d.eq e = true
  | .fl x, .fl y, v, h, h' => by
    obtain ⟨rfl, f⟩ := h
    obtain ⟨rfl, _⟩ := h'
    rw [D.eq]
    exact eqV_refl f
  | .fl x, .tp m, v, h, h' => by
    obtain ⟨rfl, f⟩ := h
    obtain ⟨a, xs, rfl, _⟩ := h'
    exact absurd (show false = true from f) Bool.false_ne_true
  | .fl x, .ls m, v, h, h' => by
    obtain ⟨rfl, f⟩ := h
    obtain ⟨a, xs, rfl, _⟩ := h'
    exact absurd (show false = true from f) Bool.false_ne_true
  | .tp l, .fl x, v, h', h => by
    obtain ⟨rfl, f⟩ := h
    obtain ⟨a, xs, rfl, _⟩ := h'
    exact absurd (show false = true from f) Bool.false_ne_true
  | .ls l, .fl x, v, h', h => by
    obtain ⟨rfl, f⟩ := h
    obtain ⟨a, xs, rfl, _⟩ := h'
    exact absurd (show false = true from f) Bool.false_ne_true
  | .tp l, .tp m, v, h, h' => by
    obtain ⟨a, xs, rfl, h1, h2⟩ := h
    obtain ⟨b, ys, e, h3, h4⟩ := h'
    cases e
    rw [I.tuple_inj h3 h1] at h4
    rw [D.eq]
    exact eqsD_self I l m h2 h4
  | .ls l, .ls m, v, h, h' => by
    obtain ⟨a, xs, rfl, h1, h2⟩ := h
    obtain ⟨b, ys, e, h3, h4⟩ := h'
    cases e
    rw [I.list_inj h3 h1] at h4
    rw [D.eq]
    exact eqsD_self I l m h2 h4
  | .tp l, .ls m, v, h, h' => by
    obtain ⟨a, xs, rfl, h1, h2⟩ := h
    obtain ⟨b, ys, e, h3, h4⟩ := h'
    cases e
    exact (I.not_both h3 h1).elim
  | .ls l, .tp m, v, h, h' => by
    obtain ⟨a, xs, rfl, h1, h2⟩ := h
    obtain ⟨b, ys, e, h3, h4⟩ := h'
    cases e
    exact (I.not_both h1 h3).elim
theorem eqsD_self (I : Inv X pins σ H s) : ∀ (l m : List D) {xs : List V}, Dens X.K H l xs → Dens X.K H m xs → D.eqs l m = true
  | [], [], xs, h, h' => by rw [D.eqs]
  | [], _ :: _, xs, h, h' => by
    obtain ⟨x, r, rfl, _⟩ := h'
    cases (show (x :: r) = [] from h)
  | _ :: _, [], xs, h', h => by
    obtain ⟨x, r, rfl, _⟩ := h'
    cases (show (x :: r) = [] from h)
  | d :: l, e :: m, xs, h, h' => by
    obtain ⟨x, r, rfl, h1, h2⟩ := h
    obtain ⟨y, r', q, h3, h4⟩ := h'
    cases q
    rw [D.eqs, eqD_self I d e h1 h3, eqsD_self I l m h2 h4]
    rfl
end
mutual
theorem eqAt_D (I : Inv X pins σ H s) : ∀ (d e : D) {v v' : V} {u u' : Value} {A : Around}, RelV v u → RelV v' u' → Den X.K H d v → Den X.K H e v' → A.units + d.dep + e.dep < cLine → SeqAt.EqAt A s u u' (d.eq e)
  | .fl x, .fl y, v, v', u, u', A, r, r', h, h', hu => by
    obtain ⟨rfl, f⟩ := h
    obtain ⟨rfl, f'⟩ := h'
    rw [D.eq]
    exact eqAt_V r r' f f'
  | .fl x, .tp m, v, v', u, u', A, r, r', h, h', hu => by
    obtain ⟨rfl, f⟩ := h
    obtain ⟨a, xs, rfl, hb, _⟩ := h'
    cases r'
    obtain ⟨its2, r2, p2, _⟩ := I.tuple hb
    rw [show D.eq (.fl v) (.tp m) = false by simp [D.eq]]
    have hu' : A.units < cLine := by omega
    cases v with
    | non => cases r; exact SeqAt.EqAt.none_tuple p2 hu'
    | bl c => cases r; exact SeqAt.EqAt.bool_tuple c p2 hu'
    | int c => obtain ⟨t, rfl⟩ := r; exact SeqAt.EqAt.int_tuple c t p2 hu'
    | str c => obtain ⟨t, rfl⟩ := r; exact SeqAt.EqAt.str_tuple c t p2 hu'
    | _ => exact absurd (show false = true from f) Bool.false_ne_true
  | .fl x, .ls m, v, v', u, u', A, r, r', h, h', hu => by
    obtain ⟨rfl, f⟩ := h
    obtain ⟨a, xs, rfl, hb, _⟩ := h'
    cases r'
    obtain ⟨its2, r2, p2, _⟩ := I.list hb
    rw [show D.eq (.fl v) (.ls m) = false by simp [D.eq]]
    have hu' : A.units < cLine := by omega
    cases v with
    | non => cases r; exact SeqAt.EqAt.none_list p2.isList hu'
    | bl c => cases r; exact SeqAt.EqAt.bool_list c p2.isList hu'
    | int c => obtain ⟨t, rfl⟩ := r; exact SeqAt.EqAt.int_list c t p2.isList hu'
    | str c => obtain ⟨t, rfl⟩ := r; exact SeqAt.EqAt.str_list c t p2.isList hu'
    | _ => exact absurd (show false = true from f) Bool.false_ne_true
  | .tp l, .fl x, v', v, u', u, A, r', r, h', h, hu => by
    obtain ⟨rfl, f⟩ := h
    obtain ⟨a, xs, rfl, hb, _⟩ := h'
    cases r'
    obtain ⟨its2, r2, p2, _⟩ := I.tuple hb
    rw [show D.eq (.tp l) (.fl v) = false by simp [D.eq]]
    have hu' : A.units < cLine := by omega
    cases v with
    | non => cases r; exact SeqAt.EqAt.tuple_none p2 hu'
    | bl c => cases r; exact SeqAt.EqAt.tuple_bool c p2 hu'
    | int c => obtain ⟨t, rfl⟩ := r; exact SeqAt.EqAt.tuple_int c t p2 hu'
    | str c => obtain ⟨t, rfl⟩ := r; exact SeqAt.EqAt.tuple_str c t p2 hu'
    | _ => exact absurd (show false = true from f) Bool.false_ne_true
  | .ls l, .fl x, v', v, u', u, A, r', r, h', h, hu => by
    obtain ⟨rfl, f⟩ := h
    obtain ⟨a, xs, rfl, hb, _⟩ := h'
    cases r'
    obtain ⟨its2, r2, p2, _⟩ := I.list hb
    rw [show D.eq (.ls l) (.fl v) = false by simp [D.eq]]
    have hu' : A.units < cLine := by omega
    cases v with
    | non => cases r; exact SeqAt.EqAt.list_none p2.isList hu'
    | bl c => cases r; exact SeqAt.EqAt.list_bool c p2.isList hu'
    | int c => obtain ⟨t, rfl⟩ := r; exact SeqAt.EqAt.list_int c t p2.isList hu'
    | str c => obtain ⟨t, rfl⟩ := r; exact SeqAt.EqAt.list_str c t p2.isList hu'
    | _ => exact absurd (show false = true from f) Bool.false_ne_true
  | .tp l, .ls m, v, v', u, u', A, r, r', h, h', hu => by
    obtain ⟨a, xs, rfl, h1, _⟩ := h
    obtain ⟨b, ys, rfl, h3, _⟩ := h'
    cases r
    cases r'
    obtain ⟨its, r1, p1, _⟩ := I.tuple h1
    obtain ⟨its2, r2, p2, _⟩ := I.list h3
    rw [show D.eq (.tp l) (.ls m) = false by simp [D.eq]]
    exact SeqAt.EqAt.tuple_list p1 p2.isList (by omega)
  | .ls l, .tp m, v, v', u, u', A, r, r', h, h', hu => by
    obtain ⟨a, xs, rfl, h1, _⟩ := h
    obtain ⟨b, ys, rfl, h3, _⟩ := h'
    cases r
    cases r'
    obtain ⟨its, r1, p1, _⟩ := I.list h1
    obtain ⟨its2, r2, p2, _⟩ := I.tuple h3
    rw [show D.eq (.ls l) (.tp m) = false by simp [D.eq]]
    exact SeqAt.EqAt.list_tuple p1.isList p2 (by omega)
  | .tp l, .tp m, v, v', u, u', A, r, r', h, h', hu => by
    by_cases hab : v = v'
    · subst hab
      rw [eqD_self I _ _ h h']
      rw [show u' = u from by obtain ⟨a, xs, rfl, _⟩ := h; cases r; cases r'; rfl]
      exact SeqAt.EqAt.same _
    · obtain ⟨a, xs, rfl, h1, h2⟩ := h
      obtain ⟨b, ys, rfl, h3, h4⟩ := h'
      cases r
      cases r'
      obtain ⟨its, r1, p1, _⟩ := I.tuple h1
      obtain ⟨its2, r2, p2, _⟩ := I.tuple h3
      rw [D.dep, D.dep] at hu
      obtain ⟨e, he, ee⟩ := eqsAt_D (A := A.in1) I l m r1 r2 h2 h4 (by show A.units + 1 + _ + _ < _; omega)
      have key := SeqAt.RcAt.tuples (A := A) (s := s) (l := a) (b := b) (items := its.toArray) (items2 := its2.toArray) (e := e) p1 p2 (by omega) (fun j g1 g2 => by
        have := he j (by simpa using g1) (by simpa using g2)
        simpa using this)
      rw [List.size_toArray, List.size_toArray, ee] at key
      rw [D.eq]
      exact SeqAt.EqAt.of_refs (fun z => hab (by rw [z])) key
  | .ls l, .ls m, v, v', u, u', A, r, r', h, h', hu => by
    by_cases hab : v = v'
    · subst hab
      rw [eqD_self I _ _ h h']
      rw [show u' = u from by obtain ⟨a, xs, rfl, _⟩ := h; cases r; cases r'; rfl]
      exact SeqAt.EqAt.same _
    · obtain ⟨a, xs, rfl, h1, h2⟩ := h
      obtain ⟨b, ys, rfl, h3, h4⟩ := h'
      cases r
      cases r'
      obtain ⟨its, r1, p1, _⟩ := I.list h1
      obtain ⟨its2, r2, p2, _⟩ := I.list h3
      rw [D.dep, D.dep] at hu
      obtain ⟨e, he, ee⟩ := eqsAt_D (A := A.in1) I l m r1 r2 h2 h4 (by show A.units + 1 + _ + _ < _; omega)
      rw [D.eq]
      refine SeqAt.EqAt.of_refs (fun z => hab (by rw [z])) ?_
      by_cases hz : its.toArray.size = its2.toArray.size
      · have key := SeqAt.RcAt.lists (A := A) (s := s) (l := a) (b := b) (items := its.toArray) (items2 := its2.toArray) (e := e) p1.isList p2.isList hz (by omega) (fun j g1 g2 => by
          have := he j (by simpa using g1) (by simpa using g2)
          simpa using this)
        rw [List.size_toArray, List.size_toArray] at hz
        rw [← hz, Nat.min_self, beq_self_eq_true, Bool.and_true] at ee
        rw [List.size_toArray, ee] at key
        exact key
      · have hb' : (its.length == its2.length) = false := by simpa using hz
        rw [hb', Bool.and_false] at ee
        rw [← ee]
        exact SeqAt.RcAt.lists_lengths p1.isList p2.isList (by simpa using hz) (by omega)
theorem eqsAt_D (I : Inv X pins σ H s) {A : Around} : ∀ (l m : List D) {xs ys : List V} {us ws : List Value}, Vals xs us → Vals ys ws → Dens X.K H l xs → Dens X.K H m ys → A.units + D.deps l + D.deps m < cLine →
    ∃ e : Nat → Bool, (∀ j (h1 : j < us.length) (h2 : j < ws.length), SeqAt.EqAt A s us[j] ws[j] (e j)) ∧ ((List.range (min us.length ws.length)).all e && us.length == ws.length) = D.eqs l m
  | [], m, xs, ys, us, ws, r, r', h, h', hu => by
    cases (show xs = [] from h)
    cases r
    refine ⟨fun _ => true, fun j h1 _ => absurd h1 (Nat.not_lt_zero j), ?_⟩
    cases m with
    | nil => cases (show ys = [] from h'); cases r'; rw [D.eqs]; rfl
    | cons e m =>
      obtain ⟨y, t, rfl, _⟩ := h'
      cases r'
      simp [D.eqs]
  | d :: l, [], xs, ys, us, ws, r, r', h, h', hu => by
    obtain ⟨x, t, rfl, _⟩ := h
    cases (show ys = [] from h')
    cases r
    cases r'
    exact ⟨fun _ => true, fun j _ h1 => absurd h1 (Nat.not_lt_zero j), by simp [D.eqs]⟩
  | d :: l, e :: m, xs, ys, us, ws, r, r', h, h', hu => by
    obtain ⟨x, t, rfl, h1, h2⟩ := h
    obtain ⟨y, t', rfl, h3, h4⟩ := h'
    cases r with
    | @cons _ u0 _ us0 ru rus =>
    cases r' with
    | @cons _ w0 _ ws0 rw0 rws =>
    have hu1 : A.units + d.dep + e.dep < cLine := by
      rw [D.deps, D.deps] at hu
      have := Nat.le_max_left d.dep (D.deps l)
      have := Nat.le_max_left e.dep (D.deps m)
      omega
    have hu2 : A.units + D.deps l + D.deps m < cLine := by
      rw [D.deps, D.deps] at hu
      have := Nat.le_max_right d.dep (D.deps l)
      have := Nat.le_max_right e.dep (D.deps m)
      omega
    have E0 := eqAt_D I d e (A := A) ru rw0 h1 h3 hu1
    obtain ⟨e', he, ee⟩ := eqsAt_D I l m rus rws h2 h4 hu2
    refine ⟨fun j => match j with | 0 => d.eq e | j + 1 => e' j, fun j g1 g2 => ?_, ?_⟩
    · cases j with
      | zero => exact E0
      | succ j => exact he j (by simpa using g1) (by simpa using g2)
    · have hmin : min (u0 :: us0).length (w0 :: ws0).length = min us0.length ws0.length + 1 := by
        rw [List.length_cons, List.length_cons]
        omega
      rw [hmin, all_range_succ, D.eqs, ← ee]
      show (d.eq e && (List.range (min us0.length ws0.length)).all e' && _) = _
      rw [Bool.and_assoc]
      congr 2
      rw [Bool.eq_iff_iff]
      simp
end
end
theorem rcAt_V {A : Around} {s : Shared} {y x : V} {u v : Value} (ry : RelV y u) (rx : RelV x v) (fy : flatV y = true) (fx : flatV x = true) : SeqAt.RcAt A s u v (eqV y x) ∧ SeqAt.RcNeAt A s u v (!eqV y x) := by
  cases y <;> first | exact absurd (show false = true from fy) Bool.false_ne_true | (cases x <;> first | exact absurd (show false = true from fx) Bool.false_ne_true | skip)
  all_goals first | obtain ⟨t1, rfl⟩ := ry | cases ry
  all_goals first | obtain ⟨t2, rfl⟩ := rx | cases rx
  · exact ⟨.none_none, .none_none⟩
  · exact ⟨.none_bool _, .none_bool _⟩
  · exact ⟨.none_int _ _, .none_int _ _⟩
  · exact ⟨.none_str _ _, .none_str _ _⟩
  · exact ⟨.bool_none _, .bool_none _⟩
  · exact ⟨.bool_bool _ _, .bool_bool _ _⟩
  · exact ⟨.bool_int _ _ _, .bool_int _ _ _⟩
  · exact ⟨.bool_str _ _ _, .bool_str _ _ _⟩
  · exact ⟨.int_none _ _, .int_none _ _⟩
  · exact ⟨.int_bool _ _ _, .int_bool _ _ _⟩
  · exact ⟨.int_int _ _ _ _, .int_int _ _ _ _⟩
  · exact ⟨.int_str _ _ _ _, .int_str _ _ _ _⟩
  · exact ⟨.str_none _ _, .str_none _ _⟩
  · exact ⟨.str_bool _ _ _, .str_bool _ _ _⟩
  · exact ⟨.str_int _ _ _ _, .str_int _ _ _ _⟩
  · exact ⟨.str_str _ _ _ _, .str_str _ _ _ _⟩
section
variable {X : Cx} {pins : List (Addr × Obj)} {σ : St} {H : Hp} {s : Shared}
theorem rcAt_D (I : Inv X pins σ H s) (d e : D) {v v' : V} {u u' : Value} {A : Around} (r : RelV v u) (r' : RelV v' u') (h : Den X.K H d v) (h' : Den X.K H e v') (hu : A.units + d.dep + e.dep < cLine) :
    SeqAt.RcAt A s u u' (d.eq e) ∧ SeqAt.RcNeAt A s u u' (!d.eq e) := by
  have hu' : A.units < cLine := by omega
  match d, e, h, h', hu with
  | .fl x, .fl y, h, h', hu =>
    obtain ⟨rfl, f⟩ := h
    obtain ⟨rfl, f'⟩ := h'
    rw [D.eq]
    exact rcAt_V r r' f f'
  | .fl x, .tp m, h, h', hu =>
    obtain ⟨rfl, f⟩ := h
    obtain ⟨a, xs, rfl, hb, _⟩ := h'
    cases r'
    obtain ⟨its2, r2, p2, _⟩ := I.tuple hb
    rw [show D.eq (.fl v) (.tp m) = false by simp [D.eq]]
    cases v with
    | non => cases r; exact ⟨.none_tuple p2 hu', .none_tuple p2 hu'⟩
    | bl c => cases r; exact ⟨.bool_tuple c p2 hu', .bool_tuple c p2 hu'⟩
    | int c => obtain ⟨t, rfl⟩ := r; exact ⟨.int_tuple c t p2 hu', .int_tuple c t p2 hu'⟩
    | str c => obtain ⟨t, rfl⟩ := r; exact ⟨.str_tuple c t p2 hu', .str_tuple c t p2 hu'⟩
    | _ => exact absurd (show false = true from f) Bool.false_ne_true
  | .fl x, .ls m, h, h', hu =>
    obtain ⟨rfl, f⟩ := h
    obtain ⟨a, xs, rfl, hb, _⟩ := h'
    cases r'
    obtain ⟨its2, r2, p2, _⟩ := I.list hb
    rw [show D.eq (.fl v) (.ls m) = false by simp [D.eq]]
    have p2 := p2.isList
    cases v with
    | non => cases r; exact ⟨.none_list p2 hu', .none_list p2 hu'⟩
    | bl c => cases r; exact ⟨.bool_list c p2 hu', .bool_list c p2 hu'⟩
    | int c => obtain ⟨t, rfl⟩ := r; exact ⟨.int_list c t p2 hu', .int_list c t p2 hu'⟩
    | str c => obtain ⟨t, rfl⟩ := r; exact ⟨.str_list c t p2 hu', .str_list c t p2 hu'⟩
    | _ => exact absurd (show false = true from f) Bool.false_ne_true
  | .tp m, .fl x, h', h, hu =>
    obtain ⟨rfl, f⟩ := h
    obtain ⟨a, xs, rfl, hb, _⟩ := h'
    cases r
    obtain ⟨its2, r2, p2, _⟩ := I.tuple hb
    rw [show D.eq (.tp m) (.fl v') = false by simp [D.eq]]
    cases v' with
    | non => cases r'; exact ⟨.tuple_none p2 hu', .tuple_none p2 hu'⟩
    | bl c => cases r'; exact ⟨.tuple_bool c p2 hu', .tuple_bool c p2 hu'⟩
    | int c => obtain ⟨t, rfl⟩ := r'; exact ⟨.tuple_int c t p2 hu', .tuple_int c t p2 hu'⟩
    | str c => obtain ⟨t, rfl⟩ := r'; exact ⟨.tuple_str c t p2 hu', .tuple_str c t p2 hu'⟩
    | _ => exact absurd (show false = true from f) Bool.false_ne_true
  | .ls m, .fl x, h', h, hu =>
    obtain ⟨rfl, f⟩ := h
    obtain ⟨a, xs, rfl, hb, _⟩ := h'
    cases r
    obtain ⟨its2, r2, p2, _⟩ := I.list hb
    rw [show D.eq (.ls m) (.fl v') = false by simp [D.eq]]
    have p2 := p2.isList
    cases v' with
    | non => cases r'; exact ⟨.list_none p2 hu', .list_none p2 hu'⟩
    | bl c => cases r'; exact ⟨.list_bool c p2 hu', .list_bool c p2 hu'⟩
    | int c => obtain ⟨t, rfl⟩ := r'; exact ⟨.list_int c t p2 hu', .list_int c t p2 hu'⟩
    | str c => obtain ⟨t, rfl⟩ := r'; exact ⟨.list_str c t p2 hu', .list_str c t p2 hu'⟩
    | _ => exact absurd (show false = true from f) Bool.false_ne_true
  | .tp l, .ls m, h, h', hu =>
    obtain ⟨a, xs, rfl, h1, _⟩ := h
    obtain ⟨b, ys, rfl, h3, _⟩ := h'
    cases r
    cases r'
    obtain ⟨its, r1, p1, _⟩ := I.tuple h1
    obtain ⟨its2, r2, p2, _⟩ := I.list h3
    rw [show D.eq (.tp l) (.ls m) = false by simp [D.eq]]
    exact ⟨.tuple_list p1 p2.isList hu', .tuple_list p1 p2.isList hu'⟩
  | .ls l, .tp m, h, h', hu =>
    obtain ⟨a, xs, rfl, h1, _⟩ := h
    obtain ⟨b, ys, rfl, h3, _⟩ := h'
    cases r
    cases r'
    obtain ⟨its, r1, p1, _⟩ := I.list h1
    obtain ⟨its2, r2, p2, _⟩ := I.tuple h3
    rw [show D.eq (.ls l) (.tp m) = false by simp [D.eq]]
    exact ⟨.list_tuple p1.isList p2 hu', .list_tuple p1.isList p2 hu'⟩
  | .tp l, .tp m, h, h', hu =>
    obtain ⟨a, xs, rfl, h1, h2⟩ := h
    obtain ⟨b, ys, rfl, h3, h4⟩ := h'
    cases r
    cases r'
    obtain ⟨its, r1, p1, _⟩ := I.tuple h1
    obtain ⟨its2, r2, p2, _⟩ := I.tuple h3
    rw [D.dep, D.dep] at hu
    obtain ⟨e, he, ee⟩ := eqsAt_D (A := A.in1) I l m r1 r2 h2 h4 (by show A.units + 1 + _ + _ < _; omega)
    have hj : ∀ j (g1 : j < its.toArray.size) (g2 : j < its2.toArray.size), SeqAt.EqAt A.in1 s its.toArray[j] its2.toArray[j] (e j) := fun j g1 g2 => by
      have := he j (by simpa using g1) (by simpa using g2)
      simpa using this
    have k1 := SeqAt.RcAt.tuples p1 p2 hu' hj
    have k2 := SeqAt.RcNeAt.tuples p1 p2 hu' hj
    rw [List.size_toArray, List.size_toArray, ee] at k1 k2
    rw [D.eq]
    exact ⟨k1, k2⟩
  | .ls l, .ls m, h, h', hu =>
    obtain ⟨a, xs, rfl, h1, h2⟩ := h
    obtain ⟨b, ys, rfl, h3, h4⟩ := h'
    cases r
    cases r'
    obtain ⟨its, r1, p1, _⟩ := I.list h1
    obtain ⟨its2, r2, p2, _⟩ := I.list h3
    rw [D.dep, D.dep] at hu
    obtain ⟨e, he, ee⟩ := eqsAt_D (A := A.in1) I l m r1 r2 h2 h4 (by show A.units + 1 + _ + _ < _; omega)
    have hj : ∀ j (g1 : j < its.toArray.size) (g2 : j < its2.toArray.size), SeqAt.EqAt A.in1 s its.toArray[j] its2.toArray[j] (e j) := fun j g1 g2 => by
      have := he j (by simpa using g1) (by simpa using g2)
      simpa using this
    rw [D.eq]
    by_cases hz : its.toArray.size = its2.toArray.size
    · have k1 := SeqAt.RcAt.lists p1.isList p2.isList hz hu' hj
      have k2 := SeqAt.RcNeAt.lists p1.isList p2.isList hz hu' hj
      rw [List.size_toArray, List.size_toArray] at hz
      rw [← hz, Nat.min_self, beq_self_eq_true, Bool.and_true] at ee
      rw [List.size_toArray, ee] at k1 k2
      exact ⟨k1, k2⟩
    · have hb' : (its.length == its2.length) = false := by simpa using hz
      rw [hb', Bool.and_false] at ee
      rw [← ee]
      exact ⟨.lists_lengths p1.isList p2.isList (by simpa using hz) hu', .lists_lengths p1.isList p2.isList (by simpa using hz) hu'⟩
def rEqD (K : PySem.W.Frag) (neg : Bool) : R2 := fun x y H Q => ∃ d e, Den K H d x ∧ Den K H e y ∧ d.dep + e.dep ≤ 100 ∧ Q (.bl (if neg then !d.eq e else d.eq e)) H
theorem op_eqD (hu : X.A.units + 101 < cLine) : OpR X (compareOp .Eq) (rEqD X.K false) := by
  intro pins s σ H x y v u Q I rx ry h
  obtain ⟨d, e, h1, h2, hd, q⟩ := h
  exact (rcAt_D (A := X.A) I d e rx ry h1 h2 (by omega)).1 _ _ _ _ ⟨.bl _, H, I, rfl, q⟩
end
mutual
def DenN (Av : Addr → Prop) (H : Hp) : D → V → Prop
  | .fl x, v => v = x ∧ flatV x = true
  | .tp l, v => ∃ p xs, v = .ref p ∧ H p = some (.tup xs) ∧ DensN Av H l xs
  | .ls l, v => ∃ p xs, v = .ref p ∧ ¬ Av p ∧ H p = some (.lst xs) ∧ DensN Av H l xs
def DensN (Av : Addr → Prop) (H : Hp) : List D → List V → Prop
  | [], xs => xs = []
  | d :: l, xs => ∃ x r, xs = x :: r ∧ DenN Av H d x ∧ DensN Av H l r
end
section
variable {Av : Addr → Prop} {H H' : Hp}
mutual
theorem DenN.mono (k1 : ∀ b xs, H b = some (.tup xs) → H' b = some (.tup xs)) (k2 : ∀ b xs, ¬ Av b → H b = some (.lst xs) → H' b = some (.lst xs)) : ∀ (d : D) {v : V}, DenN Av H d v → DenN Av H' d v
  | .fl x, v, h => h
  | .tp l, v, h => by
    obtain ⟨p, xs, e, hp, t⟩ := h
    exact ⟨p, xs, e, k1 _ _ hp, DensN.mono k1 k2 l t⟩
  | .ls l, v, h => by
    obtain ⟨p, xs, e, n, hp, t⟩ := h
    exact ⟨p, xs, e, n, k2 _ _ n hp, DensN.mono k1 k2 l t⟩
theorem DensN.mono (k1 : ∀ b xs, H b = some (.tup xs) → H' b = some (.tup xs)) (k2 : ∀ b xs, ¬ Av b → H b = some (.lst xs) → H' b = some (.lst xs)) : ∀ (l : List D) {xs : List V}, DensN Av H l xs → DensN Av H' l xs
  | [], xs, h => h
  | d :: l, xs, h => by
    obtain ⟨x, r, e, h1, h2⟩ := h
    exact ⟨x, r, e, DenN.mono k1 k2 d h1, DensN.mono k1 k2 l h2⟩
end
mutual
theorem DenN.den (K : PySem.W.Frag) : ∀ (d : D) {v : V}, DenN Av H d v → Den K H d v
  | .fl x, v, h => h
  | .tp l, v, h => by
    obtain ⟨p, xs, e, hp, t⟩ := h
    exact ⟨p, xs, e, SqT.of hp, DensN.dens K l t⟩
  | .ls l, v, h => by
    obtain ⟨p, xs, e, n, hp, t⟩ := h
    exact ⟨p, xs, e, SqL.of hp, DensN.dens K l t⟩
theorem DensN.dens (K : PySem.W.Frag) : ∀ (l : List D) {xs : List V}, DensN Av H l xs → Dens K H l xs
  | [], xs, h => h
  | d :: l, xs, h => by
    obtain ⟨x, r, e, h1, h2⟩ := h
    exact ⟨x, r, e, DenN.den K d h1, DensN.dens K l h2⟩
end
mutual
theorem DenN.weak {Bv : Addr → Prop} (k : ∀ b, Bv b → Av b) : ∀ (d : D) {v : V}, DenN Av H d v → DenN Bv H d v
  | .fl x, v, h => h
  | .tp l, v, h => by
    obtain ⟨p, xs, e, hp, t⟩ := h
    exact ⟨p, xs, e, hp, DensN.weak k l t⟩
  | .ls l, v, h => by
    obtain ⟨p, xs, e, n, hp, t⟩ := h
    exact ⟨p, xs, e, fun z => n (k p z), hp, DensN.weak k l t⟩
theorem DensN.weak {Bv : Addr → Prop} (k : ∀ b, Bv b → Av b) : ∀ (l : List D) {xs : List V}, DensN Av H l xs → DensN Bv H l xs
  | [], xs, h => h
  | d :: l, xs, h => by
    obtain ⟨x, r, e, h1, h2⟩ := h
    exact ⟨x, r, e, DenN.weak k d h1, DensN.weak k l h2⟩
end
theorem DenN.fl {x : V} (h : flatV x = true := by rfl) : DenN Av H (.fl x) x := ⟨rfl, h⟩
theorem DensN.cons {d : D} {x : V} {l : List D} {xs : List V} (h : DenN Av H d x) (t : DensN Av H l xs) : DensN Av H (d :: l) (x :: xs) := ⟨x, xs, rfl, h, t⟩
theorem DensN.nil : DensN Av H [] [] := rfl
mutual
theorem DenN.refl : ∀ (d : D) {v : V}, DenN Av H d v → d.eq d = true
  | .fl x, v, h => by
    rw [D.eq]
    exact eqV_refl h.2
  | .tp l, v, h => by
    obtain ⟨p, xs, e, hp, t⟩ := h
    rw [D.eq]
    exact DensN.refl l t
  | .ls l, v, h => by
    obtain ⟨p, xs, e, n, hp, t⟩ := h
    rw [D.eq]
    exact DensN.refl l t
theorem DensN.refl : ∀ (l : List D) {xs : List V}, DensN Av H l xs → D.eqs l l = true
  | [], xs, h => by rw [D.eqs]
  | d :: l, xs, h => by
    obtain ⟨x, r, e, h1, h2⟩ := h
    rw [D.eqs, DenN.refl d h1, DensN.refl l h2]
    rfl
end
end
theorem new_of {H H1 : Hp} {p : Addr} {o : HO} (h : H p = none) (e : upd H p o = H1) : Same H H1 ∧ H1 p = some o := by
  subst e
  refine ⟨fun b u q => ?_, upd_same⟩
  rw [upd_ne (ne_of_none q h)]
  exact q
section
variable {X : Cx} {Av : Addr → Prop}
end
structure Cal (P : Program) (w : World) (K : PySem.W.Frag) (mg : Str → Option Value) (base : Heap) (CX : CXT) (k : Nat) (x : Str) (ps : List Str) (sp : Sp) : Prop where
  ex : ∃ f fd, FnOk P w K mg base CX k f fd ps sp ∧ mg x = some (.ref f) ∧ PySem.W.keepIn K (.ref f) = true ∧ Binds K fd ps []
theorem pe_c {X : Cx} {CX : CXT} {k : Nat} {x : Str} {ps : List Str} {sp : Sp} {E : XK} {e : Expr} {es : List Expr} {t : TA} {p pos : Pos} (C : Cal X.prog X.w X.K X.mg X.base CX k x ps sp) (hr : Room k X.A) (hg : Gl X x) (hx : Passes CX X E)
    (ha : PA X (e :: es) t) (hdb : (x == ("__debug__" : Str)) = false := by decide) (he : starEach (e :: es) X.env = (false, eval e X.env) :: starEach es X.env := by rfl) (hpl : (backTo pos (starEach es X.env)).any (·.1) = false := by rfl) :
    PE X (.Call (.Name x p) (e :: es) [] pos) (tCall sp [] E t) := by
  obtain ⟨f, fd, F, hm, hk, hb⟩ := C.ex
  exact pe_call F hr hg hm hk hb .nil hx ha hdb he hpl
abbrev CompOk (scope sc0 : Scope) (cap : List (Str × Nat)) (N : List Str) : Prop := scope.kind = .function ∧ (∀ y ∈ scope.names, y.2 ≠ .cell) ∧ (∀ y ∈ scope.names, y.2 = .local → scope.names.lookup y.1 = some .local) ∧
  (∀ y ∈ scope.names, y.2 = .free → sc0.names.lookup y.1 = some .cell) ∧ (∀ p ∈ cap, N[p.2]? = some p.1 ∧ scope.names.lookup p.1 = some .free ∧ sc0.names.lookup p.1 = some .cell)
section
variable {X : Cx}
theorem cs_of {scope : Scope} {cap : List (Str × Nat)} {sc0 : Scope} {N0 : List Str} (hs : X.env.scope = sc0) (hN : X.N = N0) (hcell : ∀ x, X.env.scope.names.lookup x = some .cell → ∃ c, X.env.cells.lookup x = some c) (ok : CompOk scope sc0 cap N0) : ∃ cl, CompScope X scope cap cl := by
  subst hs hN
  exact comp_scope hcell ok.1 ok.2.1 ok.2.2.1 ok.2.2.2.1 ok.2.2.2.2
theorem pe_cp {elt iter tg : Expr} {scope : Scope} {own : List Str} {cap : List (Str × Nat)} {pos : Pos} {wi : TI} {g : TG} {te : TE} (sc0 : Scope) (N0 : List Str) (hsc : X.env.scope = sc0) (hN : X.N = N0) (hcell : ∀ x, X.env.scope.names.lookup x = some .cell → ∃ c, X.env.cells.lookup x = some c)
    (ok : CompOk scope sc0 cap N0) (hc : X.calm = true) (hi : PI X tg iter wi)
    (hg : ∀ cl C s2 H2 fp, PG (cxComp X (capN own cap) scope cl C s2 H2 fp) tg g) (he : ∀ cl C s2 H2 fp, PE (cxComp X (capN own cap) scope cl C s2 H2 fp) elt te)
    (hs : ∀ x, foldedSetIterable iter X.env x = pure x := by intro _; rfl) : PE X (.ListComp elt [⟨tg, iter, [], 0⟩] scope pos) (tComp own.length cap wi g te) := by
  obtain ⟨cl, S⟩ := cs_of hsc hN hcell ok
  exact pe_comp S hc hi (hg cl) (he cl) hs
end
section
variable {X : Cx}
def CDivM (_ j : Int) : Prop := 0 < j ∧ j < 2 ^ 62
theorem op_fdivM : OpR X (binaryOp .FloorDiv) (rI CDivM fun i j => .int (i / j)) := opI fun i j _ _ _ _ _ hc q => by
  have h1 : (0 : Int) < j := hc.1
  have h2 : j < 2 ^ 62 := hc.2
  refine floordiv_int (by omega) (by rw [Int.fdiv_eq_ediv_of_nonneg i (by omega)]; exact q) (.inl (PyProof.noPylong_of_log2 ?_))
  have h3 : j.natAbs < 2 ^ 62 := by omega
  have := (Nat.log2_lt (by omega)).mpr h3
  omega
end
section
variable {X : Cx} {K : PySem.W.Frag}
end
structure Dis (P : Program) (w : World) (K : PySem.W.Frag) (mg : Str → Option Value) (base : Heap) (CX : CXT) (k : Nat) (Cs : Addr → Prop) (m : Str) (ps : List Str) (sp : Addr → Sp) : Prop where
  ex : ∀ C, Cs C → Cls K C ∧ ∃ f fd, Meth K C m f ∧ FnOk P w K mg base CX k f fd ps (sp C) ∧ Binds K fd ps []
def tMethD (Cs : Addr → Prop) (m : Str) (sp : Addr → Sp) (E : XK) (ta : TE) (t : TA) : TE := fun σ H Q => ta σ H fun x H1 => ∃ a C dx fs, x = .ref a ∧ H1 a = some (.ins C dx fs) ∧ Cs C ∧ fs.lookup m = none ∧ t σ H1 fun vs H2 => sp C (.ref a :: vs) H2 Q E
section
variable {X : Cx} {CX : CXT} {k : Nat} {Cs : Addr → Prop} {m : Str} {ps : List Str} {sp : Addr → Sp} {E : XK} {o e : Expr} {es : List Expr} {ta : TE} {t : TA} {apos pos : Pos}
theorem pe_methD {pl : Sem Bool} (he : PE X o ta) (D : Dis X.prog X.w X.K X.mg X.base CX k Cs m ps sp) (hr : Room k X.A) (hx : Passes CX X E) (ha : PA X (e :: es) t)
    (hst : starEach (e :: es) X.env = (false, eval e X.env) :: starEach es X.env := by rfl) (hpl : (backTo pos (starEach es X.env)).any (·.1) = false := by rfl)
    (ht : eval (.Call (.Attribute o m apos) (e :: es) [] pos) X.env = (do
      let ov ← eval o X.env
      standAt apos.atName
      let (f, first) ← holding [ov] (getMethod ov m pl)
      callWith pos f first (backTo pos (starEach (e :: es) X.env)) (backToKw pos (keywordEach [] X.env))) := by rfl) :
    PE X (.Call (.Attribute o m apos) (e :: es) [] pos) (tMethD Cs m sp E ta t) := by
  intro pins s σ H Q I h
  refine PySem.W.methodCall_KW (pl := pl) (thn (he pins s σ H _ I h) fun u s1 ⟨x, H1, I1, rx, a, C, dx, fs, ex, ea, hC, l, q⟩ => ?_) ht
  subst ex
  obtain rfl : u = Value.ref a := rx
  obtain ⟨c, f, fd, hm, F, hb⟩ := D.ex C hC
  refine getmeth_ok I1 ea c hm l ?_
  refine PySem.W.callWith_K (first := [.ref a]) (h₀ := X.base) I.ok.mod.kin hm.kp (thn (ha pos pins s1 σ H1 _ I1 q) fun us s2 ⟨vs, H2, I2, r, q2⟩ => ⟨I2.kIn, ?_⟩) hst hpl
  exact run_fn (us := .ref a :: us) (vs := .ref a :: vs) F hr hb .nil hx I2 (.cons rfl r) (by rw [List.append_nil]; exact q2)
end
def constV : Expr → Option V
  | .Constant (.int i) _ _ => some (.int i)
  | .Constant (.bool b) _ _ => some (.bl b)
  | .Constant (.str x) _ _ => some (.str x)
  | .Constant .none _ _ => some .non
  | .UnaryOp .USub (.Constant (.int i) _ _) _ => some (.int (-i))
  | _ => none
def constVs : List Expr → Option (List V)
  | [] => some []
  | e :: es => match constV e with
    | none => none
    | some v => match constVs es with
      | none => none
      | some vs => some (v :: vs)
def tKL (vs : List V) : TE := fun _ H Q => vs.length ≤ sizeLine ∧ ∀ p, H p = none → Q (.ref p) (upd H p (.lst vs))
section
variable {X : Cx}
theorem const_ok {e : Expr} {v : V} (h : constV e = some v) : PE X e (tC v) ∧ ∀ es, starEach (e :: es) X.env = (false, eval e X.env) :: starEach es X.env := by
  unfold constV at h
  split at h
  · cases h; exact ⟨pe_int, fun _ => rfl⟩
  · cases h; exact ⟨pe_bl, fun _ => rfl⟩
  · cases h; exact ⟨pe_str, fun _ => rfl⟩
  · cases h; exact ⟨pe_non, fun _ => rfl⟩
  · cases h
    refine ⟨fun pins s σ H Q I q => pe_un un_neg pe_int pins s σ H Q I ⟨_, rfl, q⟩, fun _ => rfl⟩
  · cases h
theorem pa_consts : ∀ {es : List Expr} {vs : List V}, constVs es = some vs → PA X es (fun _ H Q => Q vs H)
  | [], vs, h => by
    cases h
    exact pa_nil
  | e :: es, vs, h => by
    unfold constVs at h
    cases g : constV e with
    | none => rw [g] at h; cases h
    | some v =>
      cases g2 : constVs es with
      | none => rw [g, g2] at h; cases h
      | some us =>
        rw [g, g2] at h
        cases h
        obtain ⟨h1, h2⟩ := const_ok (X := X) g
        exact pa_cons h1 (pa_consts g2) (h2 es)
theorem pe_clst {es : List Expr} {vs : List V} {pos : Pos} (h : constVs es = some vs) : PE X (.List es pos) (tKL vs) := pe_lst (pa_consts h)
end
def rIsC (K : PySem.W.Frag) : List V → Hp → VK → Prop := fun xs H Q => ∃ x C t b, xs = [x, .ref C] ∧ TyOf K H x t ∧ PySem.W.kitOne K t (.ref C) = some b ∧ Q (.bl b) H
theorem call_isC {X : Cx} {K : PySem.W.Frag} (h : X.K = K) : CallR X (.builtin "isinstance") (rIsC K) := by
  subst h
  intro pins s σ H xs us Q I r h
  obtain ⟨x, C, t, b, rfl, ty, e, q⟩ := h
  obtain ⟨u, w', rfl, ru, rw'⟩ := vals2 r
  cases rw'
  exact isinst_ok I ru ty e fun tk => ⟨.bl b, H, I.tok tk, rfl, q⟩
abbrev PKey := Key × List Key
def PKy (H : Hp) (x : PKey) (b : Addr) : Prop := ∃ c, H b = some (.tup [kV x.1, .ref c]) ∧ H c = some (.tup (x.2.map kV))
def PObj (P : Program) (w : World) (a : Addr) (xs : List (PKey × Addr × Value)) (h : Heap) : Prop := (a == sysModules) = false ∧ ∃ o es ep, h.get? a = some o ∧ o.ExactDict ∧ o.data = .dict es ep ∧ es.toList = xs.map (entryOfKey (pairKind (mixKind P w))) ∧ (xs.map (·.1)).Nodup
abbrev KP (H : Hp) : List (PKey × V) → List (PKey × Addr × Value) → Prop := Paired fun p q => p.1 = q.1 ∧ PKy H p.1 q.2.1 ∧ RelV p.2 q.2.2
def PDict (P : Program) (w : World) (H : Hp) (a : Addr) (kvs : List (PKey × V)) : Prop := kvs.length ≤ sizeLine ∧ ∃ xs, H a = some (.ext (PObj P w a xs)) ∧ KP H kvs xs
theorem PKy.mono {H H' : Hp} {x : PKey} {b : Addr} (k : ∀ c ys, H c = some (.tup ys) → H' c = some (.tup ys)) (h : PKy H x b) : PKy H' x b := let ⟨c, h1, h2⟩ := h; ⟨c, k _ _ h1, k _ _ h2⟩
theorem KP.mono {H H' : Hp} {kvs : List (PKey × V)} {xs : List (PKey × Addr × Value)} (k : ∀ c ys, H c = some (.tup ys) → H' c = some (.tup ys)) (r : KP H kvs xs) : KP H' kvs xs := Paired.mapP r fun _ _ z => ⟨z.1, z.2.1.mono k, z.2.2⟩
theorem KP.val {H : Hp} {kvs : List (PKey × V)} {xs : List (PKey × Addr × Value)} (r : KP H kvs xs) (k : PKey) : RelO (valV kvs k) ((atKey xs k).map (·.2)) := by
  induction r with
  | nil => exact True.intro
  | @cons p q ps qs h t ih =>
    obtain ⟨h1, _, h2⟩ := h
    by_cases e : p.1 = k
    · have e' : q.1 = k := h1.symm.trans e
      have b : atKey (q :: qs) k = some q.2 := by simp [atKey, List.find?_cons, e']
      rw [valV_pos e, b]; exact h2
    · have e' : ¬ q.1 = k := fun z => e (h1.trans z)
      have b : atKey (q :: qs) k = atKey qs k := by simp [atKey, List.find?_cons, e']
      rw [valV_neg e, b]; exact ih
theorem KP.repl {H : Hp} {kvs : List (PKey × V)} {xs : List (PKey × Addr × Value)} (r : KP H kvs xs) (k : PKey) {y : V} {u : Value} (ry : RelV y u) : KP H (kvs.map fun kv => if kv.1 = k then (kv.1, y) else kv) (xs.map (putAt k u)) := by
  induction r with
  | nil => exact .nil
  | @cons p q ps qs h t ih =>
    rw [List.map_cons, List.map_cons]
    refine .cons ?_ ih
    obtain ⟨h1, h2, h3⟩ := h
    unfold putAt
    by_cases e : p.1 = k
    · rw [if_pos e, if_pos (h1.symm.trans e)]; exact ⟨h1, h2, ry⟩
    · rw [if_neg e, if_neg (fun z => e (h1.trans z))]; exact ⟨h1, h2, h3⟩
theorem KP.put {H : Hp} {kvs : List (PKey × V)} {xs : List (PKey × Addr × Value)} (r : KP H kvs xs) (k : PKey) {b : Addr} {y : V} {u : Value} (hb : PKy H k b) (ry : RelV y u) : KP H (putK kvs k y) (storedH xs k b u) := by
  have e : (kvs.any fun kv => decide (kv.1 = k)) = (atKey xs k).isSome := by
    rw [valV_any, (r.val k).isSome_eq, Option.isSome_map]
  unfold putK storedH
  rw [e]
  by_cases q : (atKey xs k).isSome = true
  · rw [if_pos q, if_pos q]; exact r.repl k ry
  · rw [if_neg q, if_neg q]; exact Paired.snoc r ⟨rfl, hb, ry⟩
section
variable {P : Program} {w : World} {H : Hp} {h : Heap} {a : Addr}
theorem pkey_of {x : PKey} (ok : HOk P w H h) (e : PKy H x a) : (pairKind (mixKind P w)).is h x a := by
  obtain ⟨c, e1, e2⟩ := e
  obtain ⟨_, its, r, o, h1, h2, n, h3⟩ := (show ObjOk P w H h a (.tup [kV x.1, .ref c]) from ok a _ e1)
  cases r with
  | @cons _ v _ _ r1 t =>
    cases t with
    | @cons _ v2 _ _ r2 t2 =>
      cases t2
      cases (show v2 = Value.ref c from r2)
      exact ⟨o, v, c, n, h1, h2, h3, kV_is r1, key_of ok e2⟩
theorem pd_of {kvs : List (PKey × V)} (ok : HOk P w H h) (e : PDict P w H a kvs) : kvs.length ≤ sizeLine ∧ (a == sysModules) = false ∧ ∃ xs, H a = some (.ext (PObj P w a xs)) ∧ KP H kvs xs ∧ h.DictOfH (pairKind (mixKind P w)) a xs := by
  obtain ⟨z, xs, ea, r⟩ := e
  obtain ⟨⟨y, o, es, ep, h1, h2, h3, h4, h5⟩, _, _⟩ := (show ObjOk P w H h a (.ext (PObj P w a xs)) from ok a _ ea)
  refine ⟨z, y, xs, ea, r, o, es, ep, h1, h2, h3, h4, fun x hx => ?_, h5⟩
  have all : ∀ {l : List (PKey × V)} {m : List (PKey × Addr × Value)}, KP H l m → ∀ x ∈ m, (pairKind (mixKind P w)).is h x.1 x.2.1 := by
    intro l m q
    induction q with
    | nil => intro x hx; exact nomatch hx
    | @cons p q ps qs hq t ih =>
      intro x hx
      rcases List.mem_cons.mp hx with e | hx
      · subst e
        exact pkey_of ok (by rw [← hq.1]; exact hq.2.1)
      · exact ih x hx
  exact all r x hx
end
theorem PObj.stay {P : Program} {w : World} {a : Addr} {xs : List (PKey × Addr × Value)} (h1 h2 : Heap) (p : PObj P w a xs h1) (k : ∀ o, h1.get? a = some o → h2.get? a = some o) : PObj P w a xs h2 := let ⟨y, o, es, ep, e, c⟩ := p; ⟨y, o, es, ep, k _ e, c⟩
section
variable {X : Cx} {pins : List (Addr × Obj)} {σ : St} {H : Hp} {s : Shared} {a b : Addr} {v : V} {r : Value} {kvs : List (PKey × V)} {k : PKey} {A : Around} {E : Value → Shared → Prop}
theorem p_getItem {Q : Value → Shared → Prop} (hu : A.units + 2 < cLine) (I : Inv X pins σ H s) (e : PDict X.prog X.w H a kvs) (eb : PKy H k b) (l : valV kvs k = some v) (h : ∀ w' s', Inv X pins σ H s' → RelV v w' → Q w' s') : wpAny (model X.prog X.w) A (getItem (.ref a) (.ref b)) Q E s := by
  obtain ⟨z, hd, xs, ea, rel, dd⟩ := pd_of I.hok e
  obtain ⟨w', hw, rw'⟩ := RelO.some_of (v := v) (o := (atKey xs k).map (·.2)) (by rw [← l]; exact rel.val k)
  obtain ⟨p, hp, hp2⟩ := Option.map_eq_some_iff.mp hw
  refine wpAny_getItem_heap (show A.in1.units + 1 < cLine from hu) (pkey_of I.hok eb) dd hp ?_
  rw [hp2]
  exact h w' _ (I.tok _) rw'
end
section
variable {X : Cx} {pins : List (Addr × Obj)} {σ : St} {H : Hp} {s : Shared} {a b : Addr} {kvs : List (PKey × V)} {k : PKey} {A : Around} {E : Value → Shared → Prop}
theorem pd_typeIs (I : Inv X pins σ H s) (e : PDict X.prog X.w H a kvs) : s.TypeIs (.ref a) "dict" := by
  obtain ⟨_, _, xs, _, _, o, es, ep, h1, h2, _⟩ := pd_of I.hok e
  exact ⟨o, h1, h2.1⟩
end
def tPGet (P : Program) (w : World) (td ty : TE) : TE := fun σ H Q => td σ H fun x H1 => ty σ H1 fun y H2 => ∃ a b kvs k v, x = .ref a ∧ y = .ref b ∧ PDict P w H2 a kvs ∧ PKy H2 k b ∧ valV kvs k = some v ∧ Q v H2
section
variable {X : Cx} {o i value : Expr} {pos pos' : Pos} {td ty tv : TE}
theorem pe_pget (hu : X.A.units + 2 < cLine) (ho : PE X o td) (hi : PE X i ty) (hs : NoSl i) : PE X (.Subscript o i pos) (tPGet X.prog X.w td ty) := by
  intro pins s σ H Q I h
  refine subD_of PySem.F.slot_dict_getitem.lookup hs (thn (ho pins s σ H _ I h) fun u s1 ⟨x, H1, I1, rx, q1⟩ => thn (hi pins s1 σ H1 _ I1 q1) fun iv s2 ⟨y, H2, I2, ry, a, b, kvs, k, v, ex, ey, e, eb, l, q2⟩ => ?_)
  subst ex ey
  obtain rfl : u = Value.ref a := rx
  obtain rfl : iv = Value.ref b := ry
  exact ⟨pd_typeIs I2 e, p_getItem hu I2 e eb l fun w' s3 I3 rw' => ⟨v, H2, I3, rw', q2⟩⟩
end
def tDUpd (td te : TE) : TE := fun σ H Q => td σ H fun x H1 => ∃ a, x = .ref a ∧ IsD H1 a ∧ te σ H1 fun y H2 => ∃ b kvs more, y = .ref b ∧ H2 a = some (.dK kvs) ∧ H2 b = some (.dK more) ∧ a ≠ b ∧ kvs.length + more.length ≤ 1000 ∧ Q .non (upd H2 a (.dK (mergeK kvs more)))
section
variable {X : Cx} {o e : Expr} {apos cpos : Pos} {td ty : TE}
theorem pe_dupd (ho : PE X o td) (he : PE X e ty) (m : M1 X o "update" apos e cpos) : PE X (.Call (.Attribute o "update" apos) [e] [] cpos) (tDUpd td ty) := by
  intro pins s σ H Q I h
  refine wpAny_Call_method m.base m.few m.line PySem.F.plainAttrs_dict PySem.F.slot_dict_update PySem.F.type_dict_update (thn (ho pins s σ H _ I h) fun u s1 ⟨x, H1, I1, rx, a, ex, d, q1⟩ => ?_)
  subst ex
  obtain rfl : u = Value.ref a := rx
  obtain ⟨t1, t2, _⟩ := isD_at I1 d
  refine ⟨t1, t2, ?_⟩
  rw [m.trees]
  refine Calls.callWith_builtin rfl (Calls.evalArgs_plain (Calls.spliced_cons (thn (he pins s1 σ H1 _ I1 q1) fun iv s2 ⟨y, H2, I2, ry, b, kvs, more, ey, ea, eb, ne, hl, q2⟩ => Calls.spliced_nil ?_)))
  subst ey
  obtain rfl : iv = Value.ref b := ry
  obtain ⟨z, hd, vs, rel, dd⟩ := dk_of I2.hok ea
  obtain ⟨z', hd', vs', rel', dd'⟩ := dk_of I2.hok eb
  have hz : kvs.length + more.length ≤ sizeLine := Nat.le_trans hl (by decide)
  refine call_meetsIn PySem.F.slot_dict_update dd.typeIs PySem.F.entry_dict_update (PySem.F.args_dict_update_2 _ _) (meets_dict_update (mixKind X.prog X.w) a b ne hd') ⟨vs, vs', dd, dd', by rw [← rel.length, ← rel'.length]; exact hz, fun h' dn _ hs => ?_⟩
  have hx : ∃ q, h'.get? a = some q := let ⟨q, _, _, hq, _⟩ := dn; ⟨q, hq⟩
  exact ⟨.non, _, d_write (t' := s2.toks) I2 (by rw [ea]; exact True.intro) hs hx (dk_new (Nat.le_trans (length_mergeK more kvs) hz) hd (rel'.merge rel) dn), rfl, q2⟩
def CMulB (i j : Int) : Prop := i.natAbs < 2 ^ 2000 ∧ j.natAbs < 2 ^ 2000
theorem bits_B {i : Int} (h : i.natAbs < 2 ^ 2000) : Builtin.Int.intBits i ≤ 2000 := by
  unfold Builtin.Int.intBits
  split
  · exact Nat.zero_le _
  · rename_i hn
    have h0 : i.natAbs ≠ 0 := fun z => hn (by rw [Int.natAbs_eq_zero.mp z]; rfl)
    exact (Nat.log2_lt h0).mpr h
theorem CMulB.ok {i j : Int} (h : CMulB i j) : IntMulOk i j := by
  have h1 := bits_B h.1
  have h2 := bits_B h.2
  unfold IntMulOk
  intro z
  rw [Bool.and_eq_true] at z
  have z2 := z.2
  unfold Builtin.Int.intTooBig at z2
  have z3 := of_decide_eq_true z2
  have : (4000 : Int) ≤ bitsLine := by decide
  omega
theorem op_mulB : OpR X (binaryOp .Mult) (rI CMulB fun i j => .int (i * j)) := opI fun _ _ _ _ _ _ _ hc q => mul_int q hc.ok
end
end L2
namespace PySem
open Sem (wp)
namespace F
theorem entry_dict_update_loop : entryFor table "dict.update.loop" = some Builtin.«dict.update.loop» := entryFor_of_tree (by kernel_rfl)
theorem plain_dict_update_loop : plainId "dict.update.loop" = true := by decide +kernel
theorem miss_list_keys : typeLookup (.type "list") "keys" = pure none := by rw [typeLookup_type, builtinLookup_eq_fast]; kernel_rfl
end F
section
variable {prog : Program} {w : World} {K : Type} [DecidableEq K] {knd : HeapKind prog w K}
theorem storedH_len (xs : List (K × Addr × Value)) (k : K) (a : Addr) (v : Value) : (storedH xs k a v).length ≤ xs.length + 1 := by
  unfold storedH
  split
  · rw [List.length_map]; omega
  · rw [List.length_append]; exact Nat.le_refl _
theorem storedH_mem {xs : List (K × Addr × Value)} {k : K} {a : Addr} {v : Value} {x : K × Addr × Value} (h : x ∈ storedH xs k a v) : (∃ y ∈ xs, x.1 = y.1 ∧ x.2.1 = y.2.1) ∨ (x.1 = k ∧ x.2.1 = a) := by
  unfold storedH at h
  split at h
  · obtain ⟨y, hy, rfl⟩ := List.mem_map.mp h
    refine .inl ⟨y, hy, ?_⟩
    unfold putAt
    split <;> exact ⟨rfl, rfl⟩
  · rcases List.mem_append.mp h with h | h
    · exact .inl ⟨x, h, rfl, rfl⟩
    · simp only [List.mem_singleton] at h
      subst h
      exact .inr ⟨rfl, rfl⟩
def stAll (L : List (K × Addr × Value)) : List (K × Addr × Value) := L.foldl (fun xs x => storedH xs x.1 x.2.1 x.2.2) []
theorem stAll_snoc (L : List (K × Addr × Value)) (x : K × Addr × Value) : stAll (L ++ [x]) = storedH (stAll L) x.1 x.2.1 x.2.2 := by unfold stAll; rw [List.foldl_append]; rfl
theorem stAll_len : ∀ (n : Nat) (L : List (K × Addr × Value)), L.length = n → (stAll L).length ≤ n
  | 0, L, h => by rw [List.length_eq_zero_iff.mp h]; exact Nat.le_refl _
  | n + 1, L, h => by
    obtain ⟨M, x, rfl⟩ : ∃ M x, L = M ++ [x] := ⟨L.dropLast, L.getLast (by intro z; rw [z] at h; cases h), (List.dropLast_concat_getLast _).symm⟩
    rw [List.length_append, List.length_singleton] at h
    rw [stAll_snoc]
    have := stAll_len n M (by omega)
    have := storedH_len (stAll M) x.1 x.2.1 x.2.2
    omega
theorem stAll_is {h : Heap} : ∀ (n : Nat) (L : List (K × Addr × Value)), L.length = n → (∀ x ∈ L, knd.is h x.1 x.2.1) → ∀ x ∈ stAll L, knd.is h x.1 x.2.1
  | 0, L, e, _, x, hx => by rw [List.length_eq_zero_iff.mp e] at hx; exact nomatch hx
  | n + 1, L, e, hL, x, hx => by
    obtain ⟨M, y, rfl⟩ : ∃ M x, L = M ++ [x] := ⟨L.dropLast, L.getLast (by intro z; rw [z] at e; cases e), (List.dropLast_concat_getLast _).symm⟩
    rw [List.length_append, List.length_singleton] at e
    rw [stAll_snoc] at hx
    rcases storedH_mem hx with ⟨z, hz, e1, e2⟩ | ⟨e1, e2⟩
    · rw [e1, e2]
      exact stAll_is n M (by omega) (fun u hu => hL u (List.mem_append_left _ hu)) z hz
    · rw [e1, e2]
      exact hL y (List.mem_append_right _ (List.mem_singleton.mpr rfl))
def Heap.DObj (h : Heap) (knd : HeapKind prog w K) (d : Addr) (xs : List (K × Addr × Value)) : Prop := ∃ o es ep, h.get? d = some o ∧ o.ExactDict ∧ o.data = .dict es ep ∧ es.toList = xs.map (entryOfKey knd) ∧ (xs.map (·.1)).Nodup
def Heap.TwoAt (h : Heap) (p : Addr) (x y : Value) : Prop := ∃ o n, h.get? p = some o ∧ o.cls = .type "tuple" ∧ o.data = .seq #[x, y] n
variable {A : Around} {R : Result → Shared → Prop} {I : Addr} {fp wr : List Addr} {G : Array GenState → Array GenState → Prop} {n : Nat} {P : Nat → Value → Prop} {St : Nat → Shared → Prop}
theorem codeAny_dict_update_loopH (W : WalksS prog w A.in1 I fp wr G n P St) (d : Addr) (hSf : d ∉ fp) {h₀ : Heap} (hd₀ : h₀.get? d = none) (hw₀ : ∀ b ∈ wr, h₀.get? b = none) (hro : knd.room A.in1)
    (mono : ∀ h' x a, knd.is h₀ x a → (∀ b o, h₀.get? b = some o → h'.get? b = some o) → knd.is h' x a)
    (L : List (K × Addr × Value)) (hL : L.length = n) (hn : n ≤ sizeLine) (hk : ∀ x ∈ L, knd.is h₀ x.1 x.2.1) (hv : ∀ i v, P i v → ∃ x p, L[i]? = some x ∧ v = .ref p ∧ h₀.TwoAt p (.ref x.2.1) x.2.2) :
    ∀ (k i : Nat) (s : Shared) (ti : Tok), n - i = k → i ≤ n → St i s → (∀ b o, h₀.get? b = some o → s.heap.get? b = some o) → s.heap.DObj knd d (stAll (L.take i)) →
      (∀ s', Moved (d :: wr) G s s' → s'.heap.DObj knd d (stAll L) → R (.ok (.ret .none)) s') →
      codeAny (model prog w) A (.builtin "dict.update.loop" ⟨[.ref d, .ref I, .int (i : Int) ti, .none], []⟩) R s := by
  have hdw : d ∉ wr := fun h => hSf (W.sub _ h)
  have hsub : ∀ b ∈ wr, b ∈ d :: wr := fun b hb => List.mem_cons_of_mem _ hb
  intro k
  induction k with
  | zero =>
    intro i s ti hki hi hst hold hS hR
    have hin : i = n := by omega
    subst hin
    refine codeAny_builtin F.entry_dict_update_loop ?_
    rw [Around.under_plainId F.plain_dict_update_loop _]
    show wpAny _ A.in1 (pyNext (.ref I) >>= _) _ _ s
    refine wpAny_bind (W.done s _ _ hst fun s' hm => ?_)
    show wpAny _ A.in1 (Builtin.Dict.addKeywords d [] >>= fun _ => ret Value.none) _ _ s'
    refine wpAny_bind (wpAny_pure (wpAny_pure (hR s' (hm.mono hsub) ?_)))
    obtain ⟨o, es, ep, ho, rest⟩ := hS
    rw [List.take_of_length_le (Nat.le_of_eq hL)] at rest
    exact ⟨o, es, ep, hm.heap d _ hdw ho, rest⟩
  | succ k ih =>
    intro i s ti hki hi hst hold hS hR
    have hlt : i < n := by omega
    refine codeAny_builtin F.entry_dict_update_loop ?_
    rw [Around.under_plainId F.plain_dict_update_loop _]
    show wpAny _ A.in1 (pyNext (.ref I) >>= _) _ _ s
    refine wpAny_bind (W.item i s _ _ hlt hst fun v s' hP hst' hm => ?_)
    obtain ⟨x, p, hx, rfl, ot, m, hot, hct, hdt⟩ := hv i v hP
    have hold' : ∀ b o, h₀.get? b = some o → s'.heap.get? b = some o := fun b o e => hm.heap b o (fun z => by rw [hw₀ b z] at e; cases e) (hold b o e)
    have hot' := hold' _ _ hot
    have hT : s'.TypeIs (.ref p) "tuple" := ⟨ot, hot', hct⟩
    have mx : x ∈ L := List.mem_of_getElem? hx
    show wpAny _ A.in1 (holding [Value.ref p] _ >>= _) _ _ s'
    refine wpAny_bind (wpAny_holding ?_)
    refine wpAny_bind (wpAny_tryCatch ?_)
    unfold Builtin.Dict.pairItems
    refine wpAny_bind (wpAny_typeOf hT ?_)
    rw [if_pos (by decide)]
    refine wpAny_bind (wpAny_seqItems hot' hdt (wpAny_pure ?_))
    show wpAny _ A.in1 (holding [Value.ref x.2.1, x.2.2] (dictSet d (.ref x.2.1) x.2.2)) _ _ s'
    refine wpAny_holding ?_
    have hi' : (L.take i).length = i := by rw [List.length_take]; omega
    have hS' : s'.heap.DictOfH knd d (stAll (L.take i)) := by
      obtain ⟨o, es, ep, ho, h1, h2, h3, h4⟩ := hS
      refine ⟨o, es, ep, hm.heap d _ hdw ho, h1, h2, h3, fun y hy => mono _ _ _ ?_ hold', h4⟩
      exact stAll_is i (L.take i) hi' (fun u hu => hk u (List.mem_of_mem_take hu)) y hy
    have ls := stAll_len i (L.take i) hi'
    refine wpAny_dictSet_heap (hsz := by omega) hro (mono _ _ _ (hk x mx) hold') hS' fun h' hd' hsb => ?_
    have et : stAll (L.take (i + 1)) = storedH (stAll (L.take i)) x.1 x.2.1 x.2.2 := by
      rw [List.take_succ, hx]
      exact stAll_snoc _ _
    have nd : ∀ b o, h₀.get? b = some o → b ≠ d := fun b o e z => by rw [z, hd₀] at e; cases e
    refine wpAny_pure ⟨plainId_quiet F.plain_dict_update_loop _, ih (i + 1) _ _ (by omega) hlt (W.frame _ s' _ _ hst' (Nat.le_add_right _ _) fun b hb o e => ?_) (fun b o e => (hsb.2 b (nd b o e)).trans (hold' b o e)) ?_ fun s'' hm'' hS'' => ?_⟩
    · rw [hsb.2 b (fun h : b = d => hSf (by rw [← h]; exact hb))]; exact e
    · rw [et]
      obtain ⟨o, es, ep, h1, h2, h3, h4, _, h5⟩ := hd'
      exact ⟨o, es, ep, h1, h2, h3, h4, h5⟩
    · refine hR s'' (Moved.trans W.gtrans ((hm.mono hsub).then_heap (Nat.le_add_right _ _) fun b o hb e => ?_) hm'') hS''
      rw [hsb.2 b (fun h : b = d => hb (by rw [h]; exact List.mem_cons_self))]; exact e
end
section
variable {prog : Program} {w : World} {K : Type} [DecidableEq K] {knd : HeapKind prog w K} {A : Around} {E : Value → Shared → Prop} {s : Shared}
theorem call_dict_pairs {l : Addr} {items : Array Value} {k : Nat} {Q : Value → Shared → Prop} (hh : A.handled = none) (hl : s.heap.get? l = some { cls := .type "list", data := .seq items k }) (hro : knd.room A.in1.in1)
    (mono : ∀ h' x a, knd.is s.heap x a → (∀ b o, s.heap.get? b = some o → h'.get? b = some o) → knd.is h' x a)
    (L : List (K × Addr × Value)) (hL : L.length = items.size) (hn : items.size ≤ sizeLine) (hk : ∀ x ∈ L, knd.is s.heap x.1 x.2.1) (hv : ∀ (i : Nat) (v : Value), items[i]? = some v → ∃ x p, L[i]? = some x ∧ v = .ref p ∧ s.heap.TwoAt p (.ref x.2.1) x.2.2)
    (h : ∀ h' tk, h'.DObj knd s.heap.objs.size (stAll L) → (∀ b o, s.heap.get? b = some o → h'.get? b = some o) → Q (.ref s.heap.objs.size) { s with heap := h', toks := tk }) :
    wpAny (model prog w) A (call (.type "dict") [.ref l]) Q E s := by
  refine callType_codes (Q₁ := fun obj s₁ => obj = .ref s.heap.objs.size ∧ s₁ = { s with heap := s.heap.push { cls := .type "dict", data := .dict #[] } }) F.kt_called_dict (F.kt_typeCall_dict_1 _) F.entry_dict_init (kt_code_dict_new _ ⟨rfl, rfl⟩) ?_
  rintro obj s₁ ⟨rfl, rfl⟩
  have hnew : (s.heap.push { cls := .type "dict", data := .dict #[] }).DictOfH knd s.heap.objs.size [] := Heap.DictOfH.new s.heap
  have hl' : (s.heap.push { cls := .type "dict", data := .dict #[] }).get? l = some { cls := .type "list", data := .seq items k } := Heap.get?_push_of_some _ hl
  have hT : Shared.TypeIs { s with heap := s.heap.push { cls := .type "dict", data := .dict #[] } } (.ref l) "list" := ⟨_, hl', rfl⟩
  refine ⟨hnew.typeIs, F.args_dict_init_2 _ _, ?_⟩
  unfold Builtin.«dict.__init__»
  refine wpAny_bind ?_
  unfold Builtin.Dict.selfAndRest
  refine wpAny_bind (wpAny_notOrdered_dict hnew.typeIs ?_)
  show wpAny _ _ (pure (s.heap.objs.size, [Value.ref l])) _ _ _
  refine wpAny_pure ?_
  show wpAny _ _ (Builtin.Dict.updateFrom "dict.__init__" s.heap.objs.size (.ref l) [] .none) _ _ _
  unfold Builtin.Dict.updateFrom
  refine wpAny_bind (wpAny_typeOf hT ?_)
  rw [if_pos (by decide)]
  refine wpAny_bind (getAttrQ_miss_list hl' rfl rfl rfl F.miss_list_keys (by decide) hh fun h1 tk e hx => ?_)
  have k1 : ∀ b o, (s.heap.push { cls := .type "dict", data := .dict #[] }).get? b = some o → h1.get? b = some o := hx.keeps
  simp only [Option.isNone_none, if_true]
  refine wpAny_bind (wpAny_rule ?_)
  have hl1 : h1.IsList l items := ⟨_, k1 _ _ hl', rfl, k, rfl⟩
  refine wpAny_bind (wpAny_pyIter_list hl1 ?_)
  have hld : l < s.heap.objs.size := Heap.lt_size hl
  have hd1 : h1.get? s.heap.objs.size = some { cls := .type "dict", data := .dict #[] } := k1 _ _ (Heap.get?_push_size _ rfl)
  have hds : s.heap.objs.size < h1.objs.size := Heap.lt_size hd1
  have hls : l < h1.objs.size := Nat.lt_trans hld hds
  refine wpAny_bind (wpAny_pure (wpAny_pure ⟨plainId_quiet F.plain_dict_update_loop _, ?_⟩))
  have hh3 : A.in1.in1.handled = none := by simp [hh]
  have hneI : l ≠ h1.objs.size := Nat.ne_of_lt hls
  have hSf : s.heap.objs.size ∉ [h1.objs.size, l] := by
    simp only [List.mem_cons, List.not_mem_nil, or_false, not_or]
    exact ⟨Nat.ne_of_lt hds, Nat.ne_of_gt hld⟩
  refine codeAny_dict_update_loopH (knd := knd) (h₀ := s.heap) ((Walks.list hh3 _ l hneI items).toS) s.heap.objs.size hSf (Heap.get?_none_of_le (Nat.le_refl _)) (fun b hb => ?_) hro mono L hL hn hk hv (items.size - 0) 0 _ _ rfl (Nat.zero_le _)
    ⟨⟨_, Heap.get?_push_size _ rfl, rfl, rfl⟩, (hl1.push _)⟩ (fun b o e => Heap.get?_push_of_some _ (k1 _ _ (Heap.get?_push_of_some _ e))) ?_ fun s' hm hS' => ?_
  · rw [List.mem_singleton.mp hb]
    exact Heap.get?_none_of_le (Nat.le_of_lt hds)
  · exact ⟨_, #[], 0, Heap.get?_push_of_some _ hd1, ⟨rfl, rfl, rfl⟩, rfl, rfl, List.nodup_nil⟩
  · obtain ⟨h', g', d', tk', os'⟩ := s'
    have eg : g' = s.gens := hm.gens
    have ed : d' = s.drawn := hm.drawn
    have eo : os' = s.os := hm.os
    subst eg; subst ed; subst eo
    refine ⟨rfl, h h' tk' hS' fun b o e => ?_⟩
    have hb : b < s.heap.objs.size := Heap.lt_size e
    exact hm.heap b o (by simp only [List.mem_cons, List.not_mem_nil, or_false, not_or]; exact ⟨Nat.ne_of_lt hb, Nat.ne_of_lt (Nat.lt_trans hb hds)⟩) (Heap.get?_push_of_some _ (k1 _ _ (Heap.get?_push_of_some _ e)))
end
end PySem
namespace L2
open PySem PySem.Spec PyProof.Rows
theorem pair_mono {P : Program} {w : World} {h h' : Heap} {x : PKey} {a : Addr} (e : (pairKind (mixKind P w)).is h x a) (k : ∀ b o, h.get? b = some o → h'.get? b = some o) : (pairKind (mixKind P w)).is h' x a := by
  obtain ⟨o, v, b, n, h1, h2, h3, h4, o', its, m, g1, g⟩ := e
  exact ⟨o, v, b, n, k _ _ h1, h2, h3, h4, o', its, m, k _ _ g1, g⟩
def dAll (kvs : List (PKey × V)) : List (PKey × V) := kvs.foldl (fun d x => putK d x.1 x.2) []
def PrL (H : Hp) : List V → List (PKey × V) → Prop := Paired fun v x => ∃ p b, v = .ref p ∧ H p = some (.tup [.ref b, x.2]) ∧ PKy H x.1 b
def rDictP (P : Program) (w : World) : List V → Hp → VK → Prop := fun xs H Q => ∃ l vs kvs, xs = [.ref l] ∧ H l = some (.lst vs) ∧ PrL H vs kvs ∧ ∀ d H', H d = none → Same H H' → (∀ b, b ≠ d → H' b = H b) → PDict P w H' d (dAll kvs) → Q (.ref d) H'
theorem prl_objs {P : Program} {w : World} {H : Hp} {h : Heap} (hok : HOk P w H h) : ∀ {vs : List V} {kvs : List (PKey × V)} {its : List Value}, PrL H vs kvs → Vals vs its →
    ∃ L : List (PKey × Addr × Value), KP H kvs L ∧ L.length = its.length ∧ ∀ (i : Nat) (v : Value), its[i]? = some v → ∃ x p, L[i]? = some x ∧ v = .ref p ∧ h.TwoAt p (.ref x.2.1) x.2.2
  | _, _, _, .nil, .nil => ⟨[], .nil, rfl, fun i v e => by simp at e⟩
  | _, _, _, .cons (a := v) (b := x) hx t, .cons (b := u) r rs => by
    obtain ⟨L, h1, h2, h3⟩ := prl_objs hok t rs
    obtain ⟨p, b, rfl, e1, e2⟩ := hx
    obtain rfl : u = Value.ref p := r
    obtain ⟨_, its, ri, o, g1, g2, n, g3⟩ := (show ObjOk P w H h p (.tup [.ref b, x.2]) from hok p _ e1)
    cases ri with
    | @cons _ v1 _ _ r1 ri =>
      cases ri with
      | @cons _ v2 _ _ r2 ri =>
        cases ri
        obtain rfl : v1 = Value.ref b := r1
        refine ⟨(x.1, b, v2) :: L, .cons ⟨rfl, e2, r2⟩ h1, by rw [List.length_cons, List.length_cons, h2], fun i v e => ?_⟩
        cases i with
        | zero =>
          obtain rfl : Value.ref p = v := by simpa using e
          exact ⟨_, p, rfl, rfl, o, n, g1, g2, g3⟩
        | succ i => exact h3 i v (by simpa using e)
theorem kp_fold {H : Hp} : ∀ {kvs : List (PKey × V)} {L : List (PKey × Addr × Value)} {a : List (PKey × V)} {b : List (PKey × Addr × Value)}, KP H kvs L → KP H a b → KP H (kvs.foldl (fun d x => putK d x.1 x.2) a) (L.foldl (fun xs x => storedH xs x.1 x.2.1 x.2.2) b)
  | _, _, _, _, .nil, h => h
  | _, _, _, _, .cons (a := x) (b := y) hx t, h => by
    rw [List.foldl_cons, List.foldl_cons]
    obtain ⟨e1, e2, e3⟩ := hx
    refine kp_fold t ?_
    rw [← e1]
    exact h.put x.1 e2 e3
theorem call_dictP {X : Cx} (hc : X.calm = true) (hu : X.A.units + 4 < cLine) : CallR X (.type "dict") (rDictP X.prog X.w) := by
  intro pins s σ H xs us Q I r h
  obtain ⟨l, vs, kvs, rfl, hl, hp, q⟩ := h
  obtain ⟨u, rfl, ru⟩ := vals1 r
  obtain rfl : u = Value.ref l := ru
  obtain ⟨z, its, n, rv, hg⟩ := (show ObjOk X.prog X.w H s.heap l (.lst vs) from I.hok l _ hl)
  obtain ⟨L, h1, h2, h3⟩ := prl_objs I.hok hp rv
  have lz : its.length ≤ sizeLine := by rw [← rv.length]; exact z
  have hk : ∀ x ∈ L, (pairKind (mixKind X.prog X.w)).is s.heap x.1 x.2.1 := by
    have all : ∀ {k : List (PKey × V)} {m : List (PKey × Addr × Value)}, KP H k m → ∀ x ∈ m, (pairKind (mixKind X.prog X.w)).is s.heap x.1 x.2.1 := by
      intro k m g
      induction g with
      | nil => intro x hx; exact nomatch hx
      | @cons p y ps qs hq t ih =>
        intro x hx
        rcases List.mem_cons.mp hx with e | hx
        · subst e
          exact pkey_of I.hok (by rw [← hq.1]; exact hq.2.1)
        · exact ih x hx
    exact all h1
  refine call_dict_pairs (knd := pairKind (mixKind X.prog X.w)) (I.ok.hd hc) hg (show X.A.in1.in1.units + 1 < cLine by show X.A.units + 1 + 1 + 1 < cLine; omega) (fun h' x a e k => pair_mono e k) L (by rw [h2, List.size_toArray]) (by rw [List.size_toArray]; exact lz) hk (fun i v e => h3 i v (by simpa using e)) fun h' tk hd hk' => ?_
  obtain ⟨o, es, ep, g1, g2, g3, g4, g5⟩ := hd
  have fr : H s.heap.objs.size = none := I.hok.fresh (Nat.le_refl _)
  have lk := kp_fold (a := []) (b := []) h1 .nil
  have hpo : PObj X.prog X.w s.heap.objs.size (stAll L) h' := ⟨beq_eq_false_iff_ne.mpr (Ne.symm (Nat.ne_of_lt I.big)), o, es, ep, g1, g2, g3, g4, g5⟩
  have ok : ObjOk X.prog X.w (upd H s.heap.objs.size (.ext (PObj X.prog X.w s.heap.objs.size (stAll L)))) h' s.heap.objs.size (.ext (PObj X.prog X.w s.heap.objs.size (stAll L))) := ⟨hpo, ⟨o, g1⟩, fun a b p k => PObj.stay a b p k⟩
  have J := I.laid (a := s.heap.objs.size) (o := .ext (PObj X.prog X.w s.heap.objs.size (stAll L))) (t' := tk) hk' (Nat.le_refl _) ok
  have sm : Same H (upd H s.heap.objs.size (.ext (PObj X.prog X.w s.heap.objs.size (stAll L)))) := fun b u e => by rw [upd_ne (ne_of_none e fr)]; exact e
  refine ⟨.ref s.heap.objs.size, _, J, rfl, q _ _ fr sm (fun b nb => upd_ne nb) ⟨?_, stAll L, upd_same, KP.mono (fun c ys e => sm _ _ e) lk⟩⟩
  have e1 : (dAll kvs).length = (stAll L).length := Paired.length lk
  have := stAll_len L.length L rfl
  omega
end L2
namespace L2
open PySem PySem.Spec PySem.Calls PyProof.Rows
def CodO (c : Addr) (q : Str) : HO := .ext fun h => h.CodeRec (.ref c) q
def LamO (f : Addr) (o : Obj) : HO := .ext fun h => h.get? f = some o
theorem codO_ok {P : Program} {w : World} {H : Hp} {h : Heap} {c : Addr} {q : Str} (e : h.CodeRec (.ref c) q) : ObjOk P w H h c (CodO c q) := by
  refine ⟨e, ?_, fun h1 h2 p k => ?_⟩
  · obtain ⟨c', o, vs, t, e1, e2, _⟩ := e
    cases e1
    exact ⟨o, e2⟩
  · obtain ⟨c', o, vs, t, e1, e2, r⟩ := p
    cases e1
    exact ⟨c, o, vs, t, rfl, k _ e2, r⟩
theorem lamO_ok {P : Program} {w : World} {H : Hp} {h : Heap} {f : Addr} {o : Obj} (e : h.get? f = some o) : ObjOk P w H h f (LamO f o) := ⟨e, ⟨o, e⟩, fun _ _ p k => k _ p⟩
def Tab (H : Hp) (P : Addr) (pos : Pos) (q : Str) : Prop := ∃ ps, H P = some (.tbl ps) ∧ TriplesOk ps.toList ∧ (codeAmong pos ps.toList = none ∨ ∃ c, codeAmong pos ps.toList = some (.ref c) ∧ H c = some (CodO c q))
def KpP (P : Addr) (H H' : Hp) : Prop := ∀ b o, b ≠ P → H b = some o → H' b = some o
theorem KpP.of {P : Addr} {H H' : Hp} (s : Same H H') : KpP P H H' := fun b o _ e => s b o e
theorem KpP.trans {P : Addr} {H H1 H2 : Hp} (a : KpP P H H1) (b : KpP P H1 H2) : KpP P H H2 := fun c o n e => b c o n (a c o n e)
theorem Tab.same {H H' : Hp} {P : Addr} {pos : Pos} {q : Str} (s : Same H H') (t : Tab H P pos q) : Tab H' P pos q := by
  obtain ⟨ps, e, ok, c⟩ := t
  refine ⟨ps, s _ _ e, ok, ?_⟩
  rcases c with c | ⟨c', e1, e2⟩
  · exact .inl c
  · exact .inr ⟨c', e1, s _ _ e2⟩
theorem Tab.ne {H : Hp} {P : Addr} {pos : Pos} {q : Str} (t : Tab H P pos q) {b : Addr} {o : HO} (e : H b = some o) (n : ∀ ps, o ≠ .tbl ps) : b ≠ P := by
  rintro rfl
  obtain ⟨ps, z, _⟩ := t
  rw [e] at z
  exact n ps (Option.some.inj z)
def BltM (mg : Str → Option Value) (h : Heap) : Prop := ∃ bm ob, mg "__builtins__" = some (.ref bm) ∧ bm ≠ builtinsNs ∧ h.get? bm = some ob ∧ ob.cls = .type "module" ∧ ob.dict = some builtinsNs ∧ ob.data = .plain
def tLam (P : Addr) (pos : Pos) (q : Str) (o : Addr → Value → Obj) : TE := fun _ H Q => Tab H P pos q ∧ ∀ c' f ctv H', KpP P H H' → Tab H' P pos q → H' c' = some (CodO c' q) → H' f = some (LamO f (o c' ctv)) → H f = none → Q (.ref f) H'
section
variable {X : Cx} {params : Arguments} {body : Expr} {scope : Scope} {pos : Pos} {clos : List (Str × Addr)} {c P : Addr}
theorem lam_laid {pins : List (Addr × Obj)} {σ : St} {H : Hp} {s : Shared} {ps more : Array Value} {c' : Addr} {qual : Str} {o : Obj} {h' : Heap} {tk : Tok} (I : Inv X pins σ H s) (hP : H P = some (.tbl ps)) (hx : Heap.ExtBut P s.heap h') (hge : s.heap.objs.size ≤ c') (hlt : c' < h'.objs.size)
    (hrec : h'.CodeRec (.ref c') qual) (htb : h'.get? P = some (PySem.W.tabObj (ps ++ more))) (hof : o.isFreed = false) :
    Inv X pins σ (upd (upd (upd H P (.tbl (ps ++ more))) c' (CodO c' qual)) h'.objs.size (LamO h'.objs.size o)) { s with heap := h'.push o, toks := tk } := by
  have ltP : P < s.heap.objs.size := I.hok.lt hP
  have neq : ∀ b u, H b = some u → b ≠ c' ∧ b ≠ h'.objs.size := fun b u e => by
    have l : b < s.heap.objs.size := I.hok.lt e
    constructor
    · exact Nat.ne_of_lt (Nat.lt_of_lt_of_le l hge)
    · exact Nat.ne_of_lt (Nat.lt_trans (Nat.lt_of_lt_of_le l hge) hlt)
  have neq2 : ∀ b ob, s.heap.get? b = some ob → b ≠ c' ∧ b ≠ h'.objs.size := fun b ob e => by
    have l : b < s.heap.objs.size := Heap.lt_size e
    constructor
    · exact Nat.ne_of_lt (Nat.lt_of_lt_of_le l hge)
    · exact Nat.ne_of_lt (Nat.lt_trans (Nat.lt_of_lt_of_le l hge) hlt)
  have keep : ∀ b ob, b ≠ P → s.heap.get? b = some ob → (h'.push o).get? b = some ob := fun b ob n e => Heap.get?_push_of_some _ (hx b ob n e)
  have nP : ∀ b, H b = none → b ≠ P := fun b e => by rintro rfl; rw [hP] at e; cases e
  have atH : ∀ b u, b ≠ P → H b = some u → (upd (upd (upd H P (.tbl (ps ++ more))) c' (CodO c' qual)) h'.objs.size (LamO h'.objs.size o)) b = some u := fun b u n e => by
    rw [upd_ne (neq b u e).2, upd_ne (neq b u e).1, upd_ne n]; exact e
  have atP : (upd (upd (upd H P (.tbl (ps ++ more))) c' (CodO c' qual)) h'.objs.size (LamO h'.objs.size o)) P = some (.tbl (ps ++ more)) := by
    rw [upd_ne (neq P _ hP).2, upd_ne (neq P _ hP).1, upd_same]
  refine I.un ⟨fun b ob e n _ _ => keep b ob (nP b n) e, fun b ob e n _ _ => ⟨ob.slots, keep b ob (nP b n) e⟩, fun b ob e n _ => ?_, fun b ob e _ => ?_, fun b xs e => ?_, fun b ob u e => ?_, fun b qs e => ?_⟩ fun b u e => ?_
  · rw [upd_ne (neq2 b ob e).2, upd_ne (neq2 b ob e).1, upd_ne (nP b n)]; exact n
  · by_cases hb : b = P
    · subst hb
      exact ⟨_, Heap.get?_push_of_some _ htb⟩
    · exact ⟨ob, keep b ob hb e⟩
  · exact atH b _ (fun z => by subst z; rw [hP] at e; cases e) e
  · exact atH b _ (fun z => by subst z; rw [hP] at e; cases e) e
  · by_cases hb : b = P
    · subst hb
      rw [hP] at e
      cases e
      exact ⟨more, atP⟩
    · exact ⟨#[], by rw [atH b _ hb e, Array.append_empty]⟩
  · by_cases h1 : b = h'.objs.size
    · subst h1
      rw [upd_same] at e
      cases e
      exact lamO_ok (Heap.get?_push_size _ hof)
    · rw [upd_ne h1] at e
      by_cases h2 : b = c'
      · subst h2
        rw [upd_same] at e
        cases e
        obtain ⟨c2, oc, vs, t, e1, e2, r⟩ := hrec
        exact codO_ok ⟨c2, oc, vs, t, e1, Heap.get?_push_of_some _ e2, r⟩
      · rw [upd_ne h2] at e
        by_cases h3 : b = P
        · subst h3
          rw [upd_same] at e
          cases e
          exact (show (h'.push o).get? b = some _ from Heap.get?_push_of_some _ htb)
        · rw [upd_ne h3] at e
          refine (I.hok b u e).stay (fun a ob ha q => ?_) (fun a q => ?_) fun a xs q => ?_
          · refine keep a ob ?_ q
            rcases ha with rfl | ha
            · exact h3
            · rintro rfl; rw [hP] at ha; cases ha
          · exact atH a _ (fun z => by subst z; rw [hP] at q; cases q) q
          · exact atH a _ (fun z => by subst z; rw [hP] at q; cases q) q
theorem pe_lam (hC : PySem.W.CodeHd X.base c P) (hcode : X.env.code = .ref c) (hB : BltM X.mg X.base) (hdef : defaultsOf params X.env = ([], []) := by rfl) (hcl : closureFor scope X.env = pure clos := by rfl) :
    PE X (.Lambda params body scope pos) (tLam P pos (X.env.qual ++ "<lambda>") fun c' ctv => PySem.W.kla_obj "<lambda>" (X.env.qual ++ "<lambda>") params body scope clos ((X.mg "__name__").getD .none) c' ctv) := by
  intro pins s σ H Q I h
  obtain ⟨⟨ps, hP, ht, hc⟩, q⟩ := h
  have ha : s.heap.get? P = some (PySem.W.tabObj ps) := (show ObjOk X.prog X.w H s.heap P (.tbl ps) from I.hok P _ hP)
  have hgs := I.ok.mod.glob.keeps I.bk
  have nP : ∀ b ob, X.base.get? b = some ob → b ≠ P := fun b ob e => by
    rintro rfl
    have := (I.bs _ _ e).2
    rw [hP] at this
    cases this
  obtain ⟨bm, ob, b1, b2, b3, b4, b5, b6⟩ := hB
  have hbG : bm ≠ mainGlobals := fun z => by
    obtain ⟨o, es, ep, e, hd, _⟩ := I.ok.mod.glob
    rw [← z, b3] at e; cases e; rw [hd] at b6; cases b6
  have hgP : mainGlobals ≠ P := by
    obtain ⟨o, es, ep, e, hd, _⟩ := I.ok.mod.glob
    exact nP _ _ e
  have hb : s.heap.BuiltinsAt X.mg P := ⟨bm, ob, b1, b2, hbG, nP _ _ b3, I.bk _ _ b3, b4, b5, b6⟩
  refine PySem.W.kla_eval hdef ?_
  rcases hc with hc | ⟨c', hc, hH⟩
  · refine PySem.W.kla_makeFunction hcl I.ok.glob hgs hcode (hC.keeps I.bk) ha ht hc hgP hb fun c' ctv h' tk hx hge hlt hrec htb => ?_
    have J := lam_laid (tk := tk) (o := PySem.W.kla_obj "<lambda>" (X.env.qual ++ "<lambda>") params body scope clos ((X.mg "__name__").getD .none) c' ctv) I hP hx hge hlt hrec htb rfl
    have fresh : ∀ b, s.heap.objs.size ≤ b → H b = none := fun b hb => I.hok.fresh hb
    have neP : ∀ b, s.heap.objs.size ≤ b → b ≠ P := fun b hz e => by rw [← e, fresh _ hz] at hP; cases hP
    have hsz : s.heap.objs.size ≤ h'.objs.size := Nat.le_of_lt (Nat.lt_of_le_of_lt hge hlt)
    refine ⟨.ref h'.objs.size, _, J, rfl, q c' h'.objs.size ctv _ (fun b u n e => ?_) ⟨ps ++ #[rawInt pos.line, rawInt pos.col, .ref c'], ?_, ?_, .inr ⟨c', ?_, ?_⟩⟩ ?_ upd_same (fresh _ hsz)⟩
    · have l : b < s.heap.objs.size := I.hok.lt e
      rw [upd_ne (Nat.ne_of_lt (Nat.lt_of_lt_of_le l hsz)), upd_ne (Nat.ne_of_lt (Nat.lt_of_lt_of_le l hge)), upd_ne n]
      exact e
    · rw [upd_ne (Ne.symm (neP _ hsz)), upd_ne (Ne.symm (neP _ hge)), upd_same]
    · rw [Array.toList_append]
      exact TriplesOk_snoc _ _ _ _ ht
    · rw [Array.toList_append]
      exact codeAmong_snoc _ ht hc
    · rw [upd_ne (Nat.ne_of_lt hlt), upd_same]
    · rw [upd_ne (Nat.ne_of_lt hlt), upd_same]
  · refine PySem.W.kla_makeFunctionHit hcl I.ok.glob hgs hcode (hC.keeps I.bk) ha ht hc hb fun ctv h' tk hk hsz => ?_
    have hf : H h'.objs.size = none := I.hok.fresh hsz
    have J := I.laid (a := h'.objs.size) (o := LamO h'.objs.size (PySem.W.kla_obj "<lambda>" (X.env.qual ++ "<lambda>") params body scope clos ((X.mg "__name__").getD .none) c' ctv)) (t' := tk) (fun b u e => Heap.get?_push_of_some _ (hk b u e)) hsz (lamO_ok (Heap.get?_push_size _ rfl))
    have sm : Same H (upd H h'.objs.size (LamO h'.objs.size (PySem.W.kla_obj "<lambda>" (X.env.qual ++ "<lambda>") params body scope clos ((X.mg "__name__").getD .none) c' ctv))) := fun b u e => by rw [upd_ne (ne_of_none e hf)]; exact e
    exact ⟨.ref h'.objs.size, _, J, rfl, q c' h'.objs.size ctv _ (KpP.of sm) (Tab.same sm ⟨ps, hP, ht, .inr ⟨c', hc, hH⟩⟩) (sm _ _ hH) upd_same hf⟩
end
def cxLam (P : Program) (w : World) (K : PySem.W.Frag) (mg : Str → Option Value) (base : Heap) (x y : Str) (qual : Str) (scope : Scope) (f c : Addr) (cd : Value) (A : Around) (outer : List Env) (s : Shared) (H : Hp) : Cx where
  prog := P
  w := w
  K := K
  mg := mg
  base := base
  A := A.deeper (PySem.W.envX qual scope s.heap.objs.size f cd [(y, c)])
  N := [x, y]
  s₀ := s
  H₀ := H
  env := PySem.W.envX qual scope s.heap.objs.size f cd [(y, c)]
  outer := outer
  stack := PySem.W.envX qual scope s.heap.objs.size f cd [(y, c)] :: outer
  ex := []
  calm := true
  fn := fun _ => false
  pn := []
  xe := fun _ _ => False
theorem lam_of {P : Program} {w : World} {K : PySem.W.Frag} {mg : Str → Option Value} {base : Heap} {k : Nat} {f c c' : Addr} {qual x y : Str} {params : Arguments} {body : Expr} {scope : Scope} {pm ctv : Value} {sp : Sp} {v : V} {u : Value}
    (hk : scope.kind = .function) (hco : scope.isCoroutine = false) (hgen : scope.isGenerator = false) (hx : scope.names.lookup x = some .local) (hy : scope.names.lookup y = some .free) (hfr : ∀ z, scope.names.lookup z = some .free → z = y) (hcell : ∀ z ∈ scope.names, z.2 ≠ .cell)
    (hb : base.IsCell c (some u)) (ru : RelV v u) (len : ∀ vs H Q E, sp vs H Q E → vs.length = 1)
    (ob : ∀ vs H Q E, sp vs H Q E → H f = some (LamO f (PySem.W.kla_obj "<lambda>" qual params body scope [(y, c)] pm c' ctv)) ∧ H c' = some (CodO c' qual))
    (hbody : ∀ (A : Around) (outer : List Env) (s : Shared) (H : Hp) (a : V) (Q : VK) (E : XK), Room k (A.deeper (PySem.W.envX qual scope s.heap.objs.size f (.ref c') [(y, c)])) → sp [a] H Q E →
      ∃ t, PE (cxLam P w K mg base x y qual scope f c (.ref c') A outer s H) body t ∧ t [some a, some v] H Q) :
    FnOk P w K mg base CX0 (k + 1) f (PySem.W.kla_fn "<lambda>" qual params body scope [(y, c)] pm (.ref c') ctv) [x] sp := by
  refine ⟨fun vs H Q E h => len vs H Q E h, fun A outer s H args us vs Q E hr e0 hbd r hsp => ?_⟩
  obtain ⟨o1, o2⟩ := ob _ _ _ _ hsp
  have hl := len _ _ _ _ hsp
  obtain ⟨a, rfl⟩ : ∃ a, vs = [a] := by
    match vs, hl with
    | [a], _ => exact ⟨a, rfl⟩
  obtain ⟨ua, rfl, ra⟩ := vals1 r
  have hf : s.heap.get? f = some (PySem.W.kla_obj "<lambda>" qual params body scope [(y, c)] pm c' ctv) := (show ObjOk P w H s.heap f (LamO f _) from e0.hok f _ o1).1
  have hcr : s.heap.CodeRec (.ref c') qual := (show ObjOk P w H s.heap c' (CodO c' qual) from e0.hok c' _ o2).1
  have lim : s.heap.NoLimit := e0.mod.nolimit.keeps fun b o e => (e0.bs b o e).1
  refine PySem.W.kla_callFunE hr.depth hf rfl hco hgen rfl hcr (hbd _ _ _ _ ?_)
  refine wpAny_newFunctionEnv hcell (fun z hz => by rw [List.mem_singleton.mp hz]; exact hx) (fun h₁ hns hsb => ⟨lim.fresh _ hsb, ?_⟩) hk
  show codeAny _ _ (.expr body (PySem.W.envX qual scope s.heap.objs.size f (.ref c') [(y, c)])) _ _
  have hk₁ : ∀ b o, s.heap.get? b = some o → h₁.get? b = some o := fun b o e => hsb.extBut b o (Nat.ne_of_lt (Heap.lt_size e)) (Heap.get?_push_of_some _ e)
  obtain ⟨t, ht, hq⟩ := hbody A outer s H a Q E (hr.deeper _) hsp
  have cl1 : ∀ z c₁, ([(y, c)] : List (Str × Addr)).lookup z = some c₁ → z = y ∧ c₁ = c := fun z c₁ e => by
    rw [List.lookup_cons] at e
    cases hz : z == y with
    | true => rw [hz] at e; cases e; exact ⟨eq_of_beq hz, rfl⟩
    | false => rw [hz] at e; cases e
  have cl2 : ([(y, c)] : List (Str × Addr)).lookup y = some c := by rw [List.lookup_cons, beq_self_eq_true]
  have hne : x ≠ y := by rintro rfl; rw [hx] at hy; cases hy
  have noA : ∀ b : Addr, b ∉ (cxLam P w K mg base x y qual scope f c (.ref c') A outer s H).ex := fun b z => absurd (show b ∈ ([] : List Addr) from z) (by simp)
  have I : Inv (cxLam P w K mg base x y qual scope f c (.ref c') A outer s H) [] [some a, some v] H { s with heap := h₁, toks := s.toks + 1 } := by
    refine ⟨⟨e0.mod, hk, rfl, rfl, Nat.le_refl _, fun z z' c₁ h1 h2 => ?_, fun z hz => ?_, fun z c₁ h1 _ => ?_, fun _ => hr.hd, Around.frames_deeper e0.frames, .inr ⟨rfl, rfl⟩, fun b z => absurd z (noA b), e0.bs, e0.bsz, fun b _ _ => noA b, fun b z => absurd z (noA b), e0.funs, e0.frf⟩,
      rfl, e0.bare, Un.kept hk₁, ⟨_, hns, fun i z v' h1 h2 h3 => ?_⟩, fun z c₁ h => ?_, e0.hok.fresh (Nat.le_refl _), fun z c₁ h => ?_, fun p hp => absurd (show p ∈ ([] : List (Addr × Obj)) from hp) (by simp), e0.hok.kept hk₁, rfl⟩
    · exact (cl1 z c₁ h1).1.trans (cl1 z' c₁ h2).1.symm
    · have hz : scope.names.lookup z = some .cell ∨ scope.names.lookup z = some .free := hz
      rcases hz with hz | hz
      · exact absurd rfl (hcell _ (PySem.mem_of_lookup hz))
      · rw [hfr z hz]; exact ⟨c, cl2⟩
    · cases h1
    · match i with
      | 0 =>
        obtain rfl : x = z := Option.some.inj h1
        obtain rfl : a = v' := Option.some.inj (Option.some.inj h2)
        refine ⟨ua, ra, .inl ⟨hx, ?_⟩⟩
        show ([(x, ua)] : List (Str × Value)).reverse.lookup x = some ua
        rw [List.reverse_singleton, List.lookup_cons, beq_self_eq_true]
      | 1 =>
        obtain rfl : y = z := Option.some.inj h1
        obtain rfl : v = v' := Option.some.inj (Option.some.inj h2)
        exact ⟨u, ru, .inr ⟨.inr hy, c, cl2, (hb.keeps fun b o e => (e0.bs b o e).1).keeps hk₁⟩⟩
      | i + 2 => exact absurd (show ([x, y] : List Str)[i + 2]? = some z from h1) (by simp)
    · obtain ⟨rfl, rfl⟩ := cl1 z c₁ h
      exact ⟨_, (hb.keeps fun b o e => (e0.bs b o e).1).keeps hk₁⟩
    · obtain ⟨rfl, rfl⟩ := cl1 z c₁ h
      obtain ⟨o, ho, _⟩ := hb
      exact (e0.bs _ _ ho).2
  refine PySem.W.kla_codeExpr (wpAny_mono (ht [] _ [some a, some v] H Q I hq) (fun v' s' hs => ?_) fun e s' hs => False.elim hs)
  obtain ⟨v₁, H', J, rv, q⟩ := hs
  exact ⟨v₁, H', J.os, J.bare, J.base, J.hok, rv, q⟩
def tCallV (i : Nat) (f : Addr) (sp : Sp) (t : TA) : TE := fun σ H Q => σ[i]? = some (some (.ref f)) ∧ t σ H fun vs H1 => sp vs H1 Q E0
theorem pe_callV {X : Cx} {k i : Nat} {f : Addr} {fd : FuncData} {ps : List Str} {sp : Sp} {x : Str} {p pos : Pos} {e : Expr} {es : List Expr} {t : TA} (F : FnOk X.prog X.w X.K X.mg X.base CX0 k f fd ps sp) (hr : Room k X.A) (hb : Binds X.K fd ps [])
    (ob : ∀ vs H Q E, sp vs H Q E → ∃ o d, H f = some (LamO f o) ∧ o.data = .func d) (ha : PA X (e :: es) t) (hN : X.N[i]? = some x := by rfl) (hv : Vis X.env.scope x := by first | exact Or.inl rfl | exact Or.inr (Or.inl rfl)) (hdb : (x == ("__debug__" : Str)) = false := by decide) (hcd : (x == ("__classdict__" : Str)) = false := by decide)
    (he : starEach (e :: es) X.env = (false, eval e X.env) :: starEach es X.env := by rfl) (hpl : (backTo pos (starEach es X.env)).any (·.1) = false := by rfl) :
    PE X (.Call (.Name x p) (e :: es) [] pos) (tCallV i f sp t) := by
  intro pins s σ H Q I h
  obtain ⟨h1, h2⟩ := h
  refine wpAny_Call_Name_kw (thn (pe_var (pos := p) hN hv hdb hcd pins s σ H (fun v H1 => v = .ref f ∧ H1 = H) I ⟨_, h1, rfl, rfl⟩) fun u s1 ⟨v, H1, I1, rv, ev, eH⟩ => ?_)
  subst ev eH
  obtain rfl : u = Value.ref f := rv
  have h' : wpAny (model X.prog X.w) X.A (spliced (backTo pos (starEach (e :: es) X.env))) (fun vs s' => PySem.W.FnAt f s'.heap ∧ wpAny (model X.prog X.w) X.A (call (.ref f) ([] ++ vs)) (EP X pins σ Q) X.xe s') X.xe s1 := by
    refine thn (ha pos pins s1 σ H1 _ I1 h2) fun us s2 ⟨vs, H2, I2, r, q⟩ => ⟨?_, ?_⟩
    · obtain ⟨o, d, e1, e2⟩ := ob _ _ _ _ q
      have := (show ObjOk X.prog X.w H2 s2.heap f (LamO f o) from I2.hok f _ e1).1
      obtain ⟨oc, od, dt, sl⟩ := o
      cases e2
      exact ⟨_, _, _, _, this⟩
    · exact run_fn F hr hb .nil pass0 I2 r (by rw [List.append_nil]; exact q)
  rw [he] at h'
  rw [he]
  exact PySem.W.callWith_of (P := PySem.W.FnAt f) (by show ((false || (backTo pos (starEach es X.env)).any (·.1)) || false) = false; rw [hpl]; rfl) PySem.W.keeps_F (evalArgs_plain h')
end L2
namespace L2
open PySem PySem.Spec PySem.Calls PyProof.Rows
theorem funFrames_base {h base base' : Heap} : ∀ {l : List Env}, h.FunFrames base l → (∀ b ∈ frs l, base'.get? b = none) → h.FunFrames base' l
  | [], _, _ => trivial
  | env :: r, ⟨hk, ⟨L, o, hf, hn, ho, hd⟩, hr⟩, hb => ⟨hk, ⟨L, o, hf, hb L (by unfold frs; rw [List.filterMap_cons, hf]; exact List.mem_cons_self), ho, hd⟩, funFrames_base hr fun b z => hb b (by
      unfold frs at z ⊢
      rw [List.filterMap_cons, hf]
      exact List.mem_cons_of_mem _ z)⟩
section
variable {X : Cx} {pins : List (Addr × Obj)} {σ : St} {H : Hp} {s : Shared}
def bigB (l : List Env) (H : Hp) (h : Heap) : Heap := PySem.W.hideAll (hidT h H) (frs l)
theorem bigB_get {l : List Env} {h : Heap} {b : Addr} {o : Obj} (e : h.get? b = some o) (n : H b = none) (hb : b ∉ frs l) : (bigB l H h).get? b = some o := PySem.W.hideAll_get _ (hidT_get e n) hb
theorem Inv.baseIn (I : Inv X pins σ H s) : ∀ b o, X.base.get? b = some o → (bigB X.stack H s.heap).get? b = some o := fun b o e => by
  obtain ⟨h1, h2⟩ := I.bs b o e
  refine bigB_get h1 h2 fun z => ?_
  rcases List.mem_cons.mp (I.stkSub b z) with rfl | z
  · exact absurd (Heap.lt_size e) (Nat.not_lt.mpr (Nat.le_trans I.ok.bsz I.ok.above))
  · exact I.ok.nofr e z
theorem Inv.env0B (I : Inv X pins σ H s) : Env0 X.prog X.w X.K X.mg (bigB X.stack H s.heap) X.A X.stack s H := by
  have M := I.ok.mod
  refine ⟨I.ok.frames, ⟨M.kin.keeps I.baseIn, M.glob.keeps I.baseIn, let ⟨mb, h1, h2⟩ := M.blt; ⟨mb, h1.keeps I.baseIn, h2⟩, M.nolimit.keeps I.baseIn⟩, fun b o e => of_hidT (PySem.W.of_hideAll _ e), ?_, funFrames_base I.stack fun b hb => PySem.W.hideAll_none _ hb, I.stkFree, I.hok, I.bare⟩
  unfold bigB
  rw [PySem.W.hideAll_size, hidT_size]
  exact Nat.le_refl _
theorem Inv.cellB {y : Str} {c : Addr} {i : Nat} {v : V} (I : Inv X pins σ H s) (hc : X.env.cells.lookup y = some c) (hi : X.N[i]? = some y) (hy : X.env.scope.names.lookup y = some .cell) (hf : X.fn y = true) (hs : σ[i]? = some (some v)) : ∃ u, RelV v u ∧ (bigB X.stack H s.heap).IsCell c (some u) := by
  obtain ⟨m, hn, hl⟩ := I.loc
  obtain ⟨u, r, l⟩ := hl i y v hi hs (.inr (.inl hy))
  refine ⟨u, r, ?_⟩
  rcases l with ⟨k, _⟩ | ⟨_, c', e, o, ho, hd⟩
  · have k' : X.env.scope.names.lookup y = some .local := k
    rw [hy] at k'
    cases k'
  · rw [hc] at e
    cases e
    refine ⟨o, bigB_get ho (I.freeC y c hc) fun z => ?_, hd⟩
    rcases List.mem_cons.mp (I.stkSub c z) with z | z
    · exact I.cne y c hc z
    · obtain ⟨_, o', ho', _⟩ := I.ok.funs.mem z
      exact absurd (Heap.lt_size ho') (Nat.not_lt.mpr (I.ok.cab y c hf hc))
end
theorem pe_methDB {X : Cx} {k i : Nat} {c : Addr} {v : V} {y : Str} {Cs : Addr → Prop} {m : Str} {ps : List Str} {sp : Addr → Sp} {o e : Expr} {es : List Expr} {ta : TE} {t : TA} {apos pos : Pos} {pl : Sem Bool} (he : PE X o ta)
    (D : ∀ base u, RelV v u → base.IsCell c (some u) → Dis X.prog X.w X.K X.mg base CX0 k Cs m ps sp) (hr : Room k X.A) (ha : PA X (e :: es) t) (hc : X.env.cells.lookup y = some c) (hi : X.N[i]? = some y) (hy : X.env.scope.names.lookup y = some .cell) (hf : X.fn y = true)
    (hst : starEach (e :: es) X.env = (false, eval e X.env) :: starEach es X.env := by rfl) (hpl : (backTo pos (starEach es X.env)).any (·.1) = false := by rfl)
    (ht : eval (.Call (.Attribute o m apos) (e :: es) [] pos) X.env = (do
      let ov ← eval o X.env
      standAt apos.atName
      let (f, first) ← holding [ov] (getMethod ov m pl)
      callWith pos f first (backTo pos (starEach (e :: es) X.env)) (backToKw pos (keywordEach [] X.env))) := by rfl) :
    PE X (.Call (.Attribute o m apos) (e :: es) [] pos) (fun σ H Q => σ[i]? = some (some v) ∧ tMethD Cs m sp E0 ta t σ H Q) := by
  intro pins s σ H Q I h
  obtain ⟨hs, h⟩ := h
  refine PySem.W.methodCall_KW (pl := pl) (thn (he pins s σ H _ I h) fun u s1 ⟨x, H1, I1, rx, a, C, dx, fs, ex, ea, hC, l, q⟩ => ?_) ht
  subst ex
  obtain rfl : u = Value.ref a := rx
  obtain ⟨u1, r1, c1⟩ := I1.cellB hc hi hy hf hs
  obtain ⟨cl, f, _, hm, _, _⟩ := (D _ u1 r1 c1).ex C hC
  refine getmeth_ok I1 ea cl hm l ?_
  refine PySem.W.callWith_K (first := [.ref a]) (h₀ := X.base) I.ok.mod.kin hm.kp (thn (ha pos pins s1 σ H1 _ I1 q) fun us s2 ⟨vs, H2, I2, r, q2⟩ => ⟨I2.kIn, ?_⟩) hst hpl
  obtain ⟨u2, r2, c2⟩ := I2.cellB hc hi hy hf hs
  obtain ⟨_, f', fd, hm', F, hb⟩ := (D _ u2 r2 c2).ex C hC
  have ef : f' = f := by
    have := hm'.at_.symm.trans hm.at_
    cases this
    rfl
  subst ef
  have r' : Vals (.ref a :: vs) (.ref a :: us) := .cons rfl r
  refine wpAny_call (codeAny_mono (F.run X.A X.stack s2 H2 ⟨.ref a :: us, []⟩ (.ref a :: us) (.ref a :: vs) Q E0 hr I2.env0B (by
    have := hb s2 (.ref a :: us) I2.kIn (by rw [List.append_nil, ← r'.length]; exact F.len _ _ _ _ q2)
    rw [List.append_nil] at this
    exact this) r' q2) fun r s' hq => ?_)
  cases r with
  | error e => exact False.elim hq
  | ok fl =>
    cases fl with
    | ret u => exact I2.after hq
    | next => exact False.elim hq
    | brk => exact False.elim hq
    | cont => exact False.elim hq
theorem law_callT {P : Program} {w : World} {K : PySem.W.Frag} {mg mb : Str → Option Value} {CX : CXT} {k : Nat} {fa a c Pt : Addr} {fd : FuncData} {x : Str} {sp : Sp} {s₁ : Shared} {vs : List Value} {ns : List Int}
    (KX : K.In s₁.heap) (hns : s₁.heap.Ns mainGlobals mg) (hb : s₁.heap.Ns builtinsNs mb) (hbb : ∀ x : Str, x ≠ "__name__" → mb x = bootBuiltins x) (hlim : s₁.heap.NoLimit) (hg : s₁.gens = #[]) (hBm : BltM mg s₁.heap)
    (hcd : PySem.W.CodeHd s₁.heap c Pt) (hPt : s₁.heap.get? Pt = some (PySem.W.tabObj #[])) (hKP : K.lookup Pt = none)
    (ha : s₁.heap.get? a = some { cls := .type "list", data := .seq vs.toArray }) (hi : IntsAre vs ns) (hl : ns.length ≤ sizeLine) (hr : Room k callerA)
    (F : ∀ base : Heap, K.In base → base.Ns mainGlobals mg → BltM mg base → FnOk P w K mg base CX k fa fd [x] sp) (hbind : ∀ (s : Shared) (u : Value), BindsTo s fd ⟨[u], []⟩ [(x, u)])
    (hsp : ∀ H : Hp, H Pt = some (.tbl #[]) → SqL K H a (ns.map V.int) → sp [.ref a] H (fun v _ => v = .bl true) fun _ _ _ => False)
    (hCX : ∀ H e s', CX [] H s₁ (fun _ _ _ => False) e s' → False) :
    codeAny (model P w) callerA (.call (.ref fa) ⟨[.ref a], []⟩) (fun r s' => r = .ok (.ret (.bool true)) ∧ OldK s₁.heap s'.heap ∧ s'.os = s₁.os ∧ AllBare s'.gens) s₁ := by
  have rv := vals_ints hi
  have lenV := hi.length
  have naP : a ≠ Pt := fun z => by rw [z, hPt] at ha; cases ha
  have core : ∀ H : Hp, (∀ b, b ≠ Pt → H b = none ∨ ∃ o xs, H b = some (.frz o (.lst xs))) → H Pt = some (.tbl #[]) → SqL K H a (ns.map V.int) → HOk P w H s₁.heap → (∀ b, H b ≠ none → b = a ∨ b = Pt) → (H a ≠ none → K.lookup a = none) →
      codeAny (model P w) callerA (.call (.ref fa) ⟨[.ref a], []⟩) (fun r s' => r = .ok (.ret (.bool true)) ∧ OldK s₁.heap s'.heap ∧ s'.os = s₁.os ∧ AllBare s'.gens) s₁ := by
    intro H hO hP hS hok hA hK
    have base_of : ∀ {b : Addr} {o : Obj}, s₁.heap.get? b = some o → H b = none → (hidT s₁.heap H).get? b = some o := fun e n => hidT_get e n
    have noD : ∀ {b : Addr} {o : Obj}, s₁.heap.get? b = some o → (∀ xs n, o.data ≠ .seq xs n) → (∀ xs, o.data ≠ .fields xs) → H b = none := fun {b o} e d1 d2 => by
      cases q : H b with
      | none => rfl
      | some u =>
        rcases hA b (by rw [q]; simp) with rfl | rfl
        · rw [ha] at e; cases e; exact absurd rfl (d1 _ _)
        · rw [hPt] at e; cases e; exact absurd rfl (d2 _)
    have noA : ∀ {b : Addr} {o : Obj} {es : Array DictEntry} {ep : Nat}, s₁.heap.get? b = some o → o.data = .dict es ep → H b = none := fun {b o es ep} e d => noD e (fun xs n z => by rw [d] at z; cases z) fun xs z => by rw [d] at z; cases z
    have nsK : ∀ {b : Addr} {m : Str → Option Value}, s₁.heap.Ns b m → (hidT s₁.heap H).Ns b m := fun {b m} ⟨o, es, ep, e, d, r⟩ => ⟨o, es, ep, base_of e (noA e d), d, r⟩
    have hKb : K.In (hidT s₁.heap H) := fun b o e => base_of (KX b o e) (by
      cases q : H b with
      | none => rfl
      | some u =>
        rcases hA b (by rw [q]; simp) with rfl | rfl
        · rw [hK (by rw [q]; simp)] at e; cases e
        · rw [hKP] at e; cases e)
    have hM : Mod K mg (hidT s₁.heap H) := ⟨hKb, nsK hns, ⟨mb, nsK hb, hbb⟩, let ⟨mc, h1, h2⟩ := hlim; ⟨mc, nsK h1, h2⟩⟩
    have hBb : BltM mg (hidT s₁.heap H) := let ⟨bm, ob, b1, b2, b3, b4, b5, b6⟩ := hBm; ⟨bm, ob, b1, b2, base_of b3 (noD b3 (fun xs n z => by rw [b6] at z; cases z) fun xs z => by rw [b6] at z; cases z), b4, b5, b6⟩
    have e0 : Env0 P w K mg (hidT s₁.heap H) callerA [] s₁ H := ⟨rfl, hM, fun b o e => of_hidT e, Nat.le_of_eq (hidT_size _ _), trivial, fun b hb => absurd (show b ∈ ([] : List Addr) from hb) (by simp), hok, .of_eq hg⟩
    refine codeAny_mono ((F _ hKb (nsK hns) hBb).run callerA [] s₁ H ⟨[.ref a], []⟩ [.ref a] [.ref a] _ _ hr e0 (hbind s₁ (.ref a)) (.cons rfl .nil) (hsp H hP hS)) fun r s' h => ?_
    cases r with
    | error e => exact (hCX H e s' h).elim
    | ok fl =>
      cases fl with
      | next => exact False.elim h
      | brk => exact False.elim h
      | cont => exact False.elim h
      | ret u =>
        obtain ⟨v, H', os, bare, un, hok', r', q⟩ := h
        have q' : v = .bl true := q
        subst q'
        obtain rfl : u = Value.bool true := r'
        have keep : ∀ b o, b ≠ Pt → s₁.heap.get? b = some o → s'.heap.get? b = some o := fun b o nb e => by
          cases q : H b with
          | none => exact un.keep b o e q (by intro z; exact absurd (show b ∈ ([] : List Addr) from z) (by simp)) (by simp)
          | some u =>
            rcases hO b nb with z | ⟨ob, xs, z⟩
            · rw [q] at z; cases z
            · have z2 := un.frzs b ob _ z
              obtain ⟨e1, _⟩ := hok b _ z
              obtain ⟨e2, _⟩ := hok' b _ z2
              rw [e] at e1; cases e1
              exact e2
        obtain ⟨more, z3⟩ := un.tbls Pt _ hP
        have z4 : s'.heap.get? Pt = some (PySem.W.tabObj (#[] ++ more)) := (show ObjOk P w H' s'.heap Pt (.tbl _) from hok' Pt _ z3)
        refine ⟨rfl, ⟨fun b o e => ?_, fun b o e => ?_⟩, os, bare⟩
        · by_cases hb : b = Pt
          · subst hb
            rw [hPt] at e
            cases e
            exact .inr (.inl ⟨(hcd.tab hPt).isCodeTable, rfl, #[], more, rfl, z4⟩)
          · exact .inl (keep b o hb e)
        · by_cases hb : b = Pt
          · subst hb
            exact ⟨_, z4⟩
          · exact ⟨o, keep b o hb e⟩
  cases hk : K.lookup a with
  | some o =>
    have e := KX a o hk
    rw [ha] at e
    cases e
    refine core (fun b => if b = Pt then some (.tbl #[]) else none) (fun b hb => .inl (if_neg hb)) (if_pos rfl) (.inr ⟨_, vs.toArray, _, hk, rfl, rfl, rfl, by rw [List.size_toArray, lenV]; exact hl, by simpa using rv⟩) (fun b u z => ?_) (fun b z => ?_) fun z => ?_
    · by_cases hb : b = Pt
      · have z' := (if_pos hb).symm.trans z
        cases z'
        subst hb
        exact hPt
      · have z' := (if_neg hb).symm.trans z
        cases z'
    · by_cases hb : b = Pt
      · exact .inr hb
      · exact absurd (if_neg hb) z
    · exact absurd (if_neg naP) z
  | none =>
    refine core (fun b => if b = Pt then some (.tbl #[]) else if b = a then some (.frz { cls := .type "list", data := .seq vs.toArray } (.lst (ns.map V.int))) else none) (fun b hb => ?_) (if_pos rfl) (.inl (.inr ⟨{ cls := .type "list", data := .seq vs.toArray }, (if_neg naP).trans (if_pos rfl)⟩)) (fun b u z => ?_) (fun b z => ?_) fun _ => hk
    · by_cases h2 : b = a
      · exact .inr ⟨_, _, (if_neg hb).trans (if_pos h2)⟩
      · exact .inl ((if_neg hb).trans (if_neg h2))
    · by_cases hb : b = Pt
      · have z' := (if_pos hb).symm.trans z
        cases z'
        subst hb
        exact hPt
      · have z := (if_neg hb).symm.trans z
        by_cases h2 : b = a
        · have z' := (if_pos h2).symm.trans z
          cases z'
          subst h2
          exact ⟨ha, by rw [List.length_map]; exact hl, vs, _, rv, ha⟩
        · have z' := (if_neg h2).symm.trans z
          cases z'
    · by_cases hb : b = Pt
      · exact .inr hb
      · by_cases h2 : b = a
        · exact .inl h2
        · exact absurd ((if_neg hb).trans (if_neg h2)) z
theorem walk_ofT {l : PySem.W.OpenLaw} {n k : Nat} {q : Program} {loose : List Str} {XP : (Str → Option Value) → Heap → Prop} {YP : World → Heap → Prop} {d : DefRec} {K : Params → PySem.W.Frag} {CX : CXT} {sp : PySem.W.Frag → Sp} {x : Str} {Pt : Addr}
    (hn : l.most = some n) (hn2 : n ≤ sizeLine) (hdf : d.params.defaults = []) (hr : Room k callerA)
    (hY : ∀ (w : World) (h : Heap), YP w h → (K w.params).In h) (hT : ∀ (w : World) (h : Heap), YP w h → ∀ P ∈ [Pt], h.get? P = some (PySem.W.tabObj #[]))
    (F : ∀ (w : World) (mg : Str → Option Value) (fa : Addr) (h : Heap), (K w.params).In h → h.Ns mainGlobals mg → mg d.name = some (.ref fa) →
      ∃ fd : FuncData, (∀ (s : Shared) (u : Value), BindsTo s fd ⟨[u], []⟩ [(x, u)]) ∧ (K w.params).lookup Pt = none ∧ (∃ c, PySem.W.codeHdIn (K w.params) c Pt = true) ∧
        ∀ base : Heap, (K w.params).In base → base.Ns mainGlobals mg → BltM mg base → FnOk l.prog w (K w.params) mg base CX k fa fd [x] (sp (K w.params)))
    (hsp : ∀ (K : PySem.W.Frag) (H : Hp) (a : Addr) (ns : List Int), ns.length ≤ n → H Pt = some (.tbl #[]) → SqL K H a (ns.map V.int) → sp K [.ref a] H (fun v _ => v = .bl true) fun _ _ _ => False)
    (hCX : ∀ (H : Hp) (s : Shared) (e : Value) (s' : Shared), CX [] H s (fun _ _ _ => False) e s' → False) :
    PySem.W.WalkO q loose XP YP l.row.toRowW d [] (fun f vs => PySem.call f vs) := by
  refine Att.attach_call hn hdf fun w s₀ s₁ mg mb fa o pm cd doc a vs ns G Y ho hd hcd hmg hobj hints hlen hg => ?_
  have KX := hY w _ Y
  obtain ⟨fd, hb, h1, ⟨c, h2⟩, hF⟩ := F w mg fa _ KX G.T.g hmg
  exact law_callT KX G.T.g G.T.b G.T.builtins G.T.nolimit hg G.T.bmain (PySem.W.codeHd_of_K KX h2) (hT w _ Y Pt List.mem_cons_self) h1 hobj hints (Nat.le_trans hlen hn2) hr hF hb (fun H hO hS => hsp (K w.params) H a ns hlen hO hS) fun H e s' => hCX H s₁ e s'
end L2
namespace KV
open PySem PyProof.Rows L2
def top (i : Nat) : Stmt := PySem.Challenge.pw_slanttiles_k11_values_of_terms.main.body.getD i (.Pass ⟨0, 0, 0, 0⟩)
abbrev sCell : Stmt := top 14
abbrev sWell : Stmt := top 15
abbrev sDraw : Stmt := top 16
abbrev sSteps : Stmt := top 17
abbrev sSome : Stmt := top 18
abbrev sNumber : Stmt := top 19
abbrev sTold : Stmt := top 20
abbrev sMade : Stmt := top 21
abbrev sValue : Stmt := top 22
abbrev sWorths : Stmt := top 23
abbrev sFields : Stmt := top 24
abbrev sRight : Stmt := top 25
abbrev sLaw : Stmt := top 26
abbrev sNInit : Stmt := inClass (top 3) 0
abbrev sKInit : Stmt := inClass (top 4) 0
abbrev sPInit : Stmt := inClass (top 5) 0
abbrev sRInit : Stmt := inClass (top 11) 0
abbrev sCInit : Stmt := inClass (top 12) 0
abbrev sNValue : Stmt := inClass (top 3) 2
abbrev sKValue : Stmt := inClass (top 4) 2
abbrev sAValue : Stmt := inClass (top 6) 0
abbrev sLValue : Stmt := inClass (top 7) 0
abbrev sMValue : Stmt := inClass (top 8) 0
abbrev sIValue : Stmt := inClass (top 9) 0
abbrev sXValue : Stmt := inClass (top 10) 0
abbrev sRValue : Stmt := inClass (top 11) 3
abbrev sCValue : Stmt := inClass (top 12) 2
theorem Paired.snoc' {α β : Type} {F : α → β → Prop} : ∀ {l₁ : List α} {l₂ : List β} {x : α} {y : β}, Paired F l₁ l₂ → F x y → Paired F (l₁ ++ [x]) (l₂ ++ [y])
  | _, _, _, _, .nil, h => .cons h .nil
  | _, _, _, _, .cons a t, h => .cons a (Paired.snoc' t h)
abbrev natV (n : Nat) : V := V.int (n : Int)
def WellAt (H : Hp) (a : Addr) : Prop := ∃ x y z : Int, H a = some (.lst [.int x, .int y, .int z])
def Kp (a : Addr) (H H' : Hp) : Prop := ∀ b o, H b = some o → b ≠ a → H' b = some o
theorem Kp.trans {a : Addr} {H H1 H2 : Hp} (x : Kp a H H1) (y : Kp a H1 H2) : Kp a H H2 := fun b o h n => y b o (x b o h n) n
theorem Kp.same {a : Addr} {H H1 H2 : Hp} (x : Kp a H H1) (y : Same H1 H2) : Kp a H H2 := fun b o h n => y b o (x b o h n)
theorem Kp.of {a : Addr} {H H' : Hp} (x : Same H H') : Kp a H H' := fun b o h _ => x b o h
theorem sameNew {H : Hp} {p : Addr} {o : HO} (h : H p = none) : Same H (upd H p o) := fun b u e => by
  rw [upd_ne (ne_of_none e h)]
  exact e
theorem sameUpd {H H1 : Hp} {p : Addr} {o : HO} (h : H p = none) (s : Same H H1) : Same H (upd H1 p o) := fun b u e => by
  rw [upd_ne (ne_of_none e h)]
  exact s b u e
theorem kpUpd {H : Hp} {p : Addr} {o : HO} : Kp p H (upd H p o) := fun b u e n => by
  rw [upd_ne n]
  exact e
theorem Kp.tup {a b : Addr} {H H' : Hp} {xs : List V} (k : Kp a H H') (w : WellAt H a) (h : H b = some (.tup xs)) : H' b = some (.tup xs) := by
  obtain ⟨x, y, z, e⟩ := w
  exact k b _ h (ne_of h e (by intro q; cases q))
theorem WellAt.new {H : Hp} {a p : Addr} {o : HO} (h : WellAt H a) (hp : H p = none) : WellAt (upd H p o) a := by
  obtain ⟨x, y, z, e⟩ := h
  exact ⟨x, y, z, by rw [upd_ne (ne_of_none e hp)]; exact e⟩
theorem WellAt.ne {H : Hp} {a p : Addr} (h : WellAt H a) (hp : H p = none) : p ≠ a := by
  obtain ⟨x, y, z, e⟩ := h
  exact Ne.symm (ne_of_none e hp)
theorem small {n : Nat} (h : n ≤ 10000) : n < sizeLine := by
  have : (10000 : Nat) < sizeLine := by decide
  omega
theorem pe_ty {X : Cx} {x : Str} {n : String} {pos : Pos} (hg : Gl X x) (hm : X.mg x = none) (hv : bootBuiltins x = some (.type n)) (hn : x ≠ "__name__" := by decide) (hd : (x == ("__debug__" : Str)) = false := by decide) : PE X (.Name x pos) (tC (.ty n)) := pe_bltn (v := .ty n) hg hm hv rfl hn hd
structure Txt (K : PySem.W.Frag) (mg : Str → Option Value) : Prop where
  isinstance : mg "isinstance" = none
  int : mg "int" = none
  tuple : mg "tuple" = none
  len : mg "len" = none
  range : mg "range" = none
  max : mg "max" = none
  sorted : mg "sorted" = none
  dict : mg "dict" = none
  min : mg "min" = none
  bool : mg "bool" = none
end KV
namespace KV
open PySem PyProof.Rows L2
inductive Tm where
  | num (n : Int)
  | take (b : Int) (ss : List Int)
  | rest (t : Tm) (y : Int)
  | cho (a b c : Tm)
  | bin (k : Fin 5) (a b : Tm)
abbrev Tk : Type := Int × List Int
def opn (k : Fin 5) : Str := match k with | 0 => "+" | 1 => "-" | 2 => "*" | 3 => "min" | 4 => "max"
def TupAt (H : Hp) : Tm → V → Prop
  | .num n, v => ∃ p, v = .ref p ∧ H p = some (.tup [.str "number", .int n])
  | .take b ss, v => ∃ p q, v = .ref p ∧ H p = some (.tup [.str "take", .int b, .ref q]) ∧ H q = some (.tup (ss.map V.int))
  | .rest t y, v => ∃ p u, v = .ref p ∧ H p = some (.tup [.str "rest", u, .int y]) ∧ TupAt H t u
  | .cho a b c, v => ∃ p x y z, v = .ref p ∧ H p = some (.tup [.str "?", x, y, z]) ∧ TupAt H a x ∧ TupAt H b y ∧ TupAt H c z
  | .bin k a b, v => ∃ p x y, v = .ref p ∧ H p = some (.tup [.str (opn k), x, y]) ∧ TupAt H a x ∧ TupAt H b y
theorem TupAt.mono {H H' : Hp} (k : ∀ c zs, H c = some (.tup zs) → H' c = some (.tup zs)) : ∀ {t : Tm} {v : V}, TupAt H t v → TupAt H' t v
  | .num _, _, ⟨p, e, h⟩ => ⟨p, e, k _ _ h⟩
  | .take _ _, _, ⟨p, q, e, h, h2⟩ => ⟨p, q, e, k _ _ h, k _ _ h2⟩
  | .rest _ _, _, ⟨p, u, e, h, h2⟩ => ⟨p, u, e, k _ _ h, h2.mono k⟩
  | .cho _ _ _, _, ⟨p, x, y, z, e, h, h1, h2, h3⟩ => ⟨p, x, y, z, e, k _ _ h, h1.mono k, h2.mono k, h3.mono k⟩
  | .bin _ _ _, _, ⟨p, x, y, e, h, h1, h2⟩ => ⟨p, x, y, e, k _ _ h, h1.mono k, h2.mono k⟩
theorem TupAt.same {H H' : Hp} (s : Same H H') {t : Tm} {v : V} (h : TupAt H t v) : TupAt H' t v := h.mono fun c _ e => s c _ e
structure Cn where
  num : Addr
  take : Addr
  rest : Addr
  cho : Addr
  bin : Fin 5 → Addr
def cls (N : Cn) : Tm → Addr
  | .num _ => N.num
  | .take _ _ => N.take
  | .rest _ _ => N.rest
  | .cho _ _ _ => N.cho
  | .bin k _ _ => N.bin k
def IsC (N : Cn) (C : Addr) : Prop := C = N.num ∨ C = N.take ∨ C = N.rest ∨ C = N.cho ∨ ∃ k, C = N.bin k
theorem isC (N : Cn) : ∀ t : Tm, IsC N (cls N t)
  | .num _ => .inl rfl
  | .take _ _ => .inr (.inl rfl)
  | .rest _ _ => .inr (.inr (.inl rfl))
  | .cho _ _ _ => .inr (.inr (.inr (.inl rfl)))
  | .bin k _ _ => .inr (.inr (.inr (.inr ⟨k, rfl⟩)))
def FldAt (N : Cn) (H : Hp) (fs : List (Str × V)) : Tm → Prop
  | .num n => fs = [(("value" : Str), V.int n)]
  | .take b ss => ∃ q, fs = [(("back" : Str), V.int b), (("steps" : Str), V.ref q)] ∧ H q = some (.tup (ss.map V.int))
  | .rest t y => ∃ p dx gs, fs = [(("one" : Str), V.ref p), (("by" : Str), V.int y)] ∧ H p = some (.ins (cls N t) dx gs) ∧ FldAt N H gs t
  | .cho a b c => ∃ p dp ps q dq qs r dr rs, fs = [(("test" : Str), V.ref p), (("one" : Str), V.ref q), (("other" : Str), V.ref r)] ∧ (H p = some (.ins (cls N a) dp ps) ∧ FldAt N H ps a) ∧ (H q = some (.ins (cls N b) dq qs) ∧ FldAt N H qs b) ∧ H r = some (.ins (cls N c) dr rs) ∧ FldAt N H rs c
  | .bin _ a b => ∃ p dp ps q dq qs, fs = [(("one" : Str), V.ref p), (("other" : Str), V.ref q)] ∧ (H p = some (.ins (cls N a) dp ps) ∧ FldAt N H ps a) ∧ H q = some (.ins (cls N b) dq qs) ∧ FldAt N H qs b
def KpN (H H' : Hp) : Prop := ∀ c o, H c = some o → (∀ xs, o ≠ .lst xs) → H' c = some o
theorem KpN.of {H H' : Hp} (s : Same H H') : KpN H H' := fun c o e _ => s c o e
theorem FldAt.keep {N : Cn} {H H' : Hp} (s : KpN H H') : ∀ {t : Tm} {fs : List (Str × V)}, FldAt N H fs t → FldAt N H' fs t
  | .num _, _, h => h
  | .take _ _, _, ⟨q, e, h⟩ => ⟨q, e, s _ _ h (by intro _ z; cases z)⟩
  | .rest _ _, _, ⟨p, dx, gs, e, h, h2⟩ => ⟨p, dx, gs, e, s _ _ h (by intro _ z; cases z), h2.keep s⟩
  | .cho _ _ _, _, ⟨p, dp, ps, q, dq, qs, r, dr, rs, e, ⟨h1, g1⟩, ⟨h2, g2⟩, h3, g3⟩ => ⟨p, dp, ps, q, dq, qs, r, dr, rs, e, ⟨s _ _ h1 (by intro _ z; cases z), g1.keep s⟩, ⟨s _ _ h2 (by intro _ z; cases z), g2.keep s⟩, s _ _ h3 (by intro _ z; cases z), g3.keep s⟩
  | .bin _ _ _, _, ⟨p, dp, ps, q, dq, qs, e, ⟨h1, g1⟩, h2, g2⟩ => ⟨p, dp, ps, q, dq, qs, e, ⟨s _ _ h1 (by intro _ z; cases z), g1.keep s⟩, s _ _ h2 (by intro _ z; cases z), g2.keep s⟩
theorem FldAt.same {N : Cn} {H H' : Hp} (s : Same H H') {t : Tm} {fs : List (Str × V)} (h : FldAt N H fs t) : FldAt N H' fs t := h.keep (KpN.of s)
def TrmAt (N : Cn) (H : Hp) (t : Tm) (v : V) : Prop := ∃ p dx fs, v = .ref p ∧ H p = some (.ins (cls N t) dx fs) ∧ FldAt N H fs t
theorem TrmAt.same {N : Cn} {H H' : Hp} (s : Same H H') {t : Tm} {v : V} (h : TrmAt N H t v) : TrmAt N H' t v := let ⟨p, dx, fs, e, h1, h2⟩ := h; ⟨p, dx, fs, e, s _ _ h1, h2.same s⟩
def ht : Tm → Nat
  | .num _ => 1
  | .take _ _ => 1
  | .rest t _ => ht t + 1
  | .cho a b c => max (ht a) (max (ht b) (ht c)) + 1
  | .bin _ a b => max (ht a) (ht b) + 1
def raw : Tm → List Tk
  | .num _ => []
  | .take b ss => [(b, ss)]
  | .rest t _ => raw t
  | .cho a b c => raw a ++ (raw b ++ raw c)
  | .bin _ a b => raw a ++ raw b
theorem ht_pos : ∀ t, 0 < ht t
  | .num _ => Nat.one_pos
  | .take _ _ => Nat.one_pos
  | .rest _ _ => Nat.succ_pos _
  | .cho _ _ _ => Nat.succ_pos _
  | .bin _ _ _ => Nat.succ_pos _
def Wf : Tm → Prop
  | .num n => n.natAbs < 2 ^ 41
  | .take _ _ => True
  | .rest t y => 0 < y ∧ y < 1073741824 ∧ Wf t
  | .cho a b c => Wf a ∧ Wf b ∧ Wf c
  | .bin _ a b => Wf a ∧ Wf b
def opv (k : Fin 5) (i j : Int) : Int := match k with | 0 => i + j | 1 => i - j | 2 => i * j | 3 => min i j | 4 => max i j
def val (f : Tk → Int) : Tm → Int
  | .num n => n
  | .take b ss => f (b, ss)
  | .rest t y => val f t % y
  | .cho a b c => if 0 < val f a then val f b else val f c
  | .bin k a b => opv k (val f a) (val f b)
def bnd : Tm → Nat
  | .num _ => 41
  | .take _ _ => 41
  | .rest _ _ => 41
  | .cho _ b c => max (bnd b) (bnd c)
  | .bin _ a b => bnd a + bnd b + 1
theorem bnd_le : ∀ t : Tm, bnd t + 1 ≤ 21 * 2 ^ ht t
  | .num _ => by show 41 + 1 ≤ 21 * 2 ^ 1; decide
  | .take _ _ => by show 41 + 1 ≤ 21 * 2 ^ 1; decide
  | .rest t _ => by
    have : 0 < 2 ^ ht t := Nat.pow_pos (by decide)
    simp only [bnd, ht, Nat.pow_succ]
    omega
  | .cho a b c => by
    have h1 := bnd_le b
    have h2 := bnd_le c
    have e1 : 2 ^ ht b ≤ 2 ^ max (ht a) (max (ht b) (ht c)) := Nat.pow_le_pow_right (by decide) (by omega)
    have e2 : 2 ^ ht c ≤ 2 ^ max (ht a) (max (ht b) (ht c)) := Nat.pow_le_pow_right (by decide) (by omega)
    simp only [bnd, ht, Nat.pow_succ]
    omega
  | .bin _ a b => by
    have h1 := bnd_le a
    have h2 := bnd_le b
    have e1 : 2 ^ ht a ≤ 2 ^ max (ht a) (ht b) := Nat.pow_le_pow_right (by decide) (by omega)
    have e2 : 2 ^ ht b ≤ 2 ^ max (ht a) (ht b) := Nat.pow_le_pow_right (by decide) (by omega)
    simp only [bnd, ht, Nat.pow_succ]
    omega
theorem opv_bnd (k : Fin 5) {i j : Int} {m n : Nat} (hi : i.natAbs < 2 ^ m) (hj : j.natAbs < 2 ^ n) : (opv k i j).natAbs < 2 ^ (m + n + 1) := by
  have p1 : 2 ^ m ≤ 2 ^ (m + n) := Nat.pow_le_pow_right (by decide) (by omega)
  have p2 : 2 ^ n ≤ 2 ^ (m + n) := Nat.pow_le_pow_right (by decide) (by omega)
  have p3 : 2 ^ (m + n + 1) = 2 ^ (m + n) * 2 := Nat.pow_succ ..
  have p4 : (i * j).natAbs < 2 ^ (m + n) := by
    rw [Int.natAbs_mul, Nat.pow_add]
    exact Nat.mul_lt_mul'' hi hj
  generalize 2 ^ (m + n) = M at *
  generalize 2 ^ (m + n + 1) = M' at *
  generalize 2 ^ m = A at *
  generalize 2 ^ n = B at *
  match k with
  | 0 => show (i + j).natAbs < _; omega
  | 1 => show (i - j).natAbs < _; omega
  | 2 => show (i * j).natAbs < _; omega
  | 3 => show (min i j).natAbs < _; omega
  | 4 => show (max i j).natAbs < _; omega
theorem val_bnd {f : Tk → Int} : ∀ t : Tm, Wf t → (∀ x ∈ raw t, (f x).natAbs < 2 ^ 41) → (val f t).natAbs < 2 ^ bnd t
  | .num n, h, _ => h
  | .take b ss, _, h => h (b, ss) List.mem_cons_self
  | .rest t y, h, _ => by
    obtain ⟨h1, h2, _⟩ := h
    show (val f t % y).natAbs < 2 ^ 41
    have e1 := Int.emod_nonneg (val f t) (show y ≠ 0 by omega)
    have e2 := Int.emod_lt_of_pos (val f t) h1
    omega
  | .cho a b c, h, g => by
    have h1 := val_bnd b h.2.1 fun x hx => g x (by simp only [raw, List.mem_append]; exact .inr (.inl hx))
    have h2 := val_bnd c h.2.2 fun x hx => g x (by simp only [raw, List.mem_append]; exact .inr (.inr hx))
    have e1 : 2 ^ bnd b ≤ 2 ^ max (bnd b) (bnd c) := Nat.pow_le_pow_right (by decide) (by omega)
    have e2 : 2 ^ bnd c ≤ 2 ^ max (bnd b) (bnd c) := Nat.pow_le_pow_right (by decide) (by omega)
    simp only [val, bnd]
    split <;> omega
  | .bin k a b, h, g => opv_bnd k (val_bnd a h.1 fun x hx => g x (by simp only [raw, List.mem_append]; exact .inl hx)) (val_bnd b h.2 fun x hx => g x (by simp only [raw, List.mem_append]; exact .inr hx))
theorem val_B {f : Tk → Int} {t : Tm} (h : ht t ≤ 6) (w : Wf t) (g : ∀ x ∈ raw t, (f x).natAbs < 2 ^ 41) : (val f t).natAbs < 2 ^ 2000 := by
  have h1 := val_bnd t w g
  have h2 := bnd_le t
  have h3 : 2 ^ ht t ≤ 2 ^ 6 := Nat.pow_le_pow_right (by decide) h
  exact Nat.lt_of_lt_of_le h1 (Nat.pow_le_pow_right (by decide) (by omega))
abbrev TkR : Type := Tk × Addr
def TkY (H : Hp) (x : TkR) : Prop := ∃ q, H x.2 = some (.tup [.int x.1.1, .ref q]) ∧ H q = some (.tup (x.1.2.map V.int))
theorem TkY.same {H H' : Hp} (s : Same H H') {x : TkR} (h : TkY H x) : TkY H' x := let ⟨q, h1, h2⟩ := h; ⟨q, s _ _ h1, s _ _ h2⟩
def kyOf (x : Tk) : PKey := (.inl x.1, x.2.map .inl)
theorem TkY.ky {H : Hp} {x : TkR} (h : TkY H x) : PKy H (kyOf x.1) x.2 := by
  obtain ⟨q, h1, h2⟩ := h
  refine ⟨q, h1, ?_⟩
  rw [h2]
  unfold kyOf
  rw [List.map_map]
  rfl
theorem hu_of2 {A : Around} {k : Nat} (hr : Room k A) : A.units + 101 < cLine := by have := hr.un; omega
end KV
namespace KV
open PySem PyProof.Rows L2
theorem iteTe {c : Bool} {a b : Prop} (h : c = true) (x : a) : if c = true then a else b := by rw [if_pos h]; exact x
theorem iteFe {c : Bool} {a b : Prop} (h : c = false) (x : b) : if c = true then a else b := by rw [if_neg (by rw [h]; exact Bool.false_ne_true)]; exact x
theorem WellAt.same {a : Addr} {H H' : Hp} (s : Same H H') (h : WellAt H a) : WellAt H' a := by
  obtain ⟨x, y, z, e⟩ := h
  exact ⟨x, y, z, s _ _ e⟩
def spCell (K : PySem.W.Frag) : Sp := fun vs H Q _ => ∃ (a : Addr) (ns : List Int) (k : Nat), vs = [.ref a, natV k] ∧ SqL K H a (ns.map V.int) ∧ ∀ c : Int, Q (.int c) H
def spWell (K : PySem.W.Frag) : Sp := fun vs H Q _ => ∃ (a : Addr) (ns : List Int) (k : Nat), vs = [.ref a, natV k] ∧ SqL K H a (ns.map V.int) ∧ ∀ (p : Addr) (H' : Hp), Same H H' → H p = none → WellAt H' p → Q (.ref p) H'
def spDraw : Sp := fun vs H Q _ => ∃ (a : Addr) (m : Int), vs = [.ref a, .int m] ∧ WellAt H a ∧ 0 < m ∧ m < 2 ^ 62 ∧ ∀ (n : Nat) (H' : Hp), (n : Int) < m → Kp a H H' → WellAt H' a → Q (natV n) H'
theorem modb (x : Int) : -(2 ^ 64) < x % 2147483647 ∧ x % 2147483647 < 2 ^ 64 := by
  have h1 := Int.emod_nonneg x (show (2147483647 : Int) ≠ 0 by decide)
  have h2 := Int.emod_lt_of_pos x (show (0 : Int) < 2147483647 by decide)
  omega
theorem modc (x : Int) : -(2 ^ 64) < x % 2147483399 ∧ x % 2147483399 < 2 ^ 64 := by
  have h1 := Int.emod_nonneg x (show (2147483399 : Int) ≠ 0 by decide)
  have h2 := Int.emod_lt_of_pos x (show (0 : Int) < 2147483399 by decide)
  omega
section
variable {P : Program} {w : World} {K : PySem.W.Frag} {mg : Str → Option Value} {base : Heap}
theorem scCell : FnScope ["_law_script", "_law_k"] ["_law_script", "_law_k"] (defScope sCell) := ⟨rfl, rfl, rfl, by decide +kernel, rfl, by decide +kernel, by decide +kernel⟩
theorem ok_cell {f : Addr} {fd : FuncData} (F : Fun K "_law_cell_at" "_law_cell_at" sCell f fd) (T : Txt K mg) : FnOk P w K mg base CX0 1 f fd ["_law_script", "_law_k"] (spCell K) := by
  refine F.ok scCell (fun vs H Q E h => ?_) (fun cdv A outer s H vs Q E hr h => ?_)
  · obtain ⟨a, ns, k, rfl, _⟩ := h
    rfl
  · obtain ⟨a, ns, k, rfl, hS, q⟩ := h
    refine ⟨_, (pss_cons (ps_if (pt_cmpR op_lt (pv 1) (pe_callB call_len_seq (by rfl) T.len PySem.boot_len (pa_cons (pv 0) pa_nil)) (nomark _)) (pss_one (ps_ret (pe_ix ix_list (pv 0) (pv 1) (fun _ _ => rfl)))) pss_nil) (pss_one (ps_ret pe_int))), ?_⟩
    refine ⟨_, rfl, _, rfl, a, _, rfl, .inl hS, _, _, rfl, rfl, _, rfl, ?_⟩
    by_cases h : k < ns.length
    · refine iteTe (decide_eq_true (by rw [List.length_map]; omega)) ?_
      exact ⟨_, rfl, _, rfl, a, _, _, _, rfl, rfl, hS, atI_nat (show (ns.map V.int)[k]? = some (.int ns[k]) by rw [List.getElem?_map, List.getElem?_eq_getElem h]; rfl), q _⟩
    · exact iteFe (decide_eq_false (by rw [List.length_map]; omega)) (q 0)
theorem scWell : FnScope ["_law_script", "_law_k", "_law_cell"] ["_law_script", "_law_k"] (defScope sWell) := ⟨rfl, rfl, rfl, by decide +kernel, rfl, by decide +kernel, by decide +kernel⟩
theorem ok_well {f : Addr} {fd : FuncData} (F : Fun K "_law_well" "_law_well" sWell f fd) (c_cell : Cal P w K mg base CX0 1 "_law_cell_at" ["_law_script", "_law_k"] (spCell K)) (T : Txt K mg) : FnOk P w K mg base CX0 2 f fd ["_law_script", "_law_k"] (spWell K) := by
  refine F.ok scWell (fun vs H Q E h => ?_) (fun cdv A outer s H vs Q E hr h => ?_)
  · obtain ⟨a, ns, k, rfl, _⟩ := h
    rfl
  · obtain ⟨a, ns, k, rfl, hS, q⟩ := h
    refine ⟨_, (pss_cons (ps_set (i := 2) scWell.nd rfl (Or.inl rfl) (pe_c c_cell (hr.mono (by omega)) rfl pass0 (pa_cons (pv 0) (pa_cons (pv 1) pa_nil)))) (pss_one (ps_ret (pe_lst (pa_cons (pe_op op_add (pe_op op_mod (pv 2) pe_int) (pv 1)) (pa_cons (pe_ix ix_list (pe_lst (pa_cons pe_int (pa_cons (pv 2) pa_nil))) (pe_callTy call_int1 rfl T.int boot_int (pa_cons (pe_cmpR op_ge (pv 2) (pe_op op_pow pe_int pe_int) (nomark _)) pa_nil)) (fun _ _ => rfl)) (pa_cons pe_int pa_nil))))))), ?_⟩
    refine ⟨_, rfl, _, rfl, a, ns, k, rfl, hS, fun c => ?_⟩
    refine ⟨_, rfl, _, _, rfl, rfl, (by show (0 : Int) < 2147483647; decide), _, rfl, _, _, rfl, rfl, ?_⟩
    refine ⟨_, rfl, by show 2 ≤ sizeLine; decide, fun l hl => ?_⟩
    generalize g : upd H l _ = H1
    obtain ⟨s1, e1⟩ := new_of hl g
    refine ⟨_, rfl, _, _, rfl, rfl, ⟨by decide, by decide, by decide⟩, _, _, rfl, rfl, .inr ⟨_, rfl, ?_⟩⟩
    obtain ⟨y, hy⟩ : ∃ y : Int, atI [V.int 0, V.int c] (if decide (10 ^ 18 ≤ c) = true then 1 else 0) = some (.int y) := by
      by_cases h : (10 : Int) ^ 18 ≤ c
      · rw [decide_eq_true h]; exact ⟨c, rfl⟩
      · rw [decide_eq_false h]; exact ⟨0, rfl⟩
    refine ⟨l, _, _, _, rfl, rfl, SqL.of e1, hy, ?_⟩
    refine ⟨by show 3 ≤ sizeLine; decide, fun p hp => q p _ (s1.trans (sameNew hp)) (s1.free hp) ⟨_, _, _, upd_same⟩⟩
theorem scDraw : FnScope ["_law_well_here", "_law_most", "_law_number_here"] ["_law_well_here", "_law_most"] (defScope sDraw) := ⟨rfl, rfl, rfl, by decide +kernel, rfl, by decide +kernel, by decide +kernel⟩
theorem ok_draw {f : Addr} {fd : FuncData} (F : Fun K "_law_draw" "_law_draw" sDraw f fd) : FnOk P w K mg base CX0 1 f fd ["_law_well_here", "_law_most"] spDraw := by
  refine F.ok scDraw (fun vs H Q E h => ?_) (fun cdv A outer s H vs Q E hr h => ?_)
  · obtain ⟨a, m, rfl, _⟩ := h
    rfl
  · obtain ⟨a, m, rfl, ⟨x, y, z, ha⟩, hm, hm2, k⟩ := h
    have fin : ∀ (t : Int) (H' : Hp), Kp a H H' → WellAt H' a → Q (.int (t % m)) H' := fun t H' kp w' => by
      have h1 := Int.emod_nonneg t (show m ≠ 0 by omega)
      have h2 := Int.emod_lt_of_pos t hm
      have := k (t % m).toNat H' (by omega) kp w'
      rw [show natV (t % m).toNat = V.int (t % m) by show V.int _ = _; congr 1; omega] at this
      exact this
    refine ⟨_, (pss_cons (ps_if (pt_cmpR op_gt (pe_ix ix_list (pv 0) pe_int (fun _ _ => rfl)) pe_int (nomark _)) (pss_cons (ps_set (i := 2) scDraw.nd rfl (Or.inl rfl) (pe_op op_mod (pe_ix ix_list (pv 0) pe_int (fun _ _ => rfl)) (pv 1))) (pss_cons (ps_asg (pe_op op_fdivM (pe_ix ix_list (pv 0) pe_int (fun _ _ => rfl)) (pv 1)) (pg_sub (pv 0) pe_int set_list)) (pss_one (ps_ret (pv 2))))) pss_nil) (pss_cons (ps_asg (pe_op op_add (pe_ix ix_list (pv 0) pe_int (fun _ _ => rfl)) pe_int) (pg_sub (pv 0) pe_int set_list)) (pss_cons (ps_set (i := 2) scDraw.nd rfl (Or.inl rfl) (pe_op op_mod (pe_op op_mul (pe_op op_add (pe_op op_add (pe_ix ix_list (pv 0) pe_int (fun _ _ => rfl)) (pe_op op_mul pe_int (pe_ix ix_list (pv 0) pe_int (fun _ _ => rfl)))) pe_int) pe_int) pe_int)) (pss_cons (ps_set (i := 2) scDraw.nd rfl (Or.inl rfl) (pe_op op_mod (pe_op op_mul (pv 2) (pe_op op_add (pe_op op_fdivM (pv 2) pe_int) pe_int)) pe_int)) (pss_cons (ps_set (i := 2) scDraw.nd rfl (Or.inl rfl) (pe_op op_mod (pe_op op_mul (pv 2) (pe_op op_add (pe_op op_fdivM (pv 2) pe_int) pe_int)) pe_int)) (pss_one (ps_ret (pe_op op_mod (pe_op op_add (pe_op op_mul (pv 2) pe_int) (pe_op op_fdivM (pv 2) pe_int)) (pv 1))))))))), ?_⟩
    refine ⟨_, rfl, a, _, _, _, rfl, rfl, SqL.of ha, rfl, _, _, rfl, rfl, _, rfl, ?_⟩
    refine ite2 (fun _ => ?_) (fun _ => ?_)
    · refine ⟨_, rfl, a, _, _, _, rfl, rfl, SqL.of ha, rfl, _, rfl, _, _, rfl, rfl, hm, ?_⟩
      refine ⟨_, rfl, a, _, _, _, rfl, rfl, SqL.of ha, rfl, _, rfl, _, _, rfl, rfl, ⟨hm, hm2⟩, ?_⟩
      refine ⟨_, rfl, a, _, _, 1, rfl, rfl, ha, rfl, ?_⟩
      exact ⟨_, rfl, fin _ _ kpUpd ⟨_, _, _, upd_same⟩⟩
    · refine ⟨_, rfl, a, _, _, _, rfl, rfl, SqL.of ha, rfl, _, _, rfl, rfl, ?_⟩
      refine ⟨_, rfl, a, _, _, 2, rfl, rfl, ha, rfl, ?_⟩
      have hb : (upd H a (.lst ([V.int x, V.int y, V.int z].set 2 (.int (z + 1))))) a = some (.lst [.int x, .int y, .int (z + 1)]) := upd_same
      refine ⟨_, rfl, a, _, _, _, rfl, rfl, SqL.of hb, rfl, _, rfl, a, _, _, _, rfl, rfl, SqL.of hb, rfl, _, _, rfl, rfl, .inl ⟨by decide, by decide⟩, _, _, rfl, rfl, _, _, rfl, rfl, _, _, rfl, rfl, .inr ⟨by decide, by decide⟩, _, _, rfl, rfl, (by show (0 : Int) < 2147483647; decide), ?_⟩
      refine ⟨_, rfl, _, rfl, _, _, rfl, rfl, ⟨by decide, by decide⟩, _, _, rfl, rfl, _, _, rfl, rfl, .inl (modb _), _, _, rfl, rfl, (by show (0 : Int) < 2147483647; decide), ?_⟩
      refine ⟨_, rfl, _, rfl, _, _, rfl, rfl, ⟨by decide, by decide⟩, _, _, rfl, rfl, _, _, rfl, rfl, .inl (modb _), _, _, rfl, rfl, (by show (0 : Int) < 2147483399; decide), ?_⟩
      refine ⟨_, rfl, _, _, rfl, rfl, .inl (modc _), _, rfl, _, _, rfl, rfl, ⟨by decide, by decide⟩, _, _, rfl, rfl, _, rfl, _, _, rfl, rfl, hm, ?_⟩
      exact fin _ _ kpUpd ⟨_, _, _, upd_same⟩
end
end KV
namespace KV
open PySem PyProof.Rows L2
structure Cf (K : PySem.W.Frag) (C : Addr) (fs : List Str) : Prop where
  cl : Cls K C
  na : ∀ f ∈ fs, NoAttr K C f
def spI1 (K : PySem.W.Frag) (a : Str) : Sp := fun vs H Q _ => ∃ (p C dx : Addr) (x : V), vs = [.ref p, x] ∧ H p = some (.ins C dx []) ∧ Cf K C [a] ∧ Q .non (upd H p (.ins C dx [(a, x)]))
def spI2 (K : PySem.W.Frag) (a b : Str) : Sp := fun vs H Q _ => ∃ (p C dx : Addr) (x y : V), vs = [.ref p, x, y] ∧ H p = some (.ins C dx []) ∧ Cf K C [a, b] ∧ Q .non (upd (upd H p (.ins C dx [(a, x)])) p (.ins C dx [(a, x), (b, y)]))
def spI3 (K : PySem.W.Frag) (a b c : Str) : Sp := fun vs H Q _ => ∃ (p C dx : Addr) (x y z : V), vs = [.ref p, x, y, z] ∧ H p = some (.ins C dx []) ∧ Cf K C [a, b, c] ∧ Q .non (upd (upd (upd H p (.ins C dx [(a, x)])) p (.ins C dx [(a, x), (b, y)])) p (.ins C dx [(a, x), (b, y), (c, z)]))
section
variable {P : Program} {w : World} {K : PySem.W.Frag} {mg : Str → Option Value} {base : Heap}
theorem scNInit : FnScope ["self", "value"] ["self", "value"] (defScope sNInit) := ⟨rfl, rfl, rfl, by decide +kernel, rfl, by decide +kernel, by decide +kernel⟩
theorem ok_ninit {f : Addr} {fd : FuncData} (F : Fun K "__init__" "Number.__init__" sNInit f fd) : FnOk P w K mg base CX0 1 f fd ["self", "value"] (spI1 K "value") := by
  refine F.ok scNInit (fun vs H Q E h => ?_) (fun cdv A outer s H vs Q E hr h => ?_)
  · obtain ⟨p, C, dx, x, rfl, _⟩ := h
    rfl
  · obtain ⟨p, C, dx, x, rfl, hp, c, q⟩ := h
    refine ⟨_, (pss_one (ps_fld (pv 0) (pv 1) rfl)), ?_⟩
    exact ⟨_, rfl, _, rfl, p, C, dx, _, rfl, hp, c.cl, c.na _ (by simp), by decide, q⟩
theorem scKInit : FnScope ["self", "back", "steps"] ["self", "back", "steps"] (defScope sKInit) := ⟨rfl, rfl, rfl, by decide +kernel, rfl, by decide +kernel, by decide +kernel⟩
theorem ok_kinit {f : Addr} {fd : FuncData} (F : Fun K "__init__" "Take.__init__" sKInit f fd) : FnOk P w K mg base CX0 1 f fd ["self", "back", "steps"] (spI2 K "back" "steps") := by
  refine F.ok scKInit (fun vs H Q E h => ?_) (fun cdv A outer s H vs Q E hr h => ?_)
  · obtain ⟨p, C, dx, x, y, rfl, _⟩ := h
    rfl
  · obtain ⟨p, C, dx, x, y, rfl, hp, c, q⟩ := h
    refine ⟨_, (pss_cons (ps_fld (pv 0) (pv 1) rfl) (pss_one (ps_fld (pv 0) (pv 2) rfl))), ?_⟩
    refine ⟨_, rfl, _, rfl, p, C, dx, _, rfl, hp, c.cl, c.na _ (by simp), by decide, ?_⟩
    exact ⟨_, rfl, _, rfl, p, C, dx, _, rfl, upd_same, c.cl, c.na _ (by simp), by show (1 : Nat) < 1000; decide, q⟩
theorem scPInit : FnScope ["self", "one", "other"] ["self", "one", "other"] (defScope sPInit) := ⟨rfl, rfl, rfl, by decide +kernel, rfl, by decide +kernel, by decide +kernel⟩
theorem ok_pinit {f : Addr} {fd : FuncData} (F : Fun K "__init__" "Paired.__init__" sPInit f fd) : FnOk P w K mg base CX0 1 f fd ["self", "one", "other"] (spI2 K "one" "other") := by
  refine F.ok scPInit (fun vs H Q E h => ?_) (fun cdv A outer s H vs Q E hr h => ?_)
  · obtain ⟨p, C, dx, x, y, rfl, _⟩ := h
    rfl
  · obtain ⟨p, C, dx, x, y, rfl, hp, c, q⟩ := h
    refine ⟨_, (pss_cons (ps_fld (pv 0) (pv 1) rfl) (pss_one (ps_fld (pv 0) (pv 2) rfl))), ?_⟩
    refine ⟨_, rfl, _, rfl, p, C, dx, _, rfl, hp, c.cl, c.na _ (by simp), by decide, ?_⟩
    exact ⟨_, rfl, _, rfl, p, C, dx, _, rfl, upd_same, c.cl, c.na _ (by simp), by show (1 : Nat) < 1000; decide, q⟩
theorem scRInit : FnScope ["self", "one", "by"] ["self", "one", "by"] (defScope sRInit) := ⟨rfl, rfl, rfl, by decide +kernel, rfl, by decide +kernel, by decide +kernel⟩
theorem ok_rinit {f : Addr} {fd : FuncData} (F : Fun K "__init__" "Rest.__init__" sRInit f fd) : FnOk P w K mg base CX0 1 f fd ["self", "one", "by"] (spI2 K "one" "by") := by
  refine F.ok scRInit (fun vs H Q E h => ?_) (fun cdv A outer s H vs Q E hr h => ?_)
  · obtain ⟨p, C, dx, x, y, rfl, _⟩ := h
    rfl
  · obtain ⟨p, C, dx, x, y, rfl, hp, c, q⟩ := h
    refine ⟨_, (pss_cons (ps_fld (pv 0) (pv 1) rfl) (pss_one (ps_fld (pv 0) (pv 2) rfl))), ?_⟩
    refine ⟨_, rfl, _, rfl, p, C, dx, _, rfl, hp, c.cl, c.na _ (by simp), by decide, ?_⟩
    exact ⟨_, rfl, _, rfl, p, C, dx, _, rfl, upd_same, c.cl, c.na _ (by simp), by show (1 : Nat) < 1000; decide, q⟩
theorem scCInit : FnScope ["self", "test", "one", "other"] ["self", "test", "one", "other"] (defScope sCInit) := ⟨rfl, rfl, rfl, by decide +kernel, rfl, by decide +kernel, by decide +kernel⟩
theorem ok_cinit {f : Addr} {fd : FuncData} (F : Fun K "__init__" "Chosen.__init__" sCInit f fd) : FnOk P w K mg base CX0 1 f fd ["self", "test", "one", "other"] (spI3 K "test" "one" "other") := by
  refine F.ok scCInit (fun vs H Q E h => ?_) (fun cdv A outer s H vs Q E hr h => ?_)
  · obtain ⟨p, C, dx, x, y, z, rfl, _⟩ := h
    rfl
  · obtain ⟨p, C, dx, x, y, z, rfl, hp, c, q⟩ := h
    refine ⟨_, (pss_cons (ps_fld (pv 0) (pv 1) rfl) (pss_cons (ps_fld (pv 0) (pv 2) rfl) (pss_one (ps_fld (pv 0) (pv 3) rfl)))), ?_⟩
    refine ⟨_, rfl, _, rfl, p, C, dx, _, rfl, hp, c.cl, c.na _ (by simp), by decide, ?_⟩
    refine ⟨_, rfl, _, rfl, p, C, dx, _, rfl, upd_same, c.cl, c.na _ (by simp), by show (1 : Nat) < 1000; decide, ?_⟩
    exact ⟨_, rfl, _, rfl, p, C, dx, _, rfl, upd_same, c.cl, c.na _ (by simp), by show (2 : Nat) < 1000; decide, q⟩
end
end KV
namespace KV
open PySem PyProof.Rows L2
theorem Kp.new {a q : Addr} {H H' : Hp} {o : HO} (k : Kp a H H') (hq : H' q = none) : Kp a H (upd H' q o) := fun b u e n => by
  have := k b u e n
  rw [upd_ne (ne_of_none this hq)]; exact this
theorem Kp.free {a q : Addr} {H H' : Hp} (k : Kp a H H') (w : WellAt H' a) (hq : H' q = none) : H q = none := by
  cases g : H q with
  | none => rfl
  | some o =>
    have n : q ≠ a := fun z => by obtain ⟨x, y, z', e⟩ := w; rw [z, e] at hq; cases hq
    rw [k q o g n] at hq; cases hq
theorem Kp.upd {a q : Addr} {H H' : Hp} {o : HO} (k : Kp a H H') (hq : H q = none) : Kp a H (upd H' q o) := fun b u e n => by
  rw [upd_ne (ne_of_none e hq)]; exact k b u e n
theorem WellAt.upd {a q : Addr} {H : Hp} {o : HO} (h : WellAt H a) (n : q ≠ a) : WellAt (upd H q o) a := by
  obtain ⟨x, y, z, e⟩ := h
  exact ⟨x, y, z, by rw [upd_ne (Ne.symm n)]; exact e⟩
theorem TkY.mono {H H' : Hp} (k : ∀ c zs, H c = some (.tup zs) → H' c = some (.tup zs)) {x : TkR} (h : TkY H x) : TkY H' x := let ⟨q, h1, h2⟩ := h; ⟨q, k _ _ h1, k _ _ h2⟩
def spSteps : Sp := fun vs H Q _ => ∃ (a : Addr) (n : Nat), vs = [.ref a, natV n] ∧ WellAt H a ∧ n ≤ 3 ∧ ∀ (q : Addr) (ss : List Int) (H' : Hp), Kp a H H' → WellAt H' a → H' q = some (.tup (ss.map V.int)) → ss.length = n → Q (.ref q) H'
def spSome : Sp := fun vs H Q _ => ∃ (a : Addr) (n : Nat), vs = [.ref a, natV n] ∧ WellAt H a ∧ n ≤ 3 ∧ ∀ (l : Addr) (ps : List TkR) (H' : Hp), Kp a H H' → WellAt H' a → H l = none → H' l = some (.lst (ps.map fun x => V.ref x.2)) → (∀ x ∈ ps, TkY H' x ∧ x.1.2.length = n) → ps.length ≤ 4 → Q (.ref l) H'
def spNumber : Sp := fun vs H Q _ => ∃ (a : Addr), vs = [.ref a] ∧ WellAt H a ∧ ∀ (v : V) (n : Int) (H' : Hp), Kp a H H' → WellAt H' a → TupAt H' (.num n) v → n.natAbs < 2 ^ 41 → Q v H'
section
variable {P : Program} {w : World} {K : PySem.W.Frag} {mg : Str → Option Value} {base : Heap}
abbrev NSteps : List Str := ["_law_well_here", "_law_lines", "_law_wide"]
theorem scSteps : FnScope ["_law_well_here", "_law_lines", "_law_wide"] ["_law_well_here", "_law_lines"] (defScope sSteps) := ⟨rfl, rfl, rfl, by decide +kernel, rfl, by decide +kernel, by decide +kernel⟩
theorem ok_steps {f : Addr} {fd : FuncData} (F : Fun K "_law_steps" "_law_steps" sSteps f fd) (c_draw : Cal P w K mg base CX0 1 "_law_draw" ["_law_well_here", "_law_most"] spDraw) (T : Txt K mg) : FnOk P w K mg base CX0 2 f fd ["_law_well_here", "_law_lines"] spSteps := by
  refine F.ok scSteps (fun vs H Q E h => ?_) (fun cdv A outer s H vs Q E hr h => ?_)
  · obtain ⟨a, n, rfl, _⟩ := h
    rfl
  · obtain ⟨a, n, rfl, wa, n3, q⟩ := h
    refine ⟨_, (@pss_cons _ _ _ _ _ (ps_set (i := 2) scSteps.nd rfl (Or.inr rfl) (pe_ix ix_list (pe_lst (pa_cons pe_int (pa_cons pe_int (pa_cons pe_int (pa_cons pe_int pa_nil))))) (pe_c c_draw (hr.mono (by omega)) rfl pass0 (pa_cons (pv 0) (pa_cons pe_int pa_nil))) (fun _ _ => rfl))) (@pss_one _ _ _ (ps_ret (pe_callTy call_tuple_of rfl T.tuple boot_tuple (pa_cons (pe_cp (own := ["_law_k"]) (cap := [("_law_well_here", 0), ("_law_wide", 2)]) (g := gName 0) (defScope sSteps) NSteps rfl rfl (fun x h => cell_has h) (by decide +kernel) rfl (pi_range1 rfl T.range (pa_cons (pv 1) pa_nil)) (fun cl C s2 H2 fp => (pg_name (i := 0) (show (["_law_k", "_law_well_here", "_law_wide"] : List Str).Nodup by decide +kernel) rfl (Or.inl rfl) (Or.inr rfl))) (fun cl C s2 H2 fp => (pe_op op_sub (pe_c c_draw (hr.mono (by omega)) rfl pass0 (pa_cons (pv 1) (pa_cons (pv 2) pa_nil))) (pe_op op_fdiv (pv 2) pe_int)))) pa_nil))))), ?_⟩
    refine ⟨by show 4 ≤ sizeLine; decide, fun l0 hl0 => ⟨_, rfl, a, 4, rfl, wa.new hl0, by decide, by decide, fun r0 H1 hr0 k1' w1 => ?_⟩⟩
    have l0a : l0 ≠ a := wa.ne hl0
    obtain ⟨wide, hv, wp, w19⟩ : ∃ v : Nat, ([V.int 3, V.int 3, V.int 5, V.int 19] : List V)[r0]? = some (natV v) ∧ 0 < v ∧ v ≤ 19 := by
      match r0, (show r0 < 4 by omega) with
      | 0, _ => exact ⟨3, rfl, by decide, by decide⟩
      | 1, _ => exact ⟨3, rfl, by decide, by decide⟩
      | 2, _ => exact ⟨5, rfl, by decide, by decide⟩
      | 3, _ => exact ⟨19, rfl, by decide, by decide⟩
    refine ⟨l0, _, _, _, rfl, rfl, SqL.of (k1' _ _ upd_same l0a), atI_nat hv, ?_⟩
    have k1 : Kp a H H1 := (Kp.of (sameNew hl0)).trans k1'
    refine ⟨_, rfl, (n : Int), rfl, by omega, by omega, fun D hD => ?_⟩
    have hDn := k1.free w1 hD
    have hDa : D ≠ a := w1.ne hD
    refine comp_range (fun i acc σ H2 => ∃ (v0 : Option V) (ss : List Int), σ = [v0, some (.ref a), some (natV wide)] ∧ Kp a H H2 ∧ WellAt H2 a ∧ H2 D = some (.lst acc) ∧ acc = ss.map V.int ∧ ss.length = i) ⟨_, [], rfl, k1.new hD, w1.new hD, upd_same, rfl, rfl⟩ ?_ ?_
    · rintro i acc σ H2 hi ⟨v0, ss, rfl, k2, w2, hD2, rfl, hll⟩
      refine ⟨_, rfl, _, rfl, a, (wide : Int), rfl, w2, by omega, by omega, fun r H4 hr4 k4 w4 => ?_⟩
      have hD4 : H4 D = some (.lst (ss.map V.int)) := k4 _ _ hD2 hDa
      refine ⟨_, rfl, _, _, rfl, rfl, ⟨by decide, by decide⟩, _, _, rfl, rfl, cturn hD4 (small (by rw [List.length_map]; omega)) hi ⟨_, ss ++ [(r : Int) - (wide : Int) / 2], rfl, (k2.trans k4).upd hDn, w4.upd hDa, upd_same, by rw [List.map_append]; rfl, by rw [List.length_append, hll]; rfl⟩⟩
    · rintro acc σ H2 ⟨v0, ss, rfl, k2, w2, hD2, rfl, hll⟩
      refine ⟨D, _, rfl, .inl ⟨SqL.of hD2, fun t ht => ?_⟩⟩
      exact q t ss _ (k2.new ht) (w2.new ht) upd_same (by rw [hll]; omega)
end
end KV
namespace KV
open PySem PyProof.Rows L2
section
variable {P : Program} {w : World} {K : PySem.W.Frag} {mg : Str → Option Value} {base : Heap}
abbrev NSome : List Str := ["_law_well_here", "_law_lines"]
theorem scSome : FnScope ["_law_well_here", "_law_lines"] ["_law_well_here", "_law_lines"] (defScope sSome) := ⟨rfl, rfl, rfl, by decide +kernel, rfl, by decide +kernel, by decide +kernel⟩
theorem ok_some {f : Addr} {fd : FuncData} (F : Fun K "_law_some_takes" "_law_some_takes" sSome f fd) (c_draw : Cal P w K mg base CX0 1 "_law_draw" ["_law_well_here", "_law_most"] spDraw) (c_steps : Cal P w K mg base CX0 2 "_law_steps" ["_law_well_here", "_law_lines"] spSteps) (T : Txt K mg) : FnOk P w K mg base CX0 3 f fd ["_law_well_here", "_law_lines"] spSome := by
  refine F.ok scSome (fun vs H Q E h => ?_) (fun cdv A outer s H vs Q E hr h => ?_)
  · obtain ⟨a, n, rfl, _⟩ := h
    rfl
  · obtain ⟨a, n, rfl, wa, n3, q⟩ := h
    refine ⟨_, (pss_one (ps_ret (pe_cp (own := ["_law_k"]) (cap := [("_law_well_here", 0), ("_law_lines", 1)]) (g := gName 0) (defScope sSome) NSome rfl rfl (fun x h => cell_has h) (by decide +kernel) rfl (pi_range1 rfl T.range (pa_cons (pe_c c_draw (hr.mono (by omega)) rfl pass0 (pa_cons (pv 0) (pa_cons pe_int pa_nil))) pa_nil)) (fun cl C s2 H2 fp => (pg_name (i := 0) (show (["_law_k", "_law_well_here", "_law_lines"] : List Str).Nodup by decide +kernel) rfl (Or.inl rfl) (Or.inr rfl))) (fun cl C s2 H2 fp => (pe_tup (pa_cons (pe_op op_add pe_int (pe_c c_draw (hr.mono (by omega)) rfl pass0 (pa_cons (pv 1) (pa_cons pe_int pa_nil)))) (pa_cons (pe_c c_steps (hr.mono (by omega)) rfl pass0 (pa_cons (pv 1) (pa_cons (pv 2) pa_nil))) pa_nil))))))), ?_⟩
    refine ⟨_, rfl, a, 5, rfl, wa, by decide, by decide, fun r0 H1 hr0 k1 w1 => ?_⟩
    refine ⟨(r0 : Int), rfl, by omega, by omega, fun D hD => ?_⟩
    have hDn := k1.free w1 hD
    have hDa : D ≠ a := w1.ne hD
    refine comp_range (fun i acc σ H2 => ∃ (v0 : Option V) (ps : List TkR), σ = [v0, some (.ref a), some (natV n)] ∧ Kp a H H2 ∧ WellAt H2 a ∧ H2 D = some (.lst acc) ∧ acc = (ps.map fun x => V.ref x.2) ∧ ps.length = i ∧ ∀ x ∈ ps, TkY H2 x ∧ x.1.2.length = n) ⟨_, [], rfl, k1.new hD, w1.new hD, upd_same, rfl, rfl, fun _ h => nomatch h⟩ ?_ ?_
    · rintro i acc σ H2 hi ⟨v0, ps, rfl, k2, w2, hD2, rfl, hll, pk⟩
      refine ⟨_, rfl, a, 3, rfl, w2, by decide, by decide, fun r H4 hr4 k4 w4 => ⟨_, _, rfl, rfl, ?_⟩⟩
      refine ⟨_, rfl, _, rfl, a, n, rfl, w4, n3, fun u ss H5 k5 w5 e5 sl => ?_⟩
      refine ⟨by show 2 ≤ sizeLine; decide, fun t ht => ?_⟩
      have k25 := k4.trans k5
      have hD5 : H5 D = some (.lst (ps.map fun x => V.ref x.2)) := k25 _ _ hD2 hDa
      have tD : t ≠ D := Ne.symm (ne_of_none hD5 ht)
      have uD : u ≠ D := fun z => by rw [z, hD5] at e5; cases e5
      refine cturn (by rw [upd_ne (Ne.symm tD)]; exact hD5) (small (by rw [List.length_map]; omega)) hi ⟨_, ps ++ [((1 + (r : Int), ss), t)], rfl, ((k2.trans k25).new ht).upd hDn, (w5.new ht).upd hDa, upd_same, by rw [List.map_append]; rfl, by rw [List.length_append, hll]; rfl, fun x hx => ?_⟩
      have up : ∀ c zs, H5 c = some (.tup zs) → upd (upd H5 t (.tup [V.int (1 + (r : Int)), V.ref u])) D (.lst (ps.map (fun x => V.ref x.2) ++ [V.ref t])) c = some (.tup zs) := fun c zs e => by
        have cD : c ≠ D := fun z => by rw [z, hD5] at e; cases e
        rw [upd_ne cD, upd_ne (ne_of_none e ht)]
        exact e
      rcases List.mem_append.mp hx with m | m
      · obtain ⟨g1, g2⟩ := pk x m
        exact ⟨g1.mono fun c zs e => up c zs (k25.tup w2 e), g2⟩
      · rw [List.mem_singleton.mp m]
        exact ⟨⟨u, by rw [upd_ne tD, upd_same], up _ _ e5⟩, sl⟩
    · rintro acc σ H2 ⟨v0, ps, rfl, k2, w2, hD2, rfl, hll, pk⟩
      exact q D ps H2 k2 w2 hDn hD2 pk (by omega)
end
end KV
namespace KV
open PySem PyProof.Rows L2
section
variable {P : Program} {w : World} {K : PySem.W.Frag} {mg : Str → Option Value} {base : Heap}
theorem scNumber : FnScope ["_law_well_here", "_law_far"] ["_law_well_here"] (defScope sNumber) := ⟨rfl, rfl, rfl, by decide +kernel, rfl, by decide +kernel, by decide +kernel⟩
theorem ok_number {f : Addr} {fd : FuncData} (F : Fun K "_law_number" "_law_number" sNumber f fd) (c_draw : Cal P w K mg base CX0 1 "_law_draw" ["_law_well_here", "_law_most"] spDraw) : FnOk P w K mg base CX0 2 f fd ["_law_well_here"] spNumber := by
  refine F.ok scNumber (fun vs H Q E h => ?_) (fun cdv A outer s H vs Q E hr h => ?_)
  · obtain ⟨a, rfl, _⟩ := h
    rfl
  · obtain ⟨a, rfl, wa, q⟩ := h
    refine ⟨_, (@pss_cons _ _ _ _ _ (ps_set (i := 1) scNumber.nd rfl (Or.inl rfl) (pe_ix ix_list (pe_lst (pa_cons pe_int (pa_cons pe_int (pa_cons (pe_op op_add (pe_op op_mul pe_int (pe_op op_pow pe_int pe_int)) pe_int) pa_nil)))) (pe_c c_draw (hr.mono (by omega)) rfl pass0 (pa_cons (pv 0) (pa_cons pe_int pa_nil))) (fun _ _ => rfl))) (@pss_one _ _ _ (ps_ret (pe_tup (pa_cons pe_str (pa_cons (pe_op op_sub (pe_c c_draw (hr.mono (by omega)) rfl pass0 (pa_cons (pv 0) (pa_cons (pv 1) pa_nil))) (pe_op op_fdiv (pv 1) pe_int)) pa_nil)))))), ?_⟩
    refine ⟨_, _, rfl, rfl, ⟨by decide, by decide, by decide⟩, _, _, rfl, rfl, .inl ⟨by decide, by decide⟩, _, _, rfl, rfl, by show 3 ≤ sizeLine; decide, fun l0 hl0 => ⟨_, rfl, a, 3, rfl, wa.new hl0, by decide, by decide, fun r0 H1 hr0 k1' w1 => ?_⟩⟩
    have l0a : l0 ≠ a := wa.ne hl0
    obtain ⟨far, hv, f0, f1⟩ : ∃ v : Nat, ([V.int 7, V.int 201, V.int (2 * 10 ^ 12 + 1)] : List V)[r0]? = some (natV v) ∧ 0 < v ∧ v ≤ 2000000000001 := by
      match r0, (show r0 < 3 by omega) with
      | 0, _ => exact ⟨7, rfl, by decide, by decide⟩
      | 1, _ => exact ⟨201, rfl, by decide, by decide⟩
      | 2, _ => exact ⟨2000000000001, rfl, by decide, by decide⟩
    refine ⟨l0, _, _, _, rfl, rfl, SqL.of (k1' _ _ upd_same l0a), atI_nat hv, ?_⟩
    have k1 : Kp a H H1 := (Kp.of (sameNew hl0)).trans k1'
    refine ⟨_, rfl, _, rfl, a, (far : Int), rfl, w1, by omega, by omega, fun r H2 hr2 k2 w2 => ?_⟩
    refine ⟨_, rfl, _, _, rfl, rfl, ⟨by decide, by decide⟩, _, _, rfl, rfl, by show 2 ≤ sizeLine; decide, fun t ht => ?_⟩
    exact q _ _ _ ((k1.trans k2).new ht) (w2.new ht) ⟨t, rfl, upd_same⟩ (by omega)
end
end KV
namespace KV
open PySem PyProof.Rows L2
structure SomeAt (H : Hp) (so : Addr) (ps : List TkR) : Prop where
  at_ : H so = some (.lst (ps.map fun x => V.ref x.2))
  pk : ∀ x ∈ ps, TkY H x
  len : ps.length ≤ 8
theorem SomeAt.kp {a : Addr} {H H' : Hp} {so : Addr} {ps : List TkR} (k : Kp a H H') (w : WellAt H a) (n : so ≠ a) (h : SomeAt H so ps) : SomeAt H' so ps := ⟨k _ _ h.at_ n, fun x hx => (h.pk x hx).mono fun _ _ e => k.tup w e, h.len⟩
def spTold (d : Nat) : Sp := fun vs H Q _ => ∃ (a so : Addr) (ps : List TkR) (e : Nat), vs = [.ref a, .ref so, natV e] ∧ WellAt H a ∧ so ≠ a ∧ SomeAt H so ps ∧ e < d ∧ ∀ (v : V) (t : Tm) (H' : Hp), Kp a H H' → WellAt H' a → TupAt H' t v → ht t ≤ e + 1 → Wf t → (∀ x ∈ raw t, x ∈ ps.map (·.1)) → Q v H'
abbrev Av0 : Addr → Prop := fun _ => False
def dTk (x : Tk) : D := .tp [.fl (.int x.1), .tp (x.2.map fun k => .fl (.int k))]
def dTks (l : List Tk) : D := .ls (l.map dTk)
theorem dens_ints {H : Hp} : ∀ l : List Int, DensN Av0 H (l.map fun k => .fl (.int k)) (l.map V.int)
  | [] => rfl
  | n :: ns => ⟨_, _, rfl, ⟨rfl, rfl⟩, dens_ints ns⟩
theorem dens_tks {H : Hp} : ∀ {ps : List TkR}, (∀ x ∈ ps, TkY H x) → DensN Av0 H ((ps.map (·.1)).map dTk) (ps.map fun x => V.ref x.2)
  | [], _ => rfl
  | x :: ps, h => by
    obtain ⟨q, h1, h2⟩ := h x List.mem_cons_self
    exact ⟨_, _, rfl, ⟨x.2, _, rfl, h1, .cons .fl (.cons ⟨q, _, rfl, h2, dens_ints x.1.2⟩ .nil)⟩, dens_tks fun y hy => h y (List.mem_cons_of_mem _ hy)⟩
theorem dep_ints : ∀ l : List Int, D.deps (l.map fun k => D.fl (.int k)) = 0
  | [] => by rw [List.map_nil, D.deps]
  | n :: ns => by rw [List.map_cons, D.deps, D.dep, dep_ints ns]; rfl
theorem dep_tks : ∀ l : List Tk, D.deps (l.map dTk) ≤ 2
  | [] => by rw [List.map_nil, D.deps]; decide
  | x :: l => by
    rw [List.map_cons, D.deps]
    refine Nat.max_le.mpr ⟨?_, dep_tks l⟩
    simp [dTk, D.dep, D.deps, dep_ints]
theorem fn_none {P : Program} {w : World} {K : PySem.W.Frag} {mg : Str → Option Value} {base : Heap} {CX : CXT} {k : Nat} {f : Addr} {fd : FuncData} {ps : List Str} {sp : Sp} (h : ∀ vs H Q E, ¬ sp vs H Q E) : FnOk P w K mg base CX k f fd ps sp :=
  ⟨fun vs H Q E z => absurd z (h vs H Q E), fun _ _ _ H _ _ vs Q E _ _ _ _ z => absurd z (h vs H Q E)⟩
section
variable {P : Program} {w : World} {K : PySem.W.Frag} {mg : Str → Option Value} {base : Heap}
theorem scTold : FnScope ["_law_well_here", "_law_some", "_law_deep", "_law_way", "_law_one", "_law_other"] ["_law_well_here", "_law_some", "_law_deep"] (defScope sTold) := ⟨rfl, rfl, rfl, by decide +kernel, rfl, by decide +kernel, by decide +kernel⟩
theorem ok_told {f : Addr} {fd : FuncData} {d : Nat} (F : Fun K "_law_told" "_law_told" sTold f fd) (c_draw : Cal P w K mg base CX0 1 "_law_draw" ["_law_well_here", "_law_most"] spDraw) (c_number : Cal P w K mg base CX0 2 "_law_number" ["_law_well_here"] spNumber)
    (c_told : Cal P w K mg base CX0 (d + 2) "_law_told" ["_law_well_here", "_law_some", "_law_deep"] (spTold d)) (T : Txt K mg) : FnOk P w K mg base CX0 (d + 3) f fd ["_law_well_here", "_law_some", "_law_deep"] (spTold (d + 1)) := by
  refine F.ok scTold (fun vs H Q E h => ?_) (fun cdv A outer s H vs Q E hr h => ?_)
  · obtain ⟨a, so, ps, e, rfl, _⟩ := h
    rfl
  · obtain ⟨a, so, ps, e, rfl, wa, na, S, hd, q⟩ := h
    have hu := hu_of2 hr
    refine ⟨_, (@pss_cons _ _ _ _ _ (ps_set (i := 3) scTold.nd rfl (Or.inl rfl) (pe_c c_draw (hr.mono (by omega)) rfl pass0 (pa_cons (pv 0) (pa_cons pe_int pa_nil)))) (@pss_cons _ _ _ _ _ (ps_if (PW.pt (pw_or (pt_cmpR op_eq (pv 2) pe_int (nomark _)) (pw_or1 (pt_cmpR op_lt (pv 3) pe_int (nomark _))))) (@pss_cons _ _ _ _ _ (ps_if (PW.pt (pw_or (pt_cmpR (op_eqD hu) (pv 1) (pe_lst pa_nil) (nomark _)) (pw_or1 (pt_cmpR op_eq (pe_c c_draw (hr.mono (by omega)) rfl pass0 (pa_cons (pv 0) (pa_cons pe_int pa_nil))) pe_int (nomark _))))) (@pss_one _ _ _ (ps_ret (pe_c c_number (hr.mono (by omega)) rfl pass0 (pa_cons (pv 0) pa_nil)))) pss_nil) (@pss_one _ _ _ (ps_ret (pe_op op_catT (pe_tup (pa_cons pe_str pa_nil)) (pe_ix ix_list (pv 1) (pe_c c_draw (hr.mono (by omega)) rfl pass0 (pa_cons (pv 0) (pa_cons (pe_callB call_len_seq (by rfl) T.len PySem.boot_len (pa_cons (pv 1) pa_nil)) pa_nil))) (fun _ _ => rfl)))))) pss_nil) (@pss_cons _ _ _ _ _ (ps_set (i := 4) scTold.nd rfl (Or.inl rfl) (pe_c c_told (hr.mono (by omega)) rfl pass0 (pa_cons (pv 0) (pa_cons (pv 1) (pa_cons (pe_op op_sub (pv 2) pe_int) pa_nil))))) (@pss_cons _ _ _ _ _ (ps_if (pt_cmpR op_eq (pv 3) pe_int (nomark _)) (@pss_one _ _ _ (ps_ret (pe_tup (pa_cons pe_str (pa_cons (pv 4) (pa_cons (pe_op op_add pe_int (pe_c c_draw (hr.mono (by omega)) rfl pass0 (pa_cons (pv 0) (pa_cons (pe_ix ix_list (pe_lst (pa_cons pe_int (pa_cons (pe_op op_pow pe_int pe_int) pa_nil))) (pe_c c_draw (hr.mono (by omega)) rfl pass0 (pa_cons (pv 0) (pa_cons pe_int pa_nil))) (fun _ _ => rfl)) pa_nil)))) pa_nil)))))) pss_nil) (@pss_cons _ _ _ _ _ (ps_set (i := 5) scTold.nd rfl (Or.inl rfl) (pe_c c_told (hr.mono (by omega)) rfl pass0 (pa_cons (pv 0) (pa_cons (pv 1) (pa_cons (pe_op op_sub (pv 2) pe_int) pa_nil))))) (@pss_cons _ _ _ _ _ (ps_if (pt_cmpR op_eq (pv 3) pe_int (nomark _)) (@pss_one _ _ _ (ps_ret (pe_tup (pa_cons pe_str (pa_cons (pv 4) (pa_cons (pv 5) (pa_cons (pe_c c_told (hr.mono (by omega)) rfl pass0 (pa_cons (pv 0) (pa_cons (pv 1) (pa_cons (pe_op op_sub (pv 2) pe_int) pa_nil)))) pa_nil))))))) pss_nil) (@pss_one _ _ _ (ps_ret (pe_tup (pa_cons (pe_ix ix_list (pe_clst rfl) (pe_c c_draw (hr.mono (by omega)) rfl pass0 (pa_cons (pv 0) (pa_cons pe_int pa_nil))) (fun _ _ => rfl)) (pa_cons (pv 4) (pa_cons (pv 5) pa_nil)))))))))))), ?_⟩
    refine ⟨_, rfl, a, 13, rfl, wa, by decide, by decide, fun way H1 hw k1 w1 => ?_⟩
    have S1 := S.kp k1 wa na
    refine (fun (leaf : (?L : Prop)) => ?main) ?leafp
    case main =>
      refine ⟨_, rfl, rfl, _, rfl, ?_⟩
      by_cases e0 : e = 0
      · refine iteTe (decide_eq_true (by rw [e0]; rfl)) ?_
        exact leaf
      refine iteFe (decide_eq_false fun z => e0 (by have := V.int.inj z; omega)) ?_
      refine ⟨_, rfl, _, _, rfl, rfl, _, rfl, ?_⟩
      by_cases w4 : way < 4
      · refine iteTe (decide_eq_true (by omega)) ?_
        exact leaf
      refine iteFe (decide_eq_false (by omega)) ?_
      have lessE : ∀ x y : V, [x, y, V.int ((e : Int) - 1)] = [x, y, natV (e - 1)] := fun x y => by rw [show (e : Int) - 1 = ((e - 1 : Nat) : Int) by omega]
      refine ⟨_, rfl, _, rfl, _, rfl, _, _, rfl, rfl, a, so, ps, e - 1, lessE _ _, w1, na, S1, by omega, fun v1 t1 H2 k2 w2 u1 h1 f1 r1 => ?_⟩
      have k02 := k1.trans k2
      have S2 := S1.kp k2 w1 na
      refine ⟨_, rfl, rfl, _, rfl, ?_⟩
      by_cases w4 : way = 4
      · refine iteTe (decide_eq_true (by rw [w4]; rfl)) ?_
        refine ⟨_, rfl, _, rfl, _, _, rfl, rfl, ⟨by decide, by decide, by decide⟩, by show 2 ≤ sizeLine; decide, fun l0 hl0 => ⟨_, rfl, a, 2, rfl, w2.new hl0, by decide, by decide, fun r0 H5 hr0 k5' w5 => ?_⟩⟩
        have l0a : l0 ≠ a := w2.ne hl0
        obtain ⟨m, hv, m0, m1⟩ : ∃ m : Int, ([V.int 9, V.int (10 ^ 9)] : List V)[r0]? = some (.int m) ∧ 0 < m ∧ m < 1073741823 := by
          match r0, (show r0 < 2 by omega) with
          | 0, _ => exact ⟨9, rfl, by decide, by decide⟩
          | 1, _ => exact ⟨10 ^ 9, rfl, by decide, by decide⟩
        have k5 : Kp a H2 H5 := (Kp.of (sameNew hl0)).trans k5'
        refine ⟨l0, _, _, _, rfl, rfl, SqL.of (k5' _ _ upd_same l0a), atI_nat hv, a, m, rfl, w5, m0, by omega, fun r H6 hr6 k6 w6 => ?_⟩
        refine ⟨_, _, rfl, rfl, by show 3 ≤ sizeLine; decide, fun t ht => ?_⟩
        refine q _ (.rest t1 (1 + (r : Int))) _ ((k02.trans (k5.trans k6)).new ht) (w6.new ht) ⟨t, v1, rfl, upd_same, (u1.mono fun _ _ e => (k5.trans k6).tup w2 e).mono fun c zs e => sameNew ht _ _ e⟩ (by show _ + 1 ≤ _; omega) ⟨by omega, by omega, f1⟩ r1
      refine iteFe (decide_eq_false fun z => w4 (by have := V.int.inj z; omega)) ?_
      refine ⟨_, rfl, _, rfl, _, rfl, _, _, rfl, rfl, a, so, ps, e - 1, lessE _ _, w2, na, S2, by omega, fun v2 t2 H3 k3 w3 u2 h2 f2 r2 => ?_⟩
      have k03 := k02.trans k3
      have S3 := S2.kp k3 w2 na
      have u13 : TupAt H3 t1 v1 := u1.mono fun _ _ e => k3.tup w2 e
      refine ⟨_, rfl, rfl, _, rfl, ?_⟩
      by_cases w5 : way = 5
      · refine iteTe (decide_eq_true (by rw [w5]; rfl)) ?_
        refine ⟨_, rfl, _, rfl, _, rfl, _, rfl, _, rfl, _, _, rfl, rfl, a, so, ps, e - 1, lessE _ _, w3, na, S3, by omega, fun v3 t3 H4 k4 w4 u3 h3 f3 r3 => ?_⟩
        refine ⟨by show 4 ≤ sizeLine; decide, fun t ht => ?_⟩
        have up : ∀ c zs, H4 c = some (.tup zs) → upd H4 t (.tup [.str "?", v1, v2, v3]) c = some (.tup zs) := fun c zs e => sameNew ht _ _ e
        refine q _ (.cho t1 t2 t3) _ ((k03.trans k4).new ht) (w4.new ht) ⟨t, v1, v2, v3, rfl, upd_same, (u13.mono fun _ _ e => k4.tup w3 e).mono up, (u2.mono fun _ _ e => k4.tup w3 e).mono up, u3.mono up⟩ (by show max _ _ + 1 ≤ _; omega) ⟨f1, f2, f3⟩ fun x hx => ?_
        simp only [raw, List.mem_append] at hx
        rcases hx with z | z | z
        · exact r1 x z
        · exact r2 x z
        · exact r3 x z
      refine iteFe (decide_eq_false fun z => w5 (by have := V.int.inj z; omega)) ?_
      refine ⟨by show 5 ≤ sizeLine; decide, fun l0 hl0 => ⟨_, rfl, a, 5, rfl, w3.new hl0, by decide, by decide, fun r0 H5 hr0 k5' w5 => ?_⟩⟩
      have l0a : l0 ≠ a := w3.ne hl0
      obtain ⟨k, hv⟩ : ∃ k : Fin 5, ([V.str "+", V.str "-", V.str "*", V.str "min", V.str "max"] : List V)[r0]? = some (.str (opn k)) := by
        match r0, (show r0 < 5 by omega) with
        | 0, _ => exact ⟨0, rfl⟩
        | 1, _ => exact ⟨1, rfl⟩
        | 2, _ => exact ⟨2, rfl⟩
        | 3, _ => exact ⟨3, rfl⟩
        | 4, _ => exact ⟨4, rfl⟩
      have k5 : Kp a H3 H5 := (Kp.of (sameNew hl0)).trans k5'
      refine ⟨l0, _, _, _, rfl, rfl, SqL.of (k5' _ _ upd_same l0a), atI_nat hv, _, rfl, _, rfl, by show 3 ≤ sizeLine; decide, fun t ht => ?_⟩
      have up : ∀ c zs, H5 c = some (.tup zs) → upd H5 t (.tup [.str (opn k), v1, v2]) c = some (.tup zs) := fun c zs e => sameNew ht _ _ e
      refine q _ (.bin k t1 t2) _ ((k03.trans k5).new ht) (w5.new ht) ⟨t, v1, v2, rfl, upd_same, (u13.mono fun _ _ e => k5.tup w3 e).mono up, (u2.mono fun _ _ e => k5.tup w3 e).mono up⟩ (by show max _ _ + 1 ≤ _; omega) ⟨f1, f2⟩ fun x hx => ?_
      simp only [raw, List.mem_append] at hx
      rcases hx with z | z
      · exact r1 x z
      · exact r2 x z
    case leafp =>
      refine ⟨_, rfl, by show 0 ≤ sizeLine; decide, fun d5 n5 => ?_⟩
      generalize g : upd H1 d5 _ = H2
      obtain ⟨s2, e2⟩ := new_of n5 g
      have k2 := k1.same s2
      have w2 := w1.same s2
      have S2 : SomeAt H2 so ps := ⟨s2 _ _ S1.at_, fun x hx => (S1.pk x hx).same s2, S1.len⟩
      have dd := dep_tks (ps.map (·.1))
      refine ⟨dTks (ps.map (·.1)), .ls [], DenN.den K (Av := Av0) _ ⟨so, _, rfl, id, S2.at_, dens_tks S2.pk⟩, DenN.den K (Av := Av0) _ ⟨d5, _, rfl, id, e2, rfl⟩, by simp only [dTks, D.dep, D.deps]; omega, ?_⟩
      refine (fun (numb : ∀ H3, Kp a H H3 → WellAt H3 a → (?N : Hp → Prop) H3) => ?main2) ?nump
      case main2 =>
        refine ⟨_, rfl, ?_⟩
        by_cases hz : (dTks (ps.map (·.1))).eq (.ls []) = true
        · refine iteTe hz ?_
          refine iteT ?_
          exact numb H2 k2 w2
        · refine iteFe (Bool.eq_false_iff.mpr hz) ?_
          have ne : ps ≠ [] := fun z => by rw [z] at hz; simp [dTks, D.eq, D.eqs] at hz
          refine ⟨_, rfl, a, 3, rfl, w2, by decide, by decide, fun r H3 hr3 k3 w3 => ⟨rfl, _, rfl, ?_⟩⟩
          have k03 := k2.trans k3
          by_cases r0 : r = 0
          · refine iteTe (decide_eq_true (by rw [r0]; rfl)) ?_
            exact numb H3 k03 w3
          refine iteFe (decide_eq_false fun z => r0 (by have := V.int.inj z; omega)) ?_
          have S3 := S2.kp k3 w2 na
          refine ⟨by show 1 ≤ sizeLine; decide, fun t1 n1 => ?_⟩
          generalize g : upd H3 t1 _ = H4
          obtain ⟨s4, e4⟩ := new_of n1 g
          have w4 := w3.same s4
          have S4 : SomeAt H4 so ps := ⟨s4 _ _ S3.at_, fun x hx => (S3.pk x hx).same s4, S3.len⟩
          have pl : 0 < ps.length := List.length_pos_iff.mpr ne
          have p8 := S.len
          refine ⟨_, rfl, _, rfl, _, rfl, so, _, rfl, .inl (SqL.of S4.at_), a, (ps.length : Int), by rw [List.length_map]; rfl, w4, by omega, by omega, fun i H5 hi k5 w5 => ?_⟩
          have S5 := S4.kp k5 w4 na
          have il : i < ps.length := by omega
          refine ⟨so, _, _, _, rfl, rfl, SqL.of S5.at_, atI_nat (show (ps.map fun x => V.ref x.2)[i]? = some (.ref ps[i].2) by rw [List.getElem?_map, List.getElem?_eq_getElem il]; rfl), ?_⟩
          obtain ⟨u, h1, h2⟩ := S5.pk ps[i] (List.getElem_mem il)
          have e5 : H5 t1 = some (.tup [.str "take"]) := k5.tup w4 e4
          refine ⟨t1, ps[i].2, _, _, rfl, rfl, SqT.of e5, SqT.of h1, by simp, by show 3 ≤ sizeLine; decide, (fun z => nomatch z), fun _ t ht => ?_⟩
          refine q _ (.take ps[i].1.1 ps[i].1.2) _ (((k03.same s4).trans k5).new ht) (w5.new ht) ⟨t, u, rfl, upd_same, sameNew ht _ _ h2⟩ (by show 1 ≤ _; omega) True.intro fun x hx => ?_
          rw [List.mem_singleton.mp hx]
          exact List.mem_map.mpr ⟨ps[i], List.getElem_mem il, rfl⟩
      case nump =>
        intro H3 k3 w3
        exact ⟨_, rfl, a, rfl, w3, fun v n H4 k4 w4 tu hn => q v (.num n) H4 (k3.trans k4) w4 tu (by show 1 ≤ _; omega) hn fun x hx => nomatch hx⟩
end
end KV
namespace KV
open PySem PyProof.Rows L2
structure Mkr (P : Program) (w : World) (K : PySem.W.Frag) (mg : Str → Option Value) (base : Heap) (C : Addr) (x : Str) (ps : List Str) (sp : Sp) : Prop where
  ex : ∃ f fd, FnOk P w K mg base CX0 1 f fd ps sp ∧ Mk K C f ∧ mg x = some (.ref C) ∧ Binds K fd ps []
theorem pe_mk {X : Cx} {C : Addr} {x : Str} {ps : List Str} {sp : Sp} {E : XK} {e : Expr} {es : List Expr} {t : TA} {p pos : Pos} (R : Mkr X.prog X.w X.K X.mg X.base C x ps sp) (hr : Room 2 X.A) (hg : Gl X x) (hx : Passes CX0 X E) (ha : PA X (e :: es) t)
    (hdb : (x == ("__debug__" : Str)) = false := by decide) (he : starEach (e :: es) X.env = (false, eval e X.env) :: starEach es X.env := by rfl) (hpl : (backTo pos (starEach es X.env)).any (·.1) = false := by rfl) : PE X (.Call (.Name x p) (e :: es) [] pos) (tMake C sp [] E t) := by
  obtain ⟨f, fd, F, M, hm, hb⟩ := R.ex
  exact pe_make M F hr hg hm hb .nil hx ha hdb he hpl
theorem sF {a b : Str} (h : a ≠ b := by decide +kernel) : decide (V.str a = V.str b) = false := decide_eq_false fun z => h (V.str.inj z)
theorem opn_ne (k : Fin 5) : opn k ≠ "number" ∧ opn k ≠ "take" ∧ opn k ≠ "rest" ∧ opn k ≠ "?" := by
  match k with
  | 0 => exact ⟨by decide +kernel, by decide +kernel, by decide +kernel, by decide +kernel⟩
  | 1 => exact ⟨by decide +kernel, by decide +kernel, by decide +kernel, by decide +kernel⟩
  | 2 => exact ⟨by decide +kernel, by decide +kernel, by decide +kernel, by decide +kernel⟩
  | 3 => exact ⟨by decide +kernel, by decide +kernel, by decide +kernel, by decide +kernel⟩
  | 4 => exact ⟨by decide +kernel, by decide +kernel, by decide +kernel, by decide +kernel⟩
def bnm (k : Fin 5) : Str := match k with | 0 => "Added" | 1 => "Lessened" | 2 => "Multiplied" | 3 => "Least" | 4 => "Most"
def spMade (N : Cn) (d : Nat) : Sp := fun vs H Q _ => ∃ (v : V) (t : Tm), vs = [v] ∧ TupAt H t v ∧ ht t ≤ d ∧ ∀ (v' : V) (H' : Hp), Same H H' → TrmAt N H' t v' → Q v' H'
theorem new3 {H : Hp} {x dx C : Addr} {fs : List (Str × V)} (nx : H x = none) (nd : H dx = none) : Same H (upd (upd (upd H dx (.own x)) x (.ins C dx [])) x (.ins C dx fs)) := sameUpd nx (sameUpd nx (sameUpd nd (Same.refl H)))
theorem bin_done {N : Cn} {K : PySem.W.Frag} {H H1 : Hp} {k : Fin 5} {t1 t2 : Tm} {v1 v2 : V} {Q : VK} {E : XK} (c : Cf K (N.bin k) ["one", "other"]) (u1 : TrmAt N H1 t1 v1) (u2 : TrmAt N H1 t2 v2) (s : Same H H1) (q : ∀ (v' : V) (H' : Hp), Same H H' → TrmAt N H' (.bin k t1 t2) v' → Q v' H') :
    ∀ x dx, H1 x = none → H1 dx = none → dx ≠ x → spI2 K "one" "other" (.ref x :: ([v1, v2] ++ [])) (upd (upd H1 dx (.own x)) x (.ins (N.bin k) dx [])) (fun v H2 => v = .non ∧ Q (.ref x) H2) E := by
  intro x dx nx nd ne
  obtain ⟨p1, d1, f1, rfl, h1, g1⟩ := u1
  obtain ⟨p2, d2, f2, rfl, h2, g2⟩ := u2
  refine ⟨x, N.bin k, dx, .ref p1, .ref p2, rfl, upd_same, c, rfl, ?_⟩
  have sN : Same H1 (upd (upd (upd (upd H1 dx (.own x)) x (.ins (N.bin k) dx [])) x (.ins (N.bin k) dx [("one", .ref p1)])) x (.ins (N.bin k) dx [("one", .ref p1), ("other", .ref p2)])) := sameUpd nx (new3 nx nd)
  exact q _ _ (s.trans sN) ⟨x, dx, _, rfl, upd_same, p1, d1, f1, p2, d2, f2, rfl, ⟨sN _ _ h1, g1.same sN⟩, sN _ _ h2, g2.same sN⟩
section
variable {P : Program} {w : World} {K : PySem.W.Frag} {mg : Str → Option Value} {base : Heap} {N : Cn}
theorem scMade : FnScope ["_law_told_here", "_law_one", "_law_other"] ["_law_told_here"] (defScope sMade) := ⟨rfl, rfl, rfl, by decide +kernel, rfl, by decide +kernel, by decide +kernel⟩
theorem ok_made {f : Addr} {fd : FuncData} {d : Nat} (F : Fun K "_law_made" "_law_made" sMade f fd) (c_made : Cal P w K mg base CX0 (d + 2) "_law_made" ["_law_told_here"] (spMade N d))
    (R_num : Mkr P w K mg base N.num "Number" ["self", "value"] (spI1 K "value")) (R_take : Mkr P w K mg base N.take "Take" ["self", "back", "steps"] (spI2 K "back" "steps")) (R_rest : Mkr P w K mg base N.rest "Rest" ["self", "one", "by"] (spI2 K "one" "by")) (R_cho : Mkr P w K mg base N.cho "Chosen" ["self", "test", "one", "other"] (spI3 K "test" "one" "other"))
    (R_bin : ∀ k, Mkr P w K mg base (N.bin k) (bnm k) ["self", "one", "other"] (spI2 K "one" "other")) (c1 : Cf K N.num ["value"]) (c2 : Cf K N.take ["back", "steps"]) (c3 : Cf K N.rest ["one", "by"]) (c4 : Cf K N.cho ["test", "one", "other"]) (c5 : ∀ k, Cf K (N.bin k) ["one", "other"]) :
    FnOk P w K mg base CX0 (d + 3) f fd ["_law_told_here"] (spMade N (d + 1)) := by
  refine F.ok scMade (fun vs H Q E h => ?_) (fun cdv A outer s H vs Q E hr h => ?_)
  · obtain ⟨v, t, rfl, _⟩ := h
    rfl
  · obtain ⟨v, t, rfl, tu, hd, q⟩ := h
    refine ⟨_, (pss_cons (ps_if (pt_cmpR op_eq (pe_ix ix_tup (pv 0) pe_int (fun _ _ => rfl)) pe_str (nomark _)) (pss_one (ps_ret (pe_mk R_num (hr.mono (by omega)) rfl pass0 (pa_cons (pe_ix ix_tup (pv 0) pe_int (fun _ _ => rfl)) pa_nil)))) pss_nil) (pss_cons (ps_if (pt_cmpR op_eq (pe_ix ix_tup (pv 0) pe_int (fun _ _ => rfl)) pe_str (nomark _)) (pss_one (ps_ret (pe_mk R_take (hr.mono (by omega)) rfl pass0 (pa_cons (pe_ix ix_tup (pv 0) pe_int (fun _ _ => rfl)) (pa_cons (pe_ix ix_tup (pv 0) pe_int (fun _ _ => rfl)) pa_nil))))) pss_nil) (pss_cons (ps_set (i := 1) scMade.nd rfl (Or.inl rfl) (pe_c c_made (hr.mono (by omega)) rfl pass0 (pa_cons (pe_ix ix_tup (pv 0) pe_int (fun _ _ => rfl)) pa_nil))) (pss_cons (ps_if (pt_cmpR op_eq (pe_ix ix_tup (pv 0) pe_int (fun _ _ => rfl)) pe_str (nomark _)) (pss_one (ps_ret (pe_mk R_rest (hr.mono (by omega)) rfl pass0 (pa_cons (pv 1) (pa_cons (pe_ix ix_tup (pv 0) pe_int (fun _ _ => rfl)) pa_nil))))) pss_nil) (pss_cons (ps_set (i := 2) scMade.nd rfl (Or.inl rfl) (pe_c c_made (hr.mono (by omega)) rfl pass0 (pa_cons (pe_ix ix_tup (pv 0) pe_int (fun _ _ => rfl)) pa_nil))) (pss_cons (ps_if (pt_cmpR op_eq (pe_ix ix_tup (pv 0) pe_int (fun _ _ => rfl)) pe_str (nomark _)) (pss_one (ps_ret (pe_mk R_cho (hr.mono (by omega)) rfl pass0 (pa_cons (pv 1) (pa_cons (pv 2) (pa_cons (pe_c c_made (hr.mono (by omega)) rfl pass0 (pa_cons (pe_ix ix_tup (pv 0) pe_int (fun _ _ => rfl)) pa_nil)) pa_nil)))))) pss_nil) (pss_cons (ps_if (pt_cmpR op_eq (pe_ix ix_tup (pv 0) pe_int (fun _ _ => rfl)) pe_str (nomark _)) (pss_one (ps_ret (pe_mk (R_bin 0) (hr.mono (by omega)) rfl pass0 (pa_cons (pv 1) (pa_cons (pv 2) pa_nil))))) pss_nil) (pss_cons (ps_if (pt_cmpR op_eq (pe_ix ix_tup (pv 0) pe_int (fun _ _ => rfl)) pe_str (nomark _)) (pss_one (ps_ret (pe_mk (R_bin 1) (hr.mono (by omega)) rfl pass0 (pa_cons (pv 1) (pa_cons (pv 2) pa_nil))))) pss_nil) (pss_cons (ps_if (pt_cmpR op_eq (pe_ix ix_tup (pv 0) pe_int (fun _ _ => rfl)) pe_str (nomark _)) (pss_one (ps_ret (pe_mk (R_bin 2) (hr.mono (by omega)) rfl pass0 (pa_cons (pv 1) (pa_cons (pv 2) pa_nil))))) pss_nil) (pss_cons (ps_if (pt_cmpR op_eq (pe_ix ix_tup (pv 0) pe_int (fun _ _ => rfl)) pe_str (nomark _)) (pss_one (ps_ret (pe_mk (R_bin 3) (hr.mono (by omega)) rfl pass0 (pa_cons (pv 1) (pa_cons (pv 2) pa_nil))))) pss_nil) (pss_one (ps_ret (pe_mk (R_bin 4) (hr.mono (by omega)) rfl pass0 (pa_cons (pv 1) (pa_cons (pv 2) pa_nil))))))))))))))), ?_⟩
    cases t with
    | num n =>
      obtain ⟨p, rfl, hp⟩ := tu
      refine ⟨_, rfl, p, _, _, _, rfl, rfl, SqT.of hp, rfl, rfl, _, rfl, iteTe (decide_eq_true rfl) ?_⟩
      refine ⟨_, rfl, p, _, _, _, rfl, rfl, SqT.of hp, rfl, fun x dx nx nd ne => ⟨x, N.num, dx, .int n, rfl, upd_same, c1, rfl, ?_⟩⟩
      exact q _ _ (new3 nx nd) ⟨x, dx, _, rfl, upd_same, rfl⟩
    | take b ss =>
      obtain ⟨p, u, rfl, hp, hu⟩ := tu
      refine ⟨_, rfl, p, _, _, _, rfl, rfl, SqT.of hp, rfl, rfl, _, rfl, iteFe sF ?_⟩
      refine ⟨_, rfl, p, _, _, _, rfl, rfl, SqT.of hp, rfl, rfl, _, rfl, iteTe (decide_eq_true rfl) ?_⟩
      refine ⟨_, rfl, p, _, _, _, rfl, rfl, SqT.of hp, rfl, _, rfl, p, _, _, _, rfl, rfl, SqT.of hp, rfl, fun x dx nx nd ne => ⟨x, N.take, dx, .int b, .ref u, rfl, upd_same, c2, rfl, ?_⟩⟩
      have sN : Same H (upd (upd (upd (upd H dx (.own x)) x (.ins N.take dx [])) x (.ins N.take dx [("back", .int b)])) x (.ins N.take dx [("back", .int b), ("steps", .ref u)])) := sameUpd nx (new3 nx nd)
      exact q _ _ sN ⟨x, dx, _, rfl, upd_same, u, rfl, sN _ _ hu⟩
    | rest t1 y =>
      obtain ⟨p, v1, rfl, hp, tu1⟩ := tu
      have hd1 : ht t1 + 1 ≤ d + 1 := hd
      refine ⟨_, rfl, p, _, _, _, rfl, rfl, SqT.of hp, rfl, rfl, _, rfl, iteFe sF ?_⟩
      refine ⟨_, rfl, p, _, _, _, rfl, rfl, SqT.of hp, rfl, rfl, _, rfl, iteFe sF ?_⟩
      refine ⟨_, rfl, p, _, _, _, rfl, rfl, SqT.of hp, rfl, v1, t1, rfl, tu1, by omega, fun o1 H1 s1 u1 => ?_⟩
      refine ⟨_, rfl, p, _, _, _, rfl, rfl, SqT.of (s1 _ _ hp), rfl, rfl, _, rfl, iteTe (decide_eq_true rfl) ?_⟩
      obtain ⟨p1, d1, f1, rfl, h1, g1⟩ := u1
      refine ⟨_, rfl, _, rfl, p, _, _, _, rfl, rfl, SqT.of (s1 _ _ hp), rfl, fun x dx nx nd ne => ⟨x, N.rest, dx, .ref p1, .int y, rfl, upd_same, c3, rfl, ?_⟩⟩
      have sN : Same H1 (upd (upd (upd (upd H1 dx (.own x)) x (.ins N.rest dx [])) x (.ins N.rest dx [("one", .ref p1)])) x (.ins N.rest dx [("one", .ref p1), ("by", .int y)])) := sameUpd nx (new3 nx nd)
      exact q _ _ (s1.trans sN) ⟨x, dx, _, rfl, upd_same, p1, d1, f1, rfl, sN _ _ h1, g1.same sN⟩
    | cho t1 t2 t3 =>
      obtain ⟨p, v1, v2, v3, rfl, hp, tu1, tu2, tu3⟩ := tu
      have hd1 : max (ht t1) (max (ht t2) (ht t3)) + 1 ≤ d + 1 := hd
      refine ⟨_, rfl, p, _, _, _, rfl, rfl, SqT.of hp, rfl, rfl, _, rfl, iteFe sF ?_⟩
      refine ⟨_, rfl, p, _, _, _, rfl, rfl, SqT.of hp, rfl, rfl, _, rfl, iteFe sF ?_⟩
      refine ⟨_, rfl, p, _, _, _, rfl, rfl, SqT.of hp, rfl, v1, t1, rfl, tu1, by omega, fun o1 H1 s1 u1 => ?_⟩
      refine ⟨_, rfl, p, _, _, _, rfl, rfl, SqT.of (s1 _ _ hp), rfl, rfl, _, rfl, iteFe sF ?_⟩
      refine ⟨_, rfl, p, _, _, _, rfl, rfl, SqT.of (s1 _ _ hp), rfl, v2, t2, rfl, tu2.same s1, by omega, fun o2 H2 s2 u2 => ?_⟩
      have s12 := s1.trans s2
      refine ⟨_, rfl, p, _, _, _, rfl, rfl, SqT.of (s12 _ _ hp), rfl, rfl, _, rfl, iteTe (decide_eq_true rfl) ?_⟩
      refine ⟨_, rfl, _, rfl, _, rfl, p, _, _, _, rfl, rfl, SqT.of (s12 _ _ hp), rfl, v3, t3, rfl, tu3.same s12, by omega, fun o3 H3 s3 u3 => ?_⟩
      obtain ⟨p1, d1, f1, rfl, h1, g1⟩ := (u1.same s2).same s3
      obtain ⟨p2, d2, f2, rfl, h2, g2⟩ := u2.same s3
      obtain ⟨p3, d3, f3, rfl, h3, g3⟩ := u3
      refine fun x dx nx nd ne => ⟨x, N.cho, dx, .ref p1, .ref p2, .ref p3, rfl, upd_same, c4, rfl, ?_⟩
      have sN : Same H3 (upd (upd (upd (upd (upd H3 dx (.own x)) x (.ins N.cho dx [])) x (.ins N.cho dx [("test", .ref p1)])) x (.ins N.cho dx [("test", .ref p1), ("one", .ref p2)])) x (.ins N.cho dx [("test", .ref p1), ("one", .ref p2), ("other", .ref p3)])) := sameUpd nx (sameUpd nx (new3 nx nd))
      exact q _ _ (s12.trans (s3.trans sN)) ⟨x, dx, _, rfl, upd_same, p1, d1, f1, p2, d2, f2, p3, d3, f3, rfl, ⟨sN _ _ h1, g1.same sN⟩, ⟨sN _ _ h2, g2.same sN⟩, sN _ _ h3, g3.same sN⟩
    | bin k t1 t2 =>
      obtain ⟨p, v1, v2, rfl, hp, tu1, tu2⟩ := tu
      have hd1 : max (ht t1) (ht t2) + 1 ≤ d + 1 := hd
      obtain ⟨n1, n2, n3, n4⟩ := opn_ne k
      refine ⟨_, rfl, p, _, _, _, rfl, rfl, SqT.of hp, rfl, rfl, _, rfl, iteFe (sF n1) ?_⟩
      refine ⟨_, rfl, p, _, _, _, rfl, rfl, SqT.of hp, rfl, rfl, _, rfl, iteFe (sF n2) ?_⟩
      refine ⟨_, rfl, p, _, _, _, rfl, rfl, SqT.of hp, rfl, v1, t1, rfl, tu1, by omega, fun o1 H1 s1 u1 => ?_⟩
      refine ⟨_, rfl, p, _, _, _, rfl, rfl, SqT.of (s1 _ _ hp), rfl, rfl, _, rfl, iteFe (sF n3) ?_⟩
      refine ⟨_, rfl, p, _, _, _, rfl, rfl, SqT.of (s1 _ _ hp), rfl, v2, t2, rfl, tu2.same s1, by omega, fun o2 H2 s2 u2 => ?_⟩
      have s12 := s1.trans s2
      have hp2 := s12 _ _ hp
      have u12 := u1.same s2
      refine ⟨_, rfl, p, _, _, _, rfl, rfl, SqT.of hp2, rfl, rfl, _, rfl, iteFe (sF n4) ?_⟩
      match k, hp2, q with
      | 0, hp2, q =>
        refine ⟨_, rfl, p, _, _, _, rfl, rfl, SqT.of hp2, rfl, rfl, _, rfl, iteTe (decide_eq_true rfl) ?_⟩
        exact ⟨_, rfl, _, rfl, bin_done (c5 0) u12 u2 s12 q⟩
      | 1, hp2, q =>
        refine ⟨_, rfl, p, _, _, _, rfl, rfl, SqT.of hp2, rfl, rfl, _, rfl, iteFe sF ?_⟩
        refine ⟨_, rfl, p, _, _, _, rfl, rfl, SqT.of hp2, rfl, rfl, _, rfl, iteTe (decide_eq_true rfl) ?_⟩
        exact ⟨_, rfl, _, rfl, bin_done (c5 1) u12 u2 s12 q⟩
      | 2, hp2, q =>
        refine ⟨_, rfl, p, _, _, _, rfl, rfl, SqT.of hp2, rfl, rfl, _, rfl, iteFe sF ?_⟩
        refine ⟨_, rfl, p, _, _, _, rfl, rfl, SqT.of hp2, rfl, rfl, _, rfl, iteFe sF ?_⟩
        refine ⟨_, rfl, p, _, _, _, rfl, rfl, SqT.of hp2, rfl, rfl, _, rfl, iteTe (decide_eq_true rfl) ?_⟩
        exact ⟨_, rfl, _, rfl, bin_done (c5 2) u12 u2 s12 q⟩
      | 3, hp2, q =>
        refine ⟨_, rfl, p, _, _, _, rfl, rfl, SqT.of hp2, rfl, rfl, _, rfl, iteFe sF ?_⟩
        refine ⟨_, rfl, p, _, _, _, rfl, rfl, SqT.of hp2, rfl, rfl, _, rfl, iteFe sF ?_⟩
        refine ⟨_, rfl, p, _, _, _, rfl, rfl, SqT.of hp2, rfl, rfl, _, rfl, iteFe sF ?_⟩
        refine ⟨_, rfl, p, _, _, _, rfl, rfl, SqT.of hp2, rfl, rfl, _, rfl, iteTe (decide_eq_true rfl) ?_⟩
        exact ⟨_, rfl, _, rfl, bin_done (c5 3) u12 u2 s12 q⟩
      | 4, hp2, q =>
        refine ⟨_, rfl, p, _, _, _, rfl, rfl, SqT.of hp2, rfl, rfl, _, rfl, iteFe sF ?_⟩
        refine ⟨_, rfl, p, _, _, _, rfl, rfl, SqT.of hp2, rfl, rfl, _, rfl, iteFe sF ?_⟩
        refine ⟨_, rfl, p, _, _, _, rfl, rfl, SqT.of hp2, rfl, rfl, _, rfl, iteFe sF ?_⟩
        refine ⟨_, rfl, p, _, _, _, rfl, rfl, SqT.of hp2, rfl, rfl, _, rfl, iteFe sF ?_⟩
        exact ⟨_, rfl, _, rfl, bin_done (c5 4) u12 u2 s12 q⟩
end
end KV
namespace KV
open PySem PyProof.Rows L2
def tag : Tm → Nat
  | .num _ => 0
  | .take _ _ => 1
  | .rest _ _ => 2
  | .cho _ _ _ => 3
  | .bin k _ _ => 4 + k.val
def clsL (N : Cn) : List Addr := [N.num, N.take, N.rest, N.cho, N.bin 0, N.bin 1, N.bin 2, N.bin 3, N.bin 4]
theorem cls_at (N : Cn) : ∀ t : Tm, (clsL N)[tag t]? = some (cls N t)
  | .num _ => rfl
  | .take _ _ => rfl
  | .rest _ _ => rfl
  | .cho _ _ _ => rfl
  | .bin k _ _ => by
    match k with
    | 0 => rfl
    | 1 => rfl
    | 2 => rfl
    | 3 => rfl
    | 4 => rfl
theorem tag_of {N : Cn} (nd : (clsL N).Nodup) {t u : Tm} (h : cls N t = cls N u) : tag t = tag u := by
  have h1 := cls_at N t
  have h2 := cls_at N u
  rw [h] at h1
  exact (List.getElem?_inj (List.getElem?_eq_some_iff.mp h1).1 nd).mp (h1.trans h2.symm)
theorem is_num {N : Cn} (nd : (clsL N).Nodup) {t : Tm} (h : cls N t = N.num) : ∃ n, t = .num n := by
  have := tag_of nd (u := .num 0) h
  cases t <;> simp [tag] at this <;> first | exact ⟨_, rfl⟩ | omega
theorem is_take {N : Cn} (nd : (clsL N).Nodup) {t : Tm} (h : cls N t = N.take) : ∃ b ss, t = .take b ss := by
  have := tag_of nd (u := .take 0 []) h
  cases t <;> simp [tag] at this <;> first | exact ⟨_, _, rfl⟩ | omega
theorem is_rest {N : Cn} (nd : (clsL N).Nodup) {t : Tm} (h : cls N t = N.rest) : ∃ a y, t = .rest a y := by
  have := tag_of nd (u := .rest (.num 0) 0) h
  cases t <;> simp [tag] at this <;> first | exact ⟨_, _, rfl⟩ | omega
theorem is_cho {N : Cn} (nd : (clsL N).Nodup) {t : Tm} (h : cls N t = N.cho) : ∃ a b c, t = .cho a b c := by
  have := tag_of nd (u := .cho (.num 0) (.num 0) (.num 0)) h
  cases t <;> simp [tag] at this <;> first | exact ⟨_, _, _, rfl⟩ | omega
theorem is_bin {N : Cn} (nd : (clsL N).Nodup) {t : Tm} {k : Fin 5} (h : cls N t = N.bin k) : ∃ a b, t = .bin k a b := by
  have := tag_of nd (u := .bin k (.num 0) (.num 0)) h
  cases t with
  | bin j a b =>
    have e : j = k := Fin.ext (by simp only [tag] at this; omega)
    exact ⟨a, b, by rw [e]⟩
  | _ => simp [tag] at this <;> omega
def WAt (P : Program) (w : World) (H : Hp) (dd : Addr) (f : Tk → Int) (ks : List Tk) : Prop := ∃ kvs, PDict P w H dd kvs ∧ ∀ x ∈ ks, valV kvs (kyOf x) = some (.int (f x)) ∧ (f x).natAbs < 2 ^ 41
theorem pdict_keep {P : Program} {w : World} {H H' : Hp} {a : Addr} {kvs : List (PKey × V)} (h1 : ∀ o, H a = some o → H' a = some o) (h2 : ∀ c ys, H c = some (.tup ys) → H' c = some (.tup ys)) (h : PDict P w H a kvs) : PDict P w H' a kvs := let ⟨z, xs, e, k⟩ := h; ⟨z, xs, h1 _ e, k.mono h2⟩
theorem WAt.same {P : Program} {w : World} {H H' : Hp} {dd : Addr} {f : Tk → Int} {ks : List Tk} (s : Same H H') (h : WAt P w H dd f ks) : WAt P w H' dd f ks := let ⟨kvs, e, k⟩ := h; ⟨kvs, pdict_keep (fun _ e => s _ _ e) (fun _ _ e => s _ _ e) e, k⟩
def lamOf (st : Stmt) : Arguments × Expr × Scope × Pos := match defBody st with
  | .Assign _ (.Call _ (.Lambda a b sc p :: _) _ _) _ :: _ => (a, b, sc, p)
  | _ => (defArgs st, .Constant .none 0 ⟨0, 0, 0, 0⟩, defScope st, ⟨0, 0, 0, 0⟩)
abbrev lArgs : Arguments := (lamOf sRight).1
abbrev lBody : Expr := (lamOf sRight).2.1
abbrev lScope : Scope := (lamOf sRight).2.2.1
abbrev lPos : Pos := (lamOf sRight).2.2.2
abbrev lQ : Str := (("_law_right" : Str) ++ ".<locals>.") ++ "<lambda>"
structure See where
  fl : Addr
  cell : Addr
  dd : Addr
  c : Addr
  pm : Value
  ct : Value
  f : Tk → Int
  ks : List Tk
abbrev See.obj (z : See) : Obj := PySem.W.kla_obj "<lambda>" lQ lArgs lBody lScope [("_law_worths_here", z.cell)] z.pm z.c z.ct
abbrev See.fd (z : See) : FuncData := PySem.W.kla_fn "<lambda>" lQ lArgs lBody lScope [("_law_worths_here", z.cell)] z.pm (.ref z.c) z.ct
structure SeesAt (P : Program) (w : World) (z : See) (H : Hp) : Prop where
  fn : H z.fl = some (LamO z.fl z.obj)
  cd : H z.c = some (CodO z.c lQ)
  wa : WAt P w H z.dd z.f z.ks
theorem SeesAt.same {P : Program} {w : World} {z : See} {H H' : Hp} (s : Same H H') (h : SeesAt P w z H) : SeesAt P w z H' := ⟨s _ _ h.fn, s _ _ h.cd, h.wa.same s⟩
def spSee (P : Program) (w : World) (z : See) : Sp := fun vs H Q _ => ∃ q x, vs = [.ref q] ∧ SeesAt P w z H ∧ TkY H (x, q) ∧ x ∈ z.ks ∧ Q (.int (z.f x)) H
def spVal (P : Program) (w : World) (N : Cn) (z : See) (d : Nat) (C : Addr) : Sp := fun vs H Q _ => ∃ (p dx : Addr) (fs : List (Str × V)) (t : Tm), vs = [.ref p, .ref z.fl] ∧ H p = some (.ins (cls N t) dx fs) ∧ FldAt N H fs t ∧ cls N t = C ∧ ht t ≤ d ∧ Wf t ∧ (∀ x ∈ raw t, x ∈ z.ks) ∧ SeesAt P w z H ∧
  ∀ H', Same H H' → Q (.int (val z.f t)) H'
section
variable {P : Program} {w : World} {K : PySem.W.Frag} {mg : Str → Option Value} {base : Heap} {N : Cn} {z : See}
theorem ok_see (hb : base.IsCell z.cell (some (.ref z.dd))) : FnOk P w K mg base CX0 1 z.fl z.fd ["_law_take"] (spSee P w z) := by
  refine lam_of (k := 0) (v := .ref z.dd) (u := .ref z.dd) rfl rfl rfl rfl rfl (fun y hy => ?_) (by decide +kernel) hb rfl (fun vs H Q E h => ?_) (fun vs H Q E h => ?_) fun A outer s H a Q E hr h => ?_
  · have := PySem.mem_of_lookup hy
    have h2 : (y, NameKind.free) ∈ [(("_law_take" : Str), NameKind.local), (("_law_worths_here" : Str), NameKind.free)] := this
    simp only [List.mem_cons, List.not_mem_nil, or_false, Prod.mk.injEq] at h2
    rcases h2 with ⟨_, h2⟩ | ⟨h2, _⟩
    · cases h2
    · exact h2
  · obtain ⟨q, x, rfl, _⟩ := h
    rfl
  · obtain ⟨q, x, _, S, _⟩ := h
    exact ⟨S.fn, S.cd⟩
  · obtain ⟨q, x, e, S, ky, hx, hq⟩ := h
    cases e
    obtain ⟨kvs, pd, l⟩ := S.wa
    refine ⟨_, pe_pget (by have := hr.un; show (A.deeper _).units + 2 < cLine; omega) (pv 1) (pv 0) (fun _ _ => rfl), ?_⟩
    exact ⟨_, rfl, _, rfl, z.dd, q, kvs, kyOf x, .int (z.f x), rfl, rfl, pd, ky.ky, (l x hx).1, hq⟩
theorem ob_see : ∀ vs H Q E, spSee P w z vs H Q E → ∃ o d, H z.fl = some (LamO z.fl o) ∧ o.data = .func d := fun vs H Q E ⟨_, _, _, S, _⟩ => ⟨_, _, S.fn, rfl⟩
theorem b_see : Binds K z.fd ["_law_take"] [] := Binds.all fun us hl => by
  match us, hl with
  | [_], _ => rfl
end
end KV
namespace KV
open PySem PyProof.Rows L2
abbrev VPs : List Str := ["self", "see"]
abbrev DVal (P : Program) (w : World) (K : PySem.W.Frag) (mg : Str → Option Value) (base : Heap) (N : Cn) (z : See) (d : Nat) : Prop := Dis P w K mg base CX0 (d + 1) (IsC N) "value_by" VPs (spVal P w N z d)
abbrev NoV (N : Cn) : Prop := ∀ (t : Tm) (fs : List (Str × V)) (H : Hp), FldAt N H fs t → fs.lookup ("value_by" : Str) = none
section
variable {P : Program} {w : World} {K : PySem.W.Frag} {mg : Str → Option Value} {base : Heap} {N : Cn} {z : See}
theorem scNValue : FnScope ["self", "see"] ["self", "see"] (defScope sNValue) := ⟨rfl, rfl, rfl, by decide +kernel, rfl, by decide +kernel, by decide +kernel⟩
theorem ok_nvalue {f C : Addr} {fd : FuncData} {d : Nat} (F : Fun K "value_by" "Number.value_by" sNValue f fd) (c : Cf K C ["value"]) (hC : ∀ t, cls N t = C → ∃ n, t = .num n) : FnOk P w K mg base CX0 (d + 1) f fd VPs (spVal P w N z d C) := by
  refine F.ok scNValue (fun vs H Q E h => ?_) (fun cdv A outer s H vs Q E hr h => ?_)
  · obtain ⟨p, dx, fs, t, rfl, _⟩ := h
    rfl
  · obtain ⟨p, dx, fs, t, rfl, hp, hf, hc, hd, wf, rk, S, q⟩ := h
    refine ⟨_, (pss_one (ps_ret (pe_fld (pv 0) rfl))), ?_⟩
    obtain ⟨n, rfl⟩ := hC t hc
    rw [hc] at hp
    obtain rfl := hf
    exact ⟨_, rfl, p, C, dx, _, _, rfl, hp, c.cl, c.na _ (by simp), rfl, q H (Same.refl H)⟩
theorem scKValue : FnScope ["self", "see"] ["self", "see"] (defScope sKValue) := ⟨rfl, rfl, rfl, by decide +kernel, rfl, by decide +kernel, by decide +kernel⟩
theorem ok_kvalue {f C : Addr} {fd : FuncData} {d : Nat} (F : Fun K "value_by" "Take.value_by" sKValue f fd) (c : Cf K C ["back", "steps"]) (hC : ∀ t, cls N t = C → ∃ b ss, t = .take b ss) (F_see : FnOk P w K mg base CX0 1 z.fl z.fd ["_law_take"] (spSee P w z)) : FnOk P w K mg base CX0 (d + 2) f fd VPs (spVal P w N z (d + 1) C) := by
  refine F.ok scKValue (fun vs H Q E h => ?_) (fun cdv A outer s H vs Q E hr h => ?_)
  · obtain ⟨p, dx, fs, t, rfl, _⟩ := h
    rfl
  · obtain ⟨p, dx, fs, t, rfl, hp, hf, hc, hd, wf, rk, S, q⟩ := h
    refine ⟨_, (pss_one (ps_ret (pe_callV (i := 1) F_see (hr.mono (by omega)) b_see ob_see (pa_cons (pe_tup (pa_cons (pe_fld (pv 0) rfl) (pa_cons (pe_fld (pv 0) rfl) pa_nil))) pa_nil)))), ?_⟩
    obtain ⟨b, ss, rfl⟩ := hC t hc
    rw [hc] at hp
    obtain ⟨u, rfl, hu⟩ := hf
    refine ⟨rfl, _, rfl, p, C, dx, _, _, rfl, hp, c.cl, c.na _ (by simp), rfl, _, rfl, p, C, dx, _, _, rfl, hp, c.cl, c.na _ (by simp), rfl, by show 2 ≤ sizeLine; decide, fun t1 n1 => ?_⟩
    generalize e : upd H t1 _ = H1
    obtain ⟨s1, e1⟩ := new_of n1 e
    exact ⟨t1, (b, ss), rfl, S.same s1, ⟨u, e1, s1 _ _ hu⟩, rk _ List.mem_cons_self, q H1 s1⟩
theorem scAValue : FnScope ["self", "see"] ["self", "see"] (defScope sAValue) := ⟨rfl, rfl, rfl, by decide +kernel, rfl, by decide +kernel, by decide +kernel⟩
theorem ok_avalue {f C : Addr} {fd : FuncData} {d : Nat} (F : Fun K "value_by" "Added.value_by" sAValue f fd) (c : Cf K C ["one", "other"]) (hC : ∀ t, cls N t = C → ∃ a b, t = .bin 0 a b) (D_value : DVal P w K mg base N z d) (nV : NoV N) : FnOk P w K mg base CX0 (d + 2) f fd VPs (spVal P w N z (d + 1) C) := by
  refine F.ok scAValue (fun vs H Q E h => ?_) (fun cdv A outer s H vs Q E hr h => ?_)
  · obtain ⟨p, dx, fs, t, rfl, _⟩ := h
    rfl
  · obtain ⟨p, dx, fs, t, rfl, hp, hf, hc, hd, wf, rk, S, q⟩ := h
    refine ⟨_, (pss_one (ps_ret (pe_op op_add (pe_methD (pe_fld (pv 0) rfl) D_value (hr.mono (by omega)) pass0 (pa_cons (pv 1) pa_nil)) (pe_methD (pe_fld (pv 0) rfl) D_value (hr.mono (by omega)) pass0 (pa_cons (pv 1) pa_nil))))), ?_⟩
    obtain ⟨a, b, rfl⟩ := hC t hc
    rw [hc] at hp
    obtain ⟨pa, da, fa, pb, db, fb, rfl, ⟨ha, ga⟩, hb, gb⟩ := hf
    have hd' : max (ht a) (ht b) + 1 ≤ d + 1 := hd
    have rk' : ∀ x, x ∈ raw a ∨ x ∈ raw b → x ∈ z.ks := fun x hx => rk x (List.mem_append.mpr hx)
    refine ⟨_, rfl, p, C, dx, _, _, rfl, hp, c.cl, c.na _ (by simp), rfl, pa, _, da, fa, rfl, ha, isC N a, nV a fa H ga, _, rfl, pa, da, fa, a, rfl, ha, ga, rfl, by omega, wf.1, fun x hx => rk' x (.inl hx), S, fun H1 s1 => ?_⟩
    refine ⟨_, rfl, p, C, dx, _, _, rfl, s1 _ _ hp, c.cl, c.na _ (by simp), rfl, pb, _, db, fb, rfl, s1 _ _ hb, isC N b, nV b fb H gb, _, rfl, pb, db, fb, b, rfl, s1 _ _ hb, gb.same s1, rfl, by omega, wf.2, fun x hx => rk' x (.inr hx), S.same s1, fun H2 s2 => ?_⟩
    exact ⟨_, _, rfl, rfl, q H2 (s1.trans s2)⟩
theorem scLValue : FnScope ["self", "see"] ["self", "see"] (defScope sLValue) := ⟨rfl, rfl, rfl, by decide +kernel, rfl, by decide +kernel, by decide +kernel⟩
theorem ok_lvalue {f C : Addr} {fd : FuncData} {d : Nat} (F : Fun K "value_by" "Lessened.value_by" sLValue f fd) (c : Cf K C ["one", "other"]) (hC : ∀ t, cls N t = C → ∃ a b, t = .bin 1 a b) (D_value : DVal P w K mg base N z d) (nV : NoV N) : FnOk P w K mg base CX0 (d + 2) f fd VPs (spVal P w N z (d + 1) C) := by
  refine F.ok scLValue (fun vs H Q E h => ?_) (fun cdv A outer s H vs Q E hr h => ?_)
  · obtain ⟨p, dx, fs, t, rfl, _⟩ := h
    rfl
  · obtain ⟨p, dx, fs, t, rfl, hp, hf, hc, hd, wf, rk, S, q⟩ := h
    refine ⟨_, (pss_one (ps_ret (pe_op op_sub (pe_methD (pe_fld (pv 0) rfl) D_value (hr.mono (by omega)) pass0 (pa_cons (pv 1) pa_nil)) (pe_methD (pe_fld (pv 0) rfl) D_value (hr.mono (by omega)) pass0 (pa_cons (pv 1) pa_nil))))), ?_⟩
    obtain ⟨a, b, rfl⟩ := hC t hc
    rw [hc] at hp
    obtain ⟨pa, da, fa, pb, db, fb, rfl, ⟨ha, ga⟩, hb, gb⟩ := hf
    have hd' : max (ht a) (ht b) + 1 ≤ d + 1 := hd
    have rk' : ∀ x, x ∈ raw a ∨ x ∈ raw b → x ∈ z.ks := fun x hx => rk x (List.mem_append.mpr hx)
    refine ⟨_, rfl, p, C, dx, _, _, rfl, hp, c.cl, c.na _ (by simp), rfl, pa, _, da, fa, rfl, ha, isC N a, nV a fa H ga, _, rfl, pa, da, fa, a, rfl, ha, ga, rfl, by omega, wf.1, fun x hx => rk' x (.inl hx), S, fun H1 s1 => ?_⟩
    refine ⟨_, rfl, p, C, dx, _, _, rfl, s1 _ _ hp, c.cl, c.na _ (by simp), rfl, pb, _, db, fb, rfl, s1 _ _ hb, isC N b, nV b fb H gb, _, rfl, pb, db, fb, b, rfl, s1 _ _ hb, gb.same s1, rfl, by omega, wf.2, fun x hx => rk' x (.inr hx), S.same s1, fun H2 s2 => ?_⟩
    exact ⟨_, _, rfl, rfl, q H2 (s1.trans s2)⟩
theorem scMValue : FnScope ["self", "see"] ["self", "see"] (defScope sMValue) := ⟨rfl, rfl, rfl, by decide +kernel, rfl, by decide +kernel, by decide +kernel⟩
theorem ok_mvalue {f C : Addr} {fd : FuncData} {d : Nat} (F : Fun K "value_by" "Multiplied.value_by" sMValue f fd) (c : Cf K C ["one", "other"]) (hC : ∀ t, cls N t = C → ∃ a b, t = .bin 2 a b) (D_value : DVal P w K mg base N z d) (nV : NoV N) (d5 : d ≤ 5) : FnOk P w K mg base CX0 (d + 2) f fd VPs (spVal P w N z (d + 1) C) := by
  refine F.ok scMValue (fun vs H Q E h => ?_) (fun cdv A outer s H vs Q E hr h => ?_)
  · obtain ⟨p, dx, fs, t, rfl, _⟩ := h
    rfl
  · obtain ⟨p, dx, fs, t, rfl, hp, hf, hc, hd, wf, rk, S, q⟩ := h
    refine ⟨_, (pss_one (ps_ret (pe_op op_mulB (pe_methD (pe_fld (pv 0) rfl) D_value (hr.mono (by omega)) pass0 (pa_cons (pv 1) pa_nil)) (pe_methD (pe_fld (pv 0) rfl) D_value (hr.mono (by omega)) pass0 (pa_cons (pv 1) pa_nil))))), ?_⟩
    obtain ⟨a, b, rfl⟩ := hC t hc
    rw [hc] at hp
    obtain ⟨pa, da, fa, pb, db, fb, rfl, ⟨ha, ga⟩, hb, gb⟩ := hf
    have hd' : max (ht a) (ht b) + 1 ≤ d + 1 := hd
    have rk' : ∀ x, x ∈ raw a ∨ x ∈ raw b → x ∈ z.ks := fun x hx => rk x (List.mem_append.mpr hx)
    refine ⟨_, rfl, p, C, dx, _, _, rfl, hp, c.cl, c.na _ (by simp), rfl, pa, _, da, fa, rfl, ha, isC N a, nV a fa H ga, _, rfl, pa, da, fa, a, rfl, ha, ga, rfl, by omega, wf.1, fun x hx => rk' x (.inl hx), S, fun H1 s1 => ?_⟩
    refine ⟨_, rfl, p, C, dx, _, _, rfl, s1 _ _ hp, c.cl, c.na _ (by simp), rfl, pb, _, db, fb, rfl, s1 _ _ hb, isC N b, nV b fb H gb, _, rfl, pb, db, fb, b, rfl, s1 _ _ hb, gb.same s1, rfl, by omega, wf.2, fun x hx => rk' x (.inr hx), S.same s1, fun H2 s2 => ?_⟩
    have Bx : ∀ y ∈ z.ks, (z.f y).natAbs < 2 ^ 41 := fun y hy => let ⟨_, _, l⟩ := S.wa; (l y hy).2
    exact ⟨_, _, rfl, rfl, ⟨val_B (by omega) wf.1 fun x hx => Bx x (rk' x (.inl hx)), val_B (by omega) wf.2 fun x hx => Bx x (rk' x (.inr hx))⟩, q H2 (s1.trans s2)⟩
theorem scIValue : FnScope ["self", "see"] ["self", "see"] (defScope sIValue) := ⟨rfl, rfl, rfl, by decide +kernel, rfl, by decide +kernel, by decide +kernel⟩
theorem ok_ivalue {f C : Addr} {fd : FuncData} {d : Nat} (F : Fun K "value_by" "Least.value_by" sIValue f fd) (c : Cf K C ["one", "other"]) (hC : ∀ t, cls N t = C → ∃ a b, t = .bin 3 a b) (D_value : DVal P w K mg base N z d) (nV : NoV N) (T : Txt K mg) : FnOk P w K mg base CX0 (d + 2) f fd VPs (spVal P w N z (d + 1) C) := by
  refine F.ok scIValue (fun vs H Q E h => ?_) (fun cdv A outer s H vs Q E hr h => ?_)
  · obtain ⟨p, dx, fs, t, rfl, _⟩ := h
    rfl
  · obtain ⟨p, dx, fs, t, rfl, hp, hf, hc, hd, wf, rk, S, q⟩ := h
    refine ⟨_, (pss_one (ps_ret (pe_callB (call_min2 rfl) rfl T.min boot_min (pa_cons (pe_methD (pe_fld (pv 0) rfl) D_value (hr.mono (by omega)) pass0 (pa_cons (pv 1) pa_nil)) (pa_cons (pe_methD (pe_fld (pv 0) rfl) D_value (hr.mono (by omega)) pass0 (pa_cons (pv 1) pa_nil)) pa_nil))))), ?_⟩
    obtain ⟨a, b, rfl⟩ := hC t hc
    rw [hc] at hp
    obtain ⟨pa, da, fa, pb, db, fb, rfl, ⟨ha, ga⟩, hb, gb⟩ := hf
    have hd' : max (ht a) (ht b) + 1 ≤ d + 1 := hd
    have rk' : ∀ x, x ∈ raw a ∨ x ∈ raw b → x ∈ z.ks := fun x hx => rk x (List.mem_append.mpr hx)
    refine ⟨_, rfl, p, C, dx, _, _, rfl, hp, c.cl, c.na _ (by simp), rfl, pa, _, da, fa, rfl, ha, isC N a, nV a fa H ga, _, rfl, pa, da, fa, a, rfl, ha, ga, rfl, by omega, wf.1, fun x hx => rk' x (.inl hx), S, fun H1 s1 => ?_⟩
    refine ⟨_, rfl, p, C, dx, _, _, rfl, s1 _ _ hp, c.cl, c.na _ (by simp), rfl, pb, _, db, fb, rfl, s1 _ _ hb, isC N b, nV b fb H gb, _, rfl, pb, db, fb, b, rfl, s1 _ _ hb, gb.same s1, rfl, by omega, wf.2, fun x hx => rk' x (.inr hx), S.same s1, fun H2 s2 => ?_⟩
    refine ⟨_, _, rfl, ?_⟩
    have := q H2 (s1.trans s2)
    rw [show val z.f (.bin 3 a b) = (if val z.f b < val z.f a then val z.f b else val z.f a) from by show min (val z.f a) (val z.f b) = _; split <;> omega] at this
    exact this
theorem scXValue : FnScope ["self", "see"] ["self", "see"] (defScope sXValue) := ⟨rfl, rfl, rfl, by decide +kernel, rfl, by decide +kernel, by decide +kernel⟩
theorem ok_xvalue {f C : Addr} {fd : FuncData} {d : Nat} (F : Fun K "value_by" "Most.value_by" sXValue f fd) (c : Cf K C ["one", "other"]) (hC : ∀ t, cls N t = C → ∃ a b, t = .bin 4 a b) (D_value : DVal P w K mg base N z d) (nV : NoV N) (T : Txt K mg) : FnOk P w K mg base CX0 (d + 2) f fd VPs (spVal P w N z (d + 1) C) := by
  refine F.ok scXValue (fun vs H Q E h => ?_) (fun cdv A outer s H vs Q E hr h => ?_)
  · obtain ⟨p, dx, fs, t, rfl, _⟩ := h
    rfl
  · obtain ⟨p, dx, fs, t, rfl, hp, hf, hc, hd, wf, rk, S, q⟩ := h
    refine ⟨_, (pss_one (ps_ret (pe_callB (call_max2 rfl) rfl T.max boot_max (pa_cons (pe_methD (pe_fld (pv 0) rfl) D_value (hr.mono (by omega)) pass0 (pa_cons (pv 1) pa_nil)) (pa_cons (pe_methD (pe_fld (pv 0) rfl) D_value (hr.mono (by omega)) pass0 (pa_cons (pv 1) pa_nil)) pa_nil))))), ?_⟩
    obtain ⟨a, b, rfl⟩ := hC t hc
    rw [hc] at hp
    obtain ⟨pa, da, fa, pb, db, fb, rfl, ⟨ha, ga⟩, hb, gb⟩ := hf
    have hd' : max (ht a) (ht b) + 1 ≤ d + 1 := hd
    have rk' : ∀ x, x ∈ raw a ∨ x ∈ raw b → x ∈ z.ks := fun x hx => rk x (List.mem_append.mpr hx)
    refine ⟨_, rfl, p, C, dx, _, _, rfl, hp, c.cl, c.na _ (by simp), rfl, pa, _, da, fa, rfl, ha, isC N a, nV a fa H ga, _, rfl, pa, da, fa, a, rfl, ha, ga, rfl, by omega, wf.1, fun x hx => rk' x (.inl hx), S, fun H1 s1 => ?_⟩
    refine ⟨_, rfl, p, C, dx, _, _, rfl, s1 _ _ hp, c.cl, c.na _ (by simp), rfl, pb, _, db, fb, rfl, s1 _ _ hb, isC N b, nV b fb H gb, _, rfl, pb, db, fb, b, rfl, s1 _ _ hb, gb.same s1, rfl, by omega, wf.2, fun x hx => rk' x (.inr hx), S.same s1, fun H2 s2 => ?_⟩
    refine ⟨_, _, rfl, ?_⟩
    have := q H2 (s1.trans s2)
    rw [show val z.f (.bin 4 a b) = (if val z.f b > val z.f a then val z.f b else val z.f a) from by show max (val z.f a) (val z.f b) = _; split <;> omega] at this
    exact this
theorem scRValue : FnScope ["self", "see"] ["self", "see"] (defScope sRValue) := ⟨rfl, rfl, rfl, by decide +kernel, rfl, by decide +kernel, by decide +kernel⟩
theorem ok_rvalue {f C : Addr} {fd : FuncData} {d : Nat} (F : Fun K "value_by" "Rest.value_by" sRValue f fd) (c : Cf K C ["one", "by"]) (hC : ∀ t, cls N t = C → ∃ a y, t = .rest a y) (D_value : DVal P w K mg base N z d) (nV : NoV N) : FnOk P w K mg base CX0 (d + 2) f fd VPs (spVal P w N z (d + 1) C) := by
  refine F.ok scRValue (fun vs H Q E h => ?_) (fun cdv A outer s H vs Q E hr h => ?_)
  · obtain ⟨p, dx, fs, t, rfl, _⟩ := h
    rfl
  · obtain ⟨p, dx, fs, t, rfl, hp, hf, hc, hd, wf, rk, S, q⟩ := h
    refine ⟨_, (pss_one (ps_ret (pe_op op_mod (pe_methD (pe_fld (pv 0) rfl) D_value (hr.mono (by omega)) pass0 (pa_cons (pv 1) pa_nil)) (pe_fld (pv 0) rfl)))), ?_⟩
    obtain ⟨a, y, rfl⟩ := hC t hc
    rw [hc] at hp
    obtain ⟨pa, da, fa, rfl, ha, ga⟩ := hf
    have hd' : ht a + 1 ≤ d + 1 := hd
    refine ⟨_, rfl, p, C, dx, _, _, rfl, hp, c.cl, c.na _ (by simp), rfl, pa, _, da, fa, rfl, ha, isC N a, nV a fa H ga, _, rfl, pa, da, fa, a, rfl, ha, ga, rfl, by omega, wf.2.2, rk, S, fun H1 s1 => ?_⟩
    exact ⟨_, rfl, p, C, dx, _, _, rfl, s1 _ _ hp, c.cl, c.na _ (by simp), rfl, _, _, rfl, rfl, wf.1, q H1 s1⟩
theorem scCValue : FnScope ["self", "see"] ["self", "see"] (defScope sCValue) := ⟨rfl, rfl, rfl, by decide +kernel, rfl, by decide +kernel, by decide +kernel⟩
theorem ok_cvalue {f C : Addr} {fd : FuncData} {d : Nat} (F : Fun K "value_by" "Chosen.value_by" sCValue f fd) (c : Cf K C ["test", "one", "other"]) (hC : ∀ t, cls N t = C → ∃ a b e, t = .cho a b e) (D_value : DVal P w K mg base N z d) (nV : NoV N) : FnOk P w K mg base CX0 (d + 2) f fd VPs (spVal P w N z (d + 1) C) := by
  refine F.ok scCValue (fun vs H Q E h => ?_) (fun cdv A outer s H vs Q E hr h => ?_)
  · obtain ⟨p, dx, fs, t, rfl, _⟩ := h
    rfl
  · obtain ⟨p, dx, fs, t, rfl, hp, hf, hc, hd, wf, rk, S, q⟩ := h
    refine ⟨_, (pss_cons (ps_if (pt_cmpR op_gt (pe_methD (pe_fld (pv 0) rfl) D_value (hr.mono (by omega)) pass0 (pa_cons (pv 1) pa_nil)) pe_int (nomark _)) (pss_one (ps_ret (pe_methD (pe_fld (pv 0) rfl) D_value (hr.mono (by omega)) pass0 (pa_cons (pv 1) pa_nil)))) pss_nil) (pss_one (ps_ret (pe_methD (pe_fld (pv 0) rfl) D_value (hr.mono (by omega)) pass0 (pa_cons (pv 1) pa_nil))))), ?_⟩
    obtain ⟨a, b, e, rfl⟩ := hC t hc
    rw [hc] at hp
    obtain ⟨pa, da, fa, pb, db, fb, pe, de, fe, rfl, ⟨ha, ga⟩, ⟨hb, gb⟩, he, ge⟩ := hf
    have hd' : max (ht a) (max (ht b) (ht e)) + 1 ≤ d + 1 := hd
    have rk' : ∀ x, x ∈ raw a ∨ x ∈ raw b ∨ x ∈ raw e → x ∈ z.ks := fun x hx => rk x (by simp only [raw, List.mem_append]; exact hx)
    refine ⟨_, rfl, p, C, dx, _, _, rfl, hp, c.cl, c.na _ (by simp), rfl, pa, _, da, fa, rfl, ha, isC N a, nV a fa H ga, _, rfl, pa, da, fa, a, rfl, ha, ga, rfl, by omega, wf.1, fun x hx => rk' x (.inl hx), S, fun H1 s1 => ⟨_, _, rfl, rfl, _, rfl, ?_⟩⟩
    by_cases p0 : 0 < val z.f a
    · refine iteTe (decide_eq_true p0) ?_
      refine ⟨_, rfl, p, C, dx, _, _, rfl, s1 _ _ hp, c.cl, c.na _ (by simp), rfl, pb, _, db, fb, rfl, s1 _ _ hb, isC N b, nV b fb H gb, _, rfl, pb, db, fb, b, rfl, s1 _ _ hb, gb.same s1, rfl, by omega, wf.2.1, fun x hx => rk' x (.inr (.inl hx)), S.same s1, fun H2 s2 => ?_⟩
      have := q H2 (s1.trans s2)
      rw [val, if_pos p0] at this
      exact this
    · refine iteFe (decide_eq_false p0) ?_
      refine ⟨_, rfl, p, C, dx, _, _, rfl, s1 _ _ hp, c.cl, c.na _ (by simp), rfl, pe, _, de, fe, rfl, s1 _ _ he, isC N e, nV e fe H ge, _, rfl, pe, de, fe, e, rfl, s1 _ _ he, ge.same s1, rfl, by omega, wf.2.2, fun x hx => rk' x (.inr (.inr hx)), S.same s1, fun H2 s2 => ?_⟩
      have := q H2 (s1.trans s2)
      rw [val, if_neg p0] at this
      exact this
end
end KV
namespace KV
open PySem PyProof.Rows L2
theorem hu_2 {A : Around} {k : Nat} (hr : Room k A) : A.units + 2 < cLine := by have := hr.un; omega
def spLVal (P : Program) (w : World) (d : Nat) : Sp := fun vs H Q _ => ∃ (v : V) (t : Tm) (dd : Addr) (f : Tk → Int) (ks : List Tk), vs = [v, .ref dd] ∧ TupAt H t v ∧ ht t ≤ d ∧ Wf t ∧ (∀ x ∈ raw t, x ∈ ks) ∧ WAt P w H dd f ks ∧ ∀ H', Same H H' → Q (.int (val f t)) H'
theorem two_sorted {i j : Int} {ms : List Int} (hp : ms.Perm [i, j]) (ho : ms.Pairwise (· ≤ ·)) : ms = [min i j, max i j] := by
  have hl := hp.length_eq
  match ms, hl with
  | [a, b], _ =>
    have hab : a ≤ b := by simpa using ho
    have ma : a = i ∨ a = j := by simpa using hp.mem_iff.mp (List.mem_cons_self (a := a) (l := [b]))
    have mb : b = i ∨ b = j := by simpa using hp.mem_iff.mp (List.mem_cons_of_mem a (List.mem_cons_self (a := b) (l := [])))
    have mi : i = a ∨ i = b := by simpa using hp.mem_iff.mpr (List.mem_cons_self (a := i) (l := [j]))
    have mj : j = a ∨ j = b := by simpa using hp.mem_iff.mpr (List.mem_cons_of_mem i (List.mem_cons_self (a := j) (l := [])))
    have e1 : a = min i j := by omega
    have e2 : b = max i j := by omega
    rw [e1, e2]
theorem val_fin (k : Fin 5) (i j : Int) : valV (mergeK (mergeK [] [(.inr "+", V.int (i + j)), (.inr "-", .int (i - j)), (.inr "*", .int (i * j))]) (mergeK [] [(.inr "min", .int (min i j)), (.inr "max", .int (max i j))])) (.inr (opn k) : Key) = some (.int (opv k i j)) := by
  match k with
  | 0 => rfl
  | 1 => rfl
  | 2 => rfl
  | 3 => rfl
  | 4 => rfl
theorem div_abs {a y : Int} (h : 0 < y) : (a / y).natAbs ≤ a.natAbs := Int.natAbs_ediv_le_natAbs a y
section
variable {P : Program} {w : World} {K : PySem.W.Frag} {mg : Str → Option Value} {base : Heap}
theorem scValue : FnScope ["_law_told_here", "_law_worths_here", "_law_one", "_law_other", "_law_some"] ["_law_told_here", "_law_worths_here"] (defScope sValue) := ⟨rfl, rfl, rfl, by decide +kernel, rfl, by decide +kernel, by decide +kernel⟩
theorem ok_value {f : Addr} {fd : FuncData} {d : Nat} (F : Fun K "_law_value" "_law_value" sValue f fd) (c_value : Cal P w K mg base CX0 (d + 1) "_law_value" ["_law_told_here", "_law_worths_here"] (spLVal P w d)) (T : Txt K mg) (d5 : d ≤ 5) :
    FnOk P w K mg base CX0 (d + 2) f fd ["_law_told_here", "_law_worths_here"] (spLVal P w (d + 1)) := by
  refine F.ok scValue (fun vs H Q E h => ?_) (fun cdv A outer s H vs Q E hr h => ?_)
  · obtain ⟨v, t, dd, g, ks, rfl, _⟩ := h
    rfl
  · obtain ⟨v, t, dd, g, ks, rfl, tu, hd, wf, rk, W, q⟩ := h
    have hu := hu_of hr
    have Bx : ∀ y ∈ ks, (g y).natAbs < 2 ^ 41 := fun y hy => let ⟨_, _, l⟩ := W; (l y hy).2
    refine ⟨_, (pss_cons (ps_if (pt_cmpR op_eq (pe_ix ix_tup (pv 0) pe_int (fun _ _ => rfl)) pe_str (nomark _)) (pss_one (ps_ret (pe_ix ix_tup (pv 0) pe_int (fun _ _ => rfl)))) pss_nil) (pss_cons (ps_if (pt_cmpR op_eq (pe_ix ix_tup (pv 0) pe_int (fun _ _ => rfl)) pe_str (nomark _)) (pss_one (ps_ret (pe_pget (hu_2 hr) (pv 1) (pe_slice sl_tup (pv 0) (po_some pe_int) po_none) (fun _ _ => rfl)))) pss_nil) (pss_cons (ps_set (i := 2) scValue.nd rfl (Or.inl rfl) (pe_c c_value (hr.mono (by omega)) rfl pass0 (pa_cons (pe_ix ix_tup (pv 0) pe_int (fun _ _ => rfl)) (pa_cons (pv 1) pa_nil)))) (pss_cons (ps_if (pt_cmpR op_eq (pe_ix ix_tup (pv 0) pe_int (fun _ _ => rfl)) pe_str (nomark _)) (pss_one (ps_ret (pe_op op_sub (pv 2) (pe_op op_mulB (pe_ix ix_tup (pv 0) pe_int (fun _ _ => rfl)) (pe_op op_fdiv (pv 2) (pe_ix ix_tup (pv 0) pe_int (fun _ _ => rfl))))))) pss_nil) (pss_cons (ps_if (pt_cmpR op_eq (pe_ix ix_tup (pv 0) pe_int (fun _ _ => rfl)) pe_str (nomark _)) (pss_one (ps_ret (pe_c c_value (hr.mono (by omega)) rfl pass0 (pa_cons (pe_ix ix_tup (pv 0) (pe_op op_add pe_int (pe_callTy call_int1 rfl T.int boot_int (pa_cons (pe_cmpR op_le (pv 2) pe_int (nomark _)) pa_nil))) (fun _ _ => rfl)) (pa_cons (pv 1) pa_nil))))) pss_nil) (pss_cons (ps_set (i := 3) scValue.nd rfl (Or.inl rfl) (pe_c c_value (hr.mono (by omega)) rfl pass0 (pa_cons (pe_ix ix_tup (pv 0) pe_int (fun _ _ => rfl)) (pa_cons (pv 1) pa_nil)))) (pss_cons (ps_set (i := 4) scValue.nd rfl (Or.inl rfl) (pe_disp (pps_cons pe_str (pe_op op_add (pv 2) (pv 3)) (pps_cons pe_str (pe_op op_sub (pv 2) (pv 3)) (pps_cons pe_str (pe_op op_mulB (pv 2) (pv 3)) pps_nil))) rfl rfl (fun z => nomatch z) (by decide))) (pss_cons (ps_expr (pe_dupd (pv 4) (pe_disp (pps_cons pe_str (pe_ix ix_list (pe_callB call_sorted rfl T.sorted boot_sorted (pa_cons (pe_lst (pa_cons (pv 2) (pa_cons (pv 3) pa_nil))) pa_nil)) pe_int (fun _ _ => rfl)) (pps_cons pe_str (pe_ix ix_list (pe_callB call_sorted rfl T.sorted boot_sorted (pa_cons (pe_lst (pa_cons (pv 2) (pa_cons (pv 3) pa_nil))) pa_nil)) pe_int (fun _ _ => rfl)) pps_nil)) rfl rfl (fun z => nomatch z) (by decide)) ⟨rfl, rfl, rfl, rfl⟩)) (pss_one (ps_ret (pe_dget hu (pv 4) (pe_ix ix_tup (pv 0) pe_int (fun _ _ => rfl)) (fun _ _ => rfl)))))))))))), ?_⟩
    cases t with
    | num n =>
      obtain ⟨p, rfl, hp⟩ := tu
      refine ⟨_, rfl, p, _, _, _, rfl, rfl, SqT.of hp, rfl, rfl, _, rfl, iteTe (decide_eq_true rfl) ?_⟩
      exact ⟨_, rfl, p, _, _, _, rfl, rfl, SqT.of hp, rfl, q H (Same.refl H)⟩
    | take b ss =>
      obtain ⟨p, u, rfl, hp, hu'⟩ := tu
      refine ⟨_, rfl, p, _, _, _, rfl, rfl, SqT.of hp, rfl, rfl, _, rfl, iteFe sF ?_⟩
      refine ⟨_, rfl, p, _, _, _, rfl, rfl, SqT.of hp, rfl, rfl, _, rfl, iteTe (decide_eq_true rfl) ?_⟩
      refine ⟨_, rfl, _, rfl, _, rfl, p, _, rfl, SqT.of hp, by show ¬ (HT.sIx 3 0 (some 1) = 0 ∧ HT.sIx 3 3 none = 3); decide +kernel, fun t1 n1 => ?_⟩
      generalize e : upd H t1 _ = H1
      obtain ⟨s1, e1⟩ := new_of n1 e
      obtain ⟨kvs, pd, l⟩ := W.same s1
      have ky : TkY H1 ((b, ss), t1) := ⟨u, e1, s1 _ _ hu'⟩
      exact ⟨dd, t1, kvs, kyOf (b, ss), .int (g (b, ss)), rfl, rfl, pd, ky.ky, (l _ (rk _ List.mem_cons_self)).1, q H1 s1⟩
    | rest t1 y =>
      obtain ⟨p, v1, rfl, hp, tu1⟩ := tu
      have hd1 : ht t1 + 1 ≤ d + 1 := hd
      obtain ⟨y0, y1, wf1⟩ := wf
      refine ⟨_, rfl, p, _, _, _, rfl, rfl, SqT.of hp, rfl, rfl, _, rfl, iteFe sF ?_⟩
      refine ⟨_, rfl, p, _, _, _, rfl, rfl, SqT.of hp, rfl, rfl, _, rfl, iteFe sF ?_⟩
      refine ⟨_, rfl, p, _, _, _, rfl, rfl, SqT.of hp, rfl, _, rfl, v1, t1, dd, g, ks, rfl, tu1, by omega, wf1, rk, W, fun H1 s1 => ?_⟩
      refine ⟨_, rfl, p, _, _, _, rfl, rfl, SqT.of (s1 _ _ hp), rfl, rfl, _, rfl, iteTe (decide_eq_true rfl) ?_⟩
      have B1 : (val g t1).natAbs < 2 ^ 2000 := val_B (by omega) wf1 fun x hx => Bx x (rk x hx)
      have B2 : (val g t1 / y).natAbs < 2 ^ 2000 := Nat.lt_of_le_of_lt (div_abs y0) B1
      have B3 : y.natAbs < 2 ^ 2000 := Nat.lt_of_lt_of_le (show y.natAbs < 2 ^ 30 by omega) (Nat.pow_le_pow_right (by decide) (by decide))
      refine ⟨_, rfl, _, rfl, p, _, _, _, rfl, rfl, SqT.of (s1 _ _ hp), rfl, _, rfl, _, rfl, p, _, _, _, rfl, rfl, SqT.of (s1 _ _ hp), rfl, _, _, rfl, rfl, ⟨y0, y1⟩, _, _, rfl, rfl, ⟨B3, B2⟩, _, _, rfl, rfl, ?_⟩
      have := q H1 s1
      rw [show val g (.rest t1 y) = val g t1 - y * (val g t1 / y) from by show val g t1 % y = _; rw [Int.emod_def]] at this
      exact this
    | cho t1 t2 t3 =>
      obtain ⟨p, v1, v2, v3, rfl, hp, tu1, tu2, tu3⟩ := tu
      have hd1 : max (ht t1) (max (ht t2) (ht t3)) + 1 ≤ d + 1 := hd
      have rk' : ∀ x, x ∈ raw t1 ∨ x ∈ raw t2 ∨ x ∈ raw t3 → x ∈ ks := fun x hx => rk x (by simp only [raw, List.mem_append]; exact hx)
      refine ⟨_, rfl, p, _, _, _, rfl, rfl, SqT.of hp, rfl, rfl, _, rfl, iteFe sF ?_⟩
      refine ⟨_, rfl, p, _, _, _, rfl, rfl, SqT.of hp, rfl, rfl, _, rfl, iteFe sF ?_⟩
      refine ⟨_, rfl, p, _, _, _, rfl, rfl, SqT.of hp, rfl, _, rfl, v1, t1, dd, g, ks, rfl, tu1, by omega, wf.1, fun x hx => rk' x (.inl hx), W, fun H1 s1 => ?_⟩
      refine ⟨_, rfl, p, _, _, _, rfl, rfl, SqT.of (s1 _ _ hp), rfl, rfl, _, rfl, iteFe sF ?_⟩
      refine ⟨_, rfl, p, _, _, _, rfl, rfl, SqT.of (s1 _ _ hp), rfl, rfl, _, rfl, iteTe (decide_eq_true rfl) ?_⟩
      refine ⟨_, rfl, _, rfl, _, _, rfl, rfl, .inr ⟨_, rfl, _, _, rfl, rfl, ?_⟩⟩
      by_cases p0 : val g t1 ≤ 0
      · rw [decide_eq_true p0]
        refine ⟨p, _, _, _, rfl, rfl, SqT.of (s1 _ _ hp), rfl, _, rfl, v3, t3, dd, g, ks, rfl, tu3.same s1, by omega, wf.2.2, fun x hx => rk' x (.inr (.inr hx)), W.same s1, fun H2 s2 => ?_⟩
        have := q H2 (s1.trans s2)
        rw [val, if_neg (by omega)] at this
        exact this
      · rw [decide_eq_false p0]
        refine ⟨p, _, _, _, rfl, rfl, SqT.of (s1 _ _ hp), rfl, _, rfl, v2, t2, dd, g, ks, rfl, tu2.same s1, by omega, wf.2.1, fun x hx => rk' x (.inr (.inl hx)), W.same s1, fun H2 s2 => ?_⟩
        have := q H2 (s1.trans s2)
        rw [val, if_pos (by omega)] at this
        exact this
    | bin k t1 t2 =>
      obtain ⟨p, v1, v2, rfl, hp, tu1, tu2⟩ := tu
      have hd1 : max (ht t1) (ht t2) + 1 ≤ d + 1 := hd
      have rk' : ∀ x, x ∈ raw t1 ∨ x ∈ raw t2 → x ∈ ks := fun x hx => rk x (List.mem_append.mpr hx)
      obtain ⟨n1, n2, n3, n4⟩ := opn_ne k
      refine ⟨_, rfl, p, _, _, _, rfl, rfl, SqT.of hp, rfl, rfl, _, rfl, iteFe (sF n1) ?_⟩
      refine ⟨_, rfl, p, _, _, _, rfl, rfl, SqT.of hp, rfl, rfl, _, rfl, iteFe (sF n2) ?_⟩
      refine ⟨_, rfl, p, _, _, _, rfl, rfl, SqT.of hp, rfl, _, rfl, v1, t1, dd, g, ks, rfl, tu1, by omega, wf.1, fun x hx => rk' x (.inl hx), W, fun H1 s1 => ?_⟩
      refine ⟨_, rfl, p, _, _, _, rfl, rfl, SqT.of (s1 _ _ hp), rfl, rfl, _, rfl, iteFe (sF n3) ?_⟩
      refine ⟨_, rfl, p, _, _, _, rfl, rfl, SqT.of (s1 _ _ hp), rfl, rfl, _, rfl, iteFe (sF n4) ?_⟩
      refine ⟨_, rfl, p, _, _, _, rfl, rfl, SqT.of (s1 _ _ hp), rfl, _, rfl, v2, t2, dd, g, ks, rfl, tu2.same s1, by omega, wf.2, fun x hx => rk' x (.inr hx), W.same s1, fun H2 s2 => ?_⟩
      have s12 := s1.trans s2
      have B1 : (val g t1).natAbs < 2 ^ 2000 := val_B (by omega) wf.1 fun x hx => Bx x (rk' x (.inl hx))
      have B2 : (val g t2).natAbs < 2 ^ 2000 := val_B (by omega) wf.2 fun x hx => Bx x (rk' x (.inr hx))
      have q' := fun H' s' => q H' s'
      rw [show val g (.bin k t1 t2) = opv k (val g t1) (val g t2) from rfl] at q'
      generalize val g t1 = i at *
      generalize val g t2 = j at *
      refine fun p1 m1 => ?_
      generalize e : upd H2 p1 _ = H3
      obtain ⟨s3, e3⟩ := new_of m1 e
      refine ⟨_, rfl, _, rfl, _, _, rfl, rfl, _, rfl, _, rfl, _, _, rfl, rfl, _, rfl, _, rfl, _, _, rfl, rfl, ⟨B1, B2⟩, e3, [(.inr "+", .int (i + j)), (.inr "-", .int (i - j)), (.inr "*", .int (i * j))], rfl, by show 3 ≤ 15; decide, ?_⟩
      have n13 : H3 p1 = some (.dK []) := e3
      generalize e : upd H3 p1 _ = H4
      have s4 : Same H2 H4 := by rw [← e]; exact sameUpd m1 s3
      have e4 : H4 p1 = some (.dK (mergeK [] [(.inr "+", .int (i + j)), (.inr "-", .int (i - j)), (.inr "*", .int (i * j))])) := by rw [← e]; exact upd_same
      refine ⟨_, rfl, p1, rfl, .inl ⟨_, .inl e4⟩, fun p2 m2 => ?_⟩
      generalize e : upd H4 p2 _ = H5
      obtain ⟨s5, e5⟩ := new_of m2 e
      refine ⟨_, rfl, _, rfl, by show 2 ≤ sizeLine; decide, fun l1 k1 => ⟨l1, [i, j], rfl, SqL.of upd_same, by show 2 < 64; decide, fun ms hp1 ho1 l2 k2 => ?_⟩⟩
      obtain rfl := two_sorted hp1 ho1
      generalize e : upd H5 l1 _ = H6 at k2
      obtain ⟨s6, _⟩ := new_of k1 e
      generalize e : upd H6 l2 _ = H7
      obtain ⟨s7, e7⟩ := new_of k2 e
      refine ⟨l2, _, _, _, rfl, rfl, SqL.of e7, rfl, _, rfl, _, rfl, by show 2 ≤ sizeLine; decide, fun l3 k3 => ⟨l3, [i, j], rfl, SqL.of upd_same, by show 2 < 64; decide, fun ms hp1 ho1 l4 k4 => ?_⟩⟩
      obtain rfl := two_sorted hp1 ho1
      generalize e : upd H7 l3 _ = H8 at k4
      obtain ⟨s8, _⟩ := new_of k3 e
      generalize e : upd H8 l4 _ = H9
      obtain ⟨s9, e9⟩ := new_of k4 e
      have s59 : Same H5 H9 := s6.trans (s7.trans (s8.trans s9))
      refine ⟨l4, _, _, _, rfl, rfl, SqL.of e9, rfl, s59 _ _ e5, [(.inr "min", .int (min i j)), (.inr "max", .int (max i j))], rfl, by show 2 ≤ 15; decide, ?_⟩
      have n12 : p1 ≠ p2 := ne_of_none e4 m2
      have e49 : H9 p1 = _ := s59 _ _ (s5 _ _ e4)
      generalize e : upd H9 p2 _ = H10
      have s10 : Same H4 H10 := by rw [← e]; exact sameUpd m2 (s5.trans s59)
      have e10 : H10 p2 = some (.dK (mergeK [] [(.inr "min", .int (min i j)), (.inr "max", .int (max i j))])) := by rw [← e]; exact upd_same
      refine ⟨p2, _, _, rfl, s10 _ _ e4, e10, n12, Nat.le_trans (Nat.add_le_add (length_mergeK _ _) (length_mergeK _ _)) (by show 0 + 3 + (0 + 2) ≤ 1000; decide), ?_⟩
      generalize e : upd H10 p1 _ = H11
      have s11 : Same H2 H11 := by rw [← e]; exact sameUpd m1 (s4.trans s10)
      have e11 : H11 p1 = some (.dK (mergeK (mergeK [] [(.inr "+", .int (i + j)), (.inr "-", .int (i - j)), (.inr "*", .int (i * j))]) (mergeK [] [(.inr "min", .int (min i j)), (.inr "max", .int (max i j))]))) := by rw [← e]; exact upd_same
      refine ⟨_, rfl, _, rfl, p, _, _, _, rfl, rfl, SqT.of (s11 _ _ (s12 _ _ hp)), rfl, p1, .int (opv k i j), rfl, ?_, q' H11 (s12.trans s11)⟩
      have := DGet.k (k := .inr (opn k)) e11
      rw [val_fin] at this
      exact this
end
end KV
namespace KV
open PySem PyProof.Rows L2
theorem hu_4 {A : Around} {k : Nat} (hr : Room k A) : A.units + 4 < cLine := by have := hr.un; omega
def spWorths (P : Program) (w : World) : Sp := fun vs H Q _ => ∃ (a so : Addr) (ps : List TkR), vs = [.ref a, .ref so] ∧ WellAt H a ∧ so ≠ a ∧ SomeAt H so ps ∧ ∀ (dd : Addr) (f : Tk → Int) (H' : Hp), Kp a H H' → WellAt H' a → WAt P w H' dd f (ps.map (·.1)) → Q (.ref dd) H'
def Wo (v : V) : Prop := ∃ n : Int, v = .int n ∧ n.natAbs < 2 ^ 41
theorem fold_get : ∀ (kvs acc : List (PKey × V)) (k : PKey), ((valV acc k).isSome = true ∨ k ∈ kvs.map (·.1)) → (∀ k v, valV acc k = some v → Wo v) → (∀ y ∈ kvs, Wo y.2) → ∃ v, valV (kvs.foldl (fun d x => putK d x.1 x.2) acc) k = some v ∧ Wo v
  | [], acc, k, h, g, _ => by
    rcases h with h | h
    · obtain ⟨v, hv⟩ := Option.isSome_iff_exists.mp h
      exact ⟨v, hv, g k v hv⟩
    · exact nomatch h
  | y :: kvs, acc, k, h, g, gk => by
    refine fold_get kvs (putK acc y.1 y.2) k ?_ (fun j v e => ?_) fun z hz => gk z (List.mem_cons_of_mem _ hz)
    · rw [valV_put]
      by_cases e : k = y.1
      · rw [if_pos e]; exact .inl rfl
      · rw [if_neg e]
        rcases h with h | h
        · exact .inl h
        · rcases List.mem_cons.mp h with h | h
          · exact absurd h e
          · exact .inr h
    · rw [valV_put] at e
      by_cases ej : j = y.1
      · rw [if_pos ej] at e
        rw [← Option.some.inj e]
        exact gk y List.mem_cons_self
      · rw [if_neg ej] at e
        exact g j v e
theorem dAll_get {kvs : List (PKey × V)} {k : PKey} (h : k ∈ kvs.map (·.1)) (g : ∀ y ∈ kvs, Wo y.2) : ∃ v, valV (dAll kvs) k = some v ∧ Wo v := fold_get kvs [] k (.inr h) (fun k v e => by rw [valV_nil] at e; cases e) g
theorem prl_mono {H H' : Hp} {vs : List V} {kvs : List (PKey × V)} (k : ∀ c zs, H c = some (.tup zs) → H' c = some (.tup zs)) (h : PrL H vs kvs) : PrL H' vs kvs := Paired.mapP h fun v x ⟨p, b, e, h1, h2⟩ => ⟨p, b, e, k _ _ h1, h2.mono k⟩
abbrev kvOf (L : List (TkR × Int)) : List (PKey × V) := L.map fun y => (kyOf y.1.1, V.int y.2)
section
variable {P : Program} {w : World} {K : PySem.W.Frag} {mg : Str → Option Value} {base : Heap}
abbrev NWorths : List Str := ["_law_well_here", "_law_some"]
theorem scWorths : FnScope ["_law_well_here", "_law_some"] ["_law_well_here", "_law_some"] (defScope sWorths) := ⟨rfl, rfl, rfl, by decide +kernel, rfl, by decide +kernel, by decide +kernel⟩
theorem ok_worths {f : Addr} {fd : FuncData} (F : Fun K "_law_worths" "_law_worths" sWorths f fd) (c_draw : Cal P w K mg base CX0 1 "_law_draw" ["_law_well_here", "_law_most"] spDraw) (T : Txt K mg) : FnOk P w K mg base CX0 2 f fd ["_law_well_here", "_law_some"] (spWorths P w) := by
  refine F.ok scWorths (fun vs H Q E h => ?_) (fun cdv A outer s H vs Q E hr h => ?_)
  · obtain ⟨a, so, ps, rfl, _⟩ := h
    rfl
  · obtain ⟨a, so, ps, rfl, wa, na, S, q⟩ := h
    refine ⟨_, (pss_one (ps_ret (pe_callTy (call_dictP rfl (hu_4 hr)) rfl T.dict boot_dict (pa_cons (pe_cp (own := ["_law_take"]) (cap := [("_law_well_here", 0)]) (g := gName 0) (defScope sWorths) NWorths rfl rfl (fun x h => cell_has h) (by decide +kernel) rfl (pi_list (pv 1)) (fun cl C s2 H2 fp => (pg_name (i := 0) (show (["_law_take", "_law_well_here"] : List Str).Nodup by decide +kernel) rfl (Or.inl rfl) (Or.inr rfl))) (fun cl C s2 H2 fp => (pe_tup (pa_cons (pv 0) (pa_cons (pe_c c_draw (hr.mono (by omega)) rfl pass0 (pa_cons (pv 1) (pa_cons (pe_ix (r := rIxL K) ix_list (pe_lst (pa_cons pe_int (pa_cons (pe_op op_add (pe_op op_pow pe_int pe_int) pe_int) pa_nil))) (pe_c c_draw (hr.mono (by omega)) rfl pass0 (pa_cons (pv 1) (pa_cons pe_int pa_nil))) (fun _ _ => rfl)) pa_nil))) pa_nil))))) pa_nil)))), ?_⟩
    refine ⟨_, rfl, so, rfl, ⟨_, SqL.of S.at_⟩, fun D hD => ?_⟩
    have hDa : D ≠ a := wa.ne hD
    have nsD : so ≠ D := ne_of_none S.at_ hD
    have p8 := S.len
    refine comp_list (K := K) (a := so) (xs := ps.map fun x => V.ref x.2) (fun i acc σ H2 => ∃ (v0 : Option V) (L : List (TkR × Int)), σ = [v0, some (.ref a)] ∧ Kp a H H2 ∧ WellAt H2 a ∧ H2 D = some (.lst acc) ∧ PrL H2 acc (kvOf L) ∧ L.map (·.1) = ps.take i ∧ ∀ y ∈ L, y.2.natAbs < 2 ^ 41) ⟨_, [], rfl, (Kp.of (Same.refl H)).new hD, wa.new hD, upd_same, .nil, rfl, fun _ h => nomatch h⟩
      (fun i acc σ H3 _ ⟨_, _, _, k3, _⟩ => SqL.of (k3 _ _ S.at_ na)) ?_ ?_
    · rintro i x acc σ H2 hi hx ⟨v0, L, rfl, k2, w2, hD2, pr, el, bl⟩
      rw [List.length_map] at hi
      have hx' : x = .ref ps[i].2 := by
        rw [List.getElem?_map, List.getElem?_eq_getElem hi] at hx
        exact (Option.some.inj hx).symm
      subst hx'
      refine ⟨_, rfl, _, rfl, _, _, rfl, rfl, ⟨by decide, by decide, by decide⟩, _, _, rfl, rfl, by show 2 ≤ sizeLine; decide, fun l0 hl0 => ⟨_, rfl, a, 2, rfl, w2.new hl0, by decide, by decide, fun r0 H5 hr0 k5' w5 => ?_⟩⟩
      have l0a : l0 ≠ a := w2.ne hl0
      obtain ⟨m, hv, m0, m1⟩ : ∃ m : Int, ([V.int 3, V.int (10 ^ 9 + 1)] : List V)[r0]? = some (.int m) ∧ 0 < m ∧ m < 2000000000 := by
        match r0, (show r0 < 2 by omega) with
        | 0, _ => exact ⟨3, rfl, by decide, by decide⟩
        | 1, _ => exact ⟨10 ^ 9 + 1, rfl, by decide, by decide⟩
      have k5 : Kp a H2 H5 := (Kp.of (sameNew hl0)).trans k5'
      refine ⟨l0, _, _, _, rfl, rfl, SqL.of (k5' _ _ upd_same l0a), atI_nat hv, a, m, rfl, w5, m0, by omega, fun r H6 hr6 k6 w6 => ?_⟩
      refine ⟨by show 2 ≤ sizeLine; decide, fun t ht => ?_⟩
      have k26 := k5.trans k6
      have hD6 : H6 D = some (.lst acc) := k26 _ _ hD2 hDa
      have tD : t ≠ D := Ne.symm (ne_of_none hD6 ht)
      have la : acc.length = L.length := by rw [Paired.length pr, List.length_map]
      have ll : L.length = i := by have := congrArg List.length el; rw [List.length_map, List.length_take] at this; omega
      have up : ∀ c zs, H6 c = some (.tup zs) → upd (upd H6 t (.tup [V.ref ps[i].2, V.int (r : Int)])) D (.lst (acc ++ [V.ref t])) c = some (.tup zs) := fun c zs e => by
        have cD : c ≠ D := fun z => by rw [z, hD6] at e; cases e
        rw [upd_ne cD, upd_ne (ne_of_none e ht)]
        exact e
      have hky : TkY H6 ps[i] := (S.pk ps[i] (List.getElem_mem hi)).mono fun c zs e => (k2.trans k26).tup wa e
      refine cturn (by rw [upd_ne (Ne.symm tD)]; exact hD6) (small (by omega)) (by rw [List.length_map]; exact hi) ⟨_, L ++ [(ps[i], (r : Int))], rfl, ((k2.trans k26).new ht).upd hD, (w6.new ht).upd hDa, upd_same, ?_, ?_, fun y hy => ?_⟩
      · rw [show kvOf (L ++ [(ps[i], (r : Int))]) = kvOf L ++ [(kyOf ps[i].1, V.int (r : Int))] from List.map_append]
        exact Paired.snoc' (prl_mono (fun c zs e => up c zs (k26.tup w2 e)) pr) ⟨t, ps[i].2, rfl, by rw [upd_ne tD, upd_same], hky.ky.mono up⟩
      · rw [List.map_append, el, List.take_succ, List.getElem?_eq_getElem hi]
        rfl
      · rcases List.mem_append.mp hy with z | z
        · exact bl y z
        · rw [List.mem_singleton.mp z]
          show (r : Int).natAbs < 2 ^ 41
          omega
    · rintro acc σ H2 ⟨v0, L, rfl, k2, w2, hD2, pr, el, bl⟩
      rw [List.length_map, List.take_length] at el
      refine ⟨D, acc, kvOf L, rfl, hD2, pr, fun dd H3 hdd s3 _ pd => ?_⟩
      have G : ∀ y ∈ kvOf L, Wo y.2 := fun y hy => by
        obtain ⟨z, hz, rfl⟩ := List.mem_map.mp hy
        exact ⟨z.2, rfl, bl z hz⟩
      have at_ : ∀ x ∈ ps.map (·.1), ∃ v, valV (dAll (kvOf L)) (kyOf x) = some v ∧ Wo v := fun x hx => by
        refine dAll_get ?_ G
        obtain ⟨y, hy, rfl⟩ := List.mem_map.mp hx
        rw [← el] at hy
        obtain ⟨z, hz, rfl⟩ := List.mem_map.mp hy
        exact List.mem_map.mpr ⟨_, List.mem_map.mpr ⟨z, hz, rfl⟩, rfl⟩
      refine q dd (fun x => match valV (dAll (kvOf L)) (kyOf x) with | some (.int n) => n | _ => 0) H3 (k2.same s3) (w2.same s3) ⟨_, pd, fun x hx => ?_⟩
      obtain ⟨v, e, n, rfl, hn⟩ := at_ x hx
      simp only [e]
      exact ⟨trivial, hn⟩
end
end KV
namespace KV
open PySem PyProof.Rows L2
structure Ks (K : PySem.W.Frag) (N : Cn) (CT : Addr) : Prop where
  cl : ∀ C, IsC N C → Cls K C
  at_ : ∀ C, IsC N C → PySem.W.findIn K (.ref C) "__class__" = some (some (.builtin "object.__class__"))
  hn : PySem.W.specialIn K (.builtin "object.__class__") "__get__" = some (some (.builtin "getset_descriptor.__get__"))
  tk : PySem.W.takesIn K (.builtin "object.__class__") = some true
  mr : ∀ C, IsC N C → PySem.W.mroIn K C (.type "object") = some true
  num : PySem.W.kitOne K (.ref N.num) (.ref N.num) = some true
  take : PySem.W.kitOne K (.ref N.take) (.ref N.take) = some true
  rest : PySem.W.kitOne K (.ref N.rest) (.ref N.rest) = some true
  cho : PySem.W.kitOne K (.ref N.cho) (.ref N.cho) = some true
  term : ∀ C, IsC N C → PySem.W.kitOne K (.ref C) (.ref CT) = some true
theorem Ks.ty {K : PySem.W.Frag} {N : Cn} {CT : Addr} (k : Ks K N CT) {H : Hp} {p dx : Addr} {fs : List (Str × V)} {C : Addr} (hC : IsC N C) (e : H p = some (.ins C dx fs)) : TyOf K H (.ref p) (.ref C) := .ins e (k.cl C hC) (k.at_ C hC) k.hn k.tk (k.mr C hC)
def spFields (N : Cn) (d : Nat) : Sp := fun vs H Q _ => ∃ (p dx : Addr) (fs : List (Str × V)) (t : Tm) (u : V), vs = [.ref p, u] ∧ H p = some (.ins (cls N t) dx fs) ∧ FldAt N H fs t ∧ TupAt H t u ∧ ht t ≤ d ∧ ∀ H', Same H H' → Q (.bl true) H'
section
variable {P : Program} {w : World} {K : PySem.W.Frag} {mg : Str → Option Value} {base : Heap} {N : Cn} {CT : Addr}
theorem scFields : FnScope ["_law_term", "_law_told_here"] ["_law_term", "_law_told_here"] (defScope sFields) := ⟨rfl, rfl, rfl, by decide +kernel, rfl, by decide +kernel, by decide +kernel⟩
theorem ok_fields {f : Addr} {fd : FuncData} {d : Nat} (F : Fun K "_law_fields" "_law_fields" sFields f fd) (c_fields : Cal P w K mg base CX0 (d + 1) "_law_fields" ["_law_term", "_law_told_here"] (spFields N d)) (T : Txt K mg) (Z : Ks K N CT)
    (c1 : Cf K N.num ["value"]) (c2 : Cf K N.take ["back", "steps"]) (c3 : Cf K N.rest ["one", "by"]) (c4 : Cf K N.cho ["test", "one", "other"]) (c5 : ∀ k, Cf K (N.bin k) ["one", "other"])
    (m_Number : mg "Number" = some (.ref N.num)) (m_Take : mg "Take" = some (.ref N.take)) (m_Rest : mg "Rest" = some (.ref N.rest)) (m_Chosen : mg "Chosen" = some (.ref N.cho)) :
    FnOk P w K mg base CX0 (d + 2) f fd ["_law_term", "_law_told_here"] (spFields N (d + 1)) := by
  refine F.ok scFields (fun vs H Q E h => ?_) (fun cdv A outer s H vs Q E hr h => ?_)
  · obtain ⟨p, dx, fs, t, u, rfl, _⟩ := h
    rfl
  · obtain ⟨p, dx, fs, t, u, rfl, hp, hf, tu, hd, q⟩ := h
    have hu := hu_of2 hr
    refine ⟨_, (pss_cons (ps_if (pt_cmpR op_eq (pe_ix ix_tup (pv 1) pe_int (fun _ _ => rfl)) pe_str (nomark _)) (pss_one (ps_ret (pe_and (pe_callB (call_isC (K := K) rfl) rfl T.isinstance boot_isinstance (pa_cons (pv 0) (pa_cons (pe_glob (v := .ref N.num) rfl m_Number rfl) pa_nil))) (pe_one (pe_cmpR op_eq (pe_fld (pv 0) rfl) (pe_ix ix_tup (pv 1) pe_int (fun _ _ => rfl)) (nomark _)))))) pss_nil) (pss_cons (ps_if (pt_cmpR op_eq (pe_ix ix_tup (pv 1) pe_int (fun _ _ => rfl)) pe_str (nomark _)) (pss_one (ps_ret (pe_and (pe_callB (call_isC (K := K) rfl) rfl T.isinstance boot_isinstance (pa_cons (pv 0) (pa_cons (pe_glob (v := .ref N.take) rfl m_Take rfl) pa_nil))) (pe_one (pe_cmpR (op_eqD hu) (pe_tup (pa_cons (pe_fld (pv 0) rfl) (pa_cons (pe_fld (pv 0) rfl) pa_nil))) (pe_slice sl_tup (pv 1) (po_some pe_int) po_none) (nomark _)))))) pss_nil) (pss_cons (ps_if (pt_cmpR op_eq (pe_ix ix_tup (pv 1) pe_int (fun _ _ => rfl)) pe_str (nomark _)) (pss_one (ps_ret (pe_and (pe_callB (call_isC (K := K) rfl) rfl T.isinstance boot_isinstance (pa_cons (pv 0) (pa_cons (pe_glob (v := .ref N.rest) rfl m_Rest rfl) pa_nil))) (pe_and (pe_cmpR op_eq (pe_fld (pv 0) rfl) (pe_ix ix_tup (pv 1) pe_int (fun _ _ => rfl)) (nomark _)) (pe_one (pe_c c_fields (hr.mono (by omega)) rfl pass0 (pa_cons (pe_fld (pv 0) rfl) (pa_cons (pe_ix ix_tup (pv 1) pe_int (fun _ _ => rfl)) pa_nil)))))))) pss_nil) (pss_cons (ps_if (pt_cmpR op_eq (pe_ix ix_tup (pv 1) pe_int (fun _ _ => rfl)) pe_str (nomark _)) (pss_cons (ps_if (PW.pt (pw_or (pt_not (pt_val (pe_callB (call_isC (K := K) rfl) rfl T.isinstance boot_isinstance (pa_cons (pv 0) (pa_cons (pe_glob (v := .ref N.cho) rfl m_Chosen rfl) pa_nil))))) (pw_or1 (pt_not (pt_val (pe_c c_fields (hr.mono (by omega)) rfl pass0 (pa_cons (pe_fld (pv 0) rfl) (pa_cons (pe_ix ix_tup (pv 1) pe_int (fun _ _ => rfl)) pa_nil)))))))) (pss_one (ps_ret pe_bl)) pss_nil) (pss_one (ps_ret (pe_and (pe_c c_fields (hr.mono (by omega)) rfl pass0 (pa_cons (pe_fld (pv 0) rfl) (pa_cons (pe_ix ix_tup (pv 1) pe_int (fun _ _ => rfl)) pa_nil))) (pe_one (pe_c c_fields (hr.mono (by omega)) rfl pass0 (pa_cons (pe_fld (pv 0) rfl) (pa_cons (pe_ix ix_tup (pv 1) pe_int (fun _ _ => rfl)) pa_nil)))))))) pss_nil) (pss_one (ps_ret (pe_and (pe_c c_fields (hr.mono (by omega)) rfl pass0 (pa_cons (pe_fld (pv 0) rfl) (pa_cons (pe_ix ix_tup (pv 1) pe_int (fun _ _ => rfl)) pa_nil))) (pe_one (pe_c c_fields (hr.mono (by omega)) rfl pass0 (pa_cons (pe_fld (pv 0) rfl) (pa_cons (pe_ix ix_tup (pv 1) pe_int (fun _ _ => rfl)) pa_nil))))))))))), ?_⟩
    cases t with
    | num n =>
      obtain ⟨o, rfl, ho⟩ := tu
      obtain rfl := hf
      refine ⟨_, rfl, o, _, _, _, rfl, rfl, SqT.of ho, rfl, rfl, _, rfl, iteTe (decide_eq_true rfl) ?_⟩
      refine ⟨_, rfl, _, N.num, _, true, rfl, Z.ty (.inl rfl) hp, Z.num, _, rfl, iteT ?_⟩
      refine ⟨_, rfl, p, _, dx, _, _, rfl, hp, c1.cl, c1.na _ (by simp), rfl, _, rfl, o, _, _, _, rfl, rfl, SqT.of ho, rfl, rfl, ?_⟩
      rw [decide_eq_true rfl]
      exact q H (Same.refl H)
    | take b ss =>
      obtain ⟨o, v, rfl, ho, hv⟩ := tu
      obtain ⟨u, rfl, hu'⟩ := hf
      refine ⟨_, rfl, o, _, _, _, rfl, rfl, SqT.of ho, rfl, rfl, _, rfl, iteFe sF ?_⟩
      refine ⟨_, rfl, o, _, _, _, rfl, rfl, SqT.of ho, rfl, rfl, _, rfl, iteTe (decide_eq_true rfl) ?_⟩
      refine ⟨_, rfl, _, N.take, _, true, rfl, Z.ty (.inr (.inl rfl)) hp, Z.take, _, rfl, iteT ?_⟩
      refine ⟨_, rfl, p, _, dx, _, _, rfl, hp, c2.cl, c2.na _ (by simp), rfl, _, rfl, p, _, dx, _, _, rfl, hp, c2.cl, c2.na _ (by simp), rfl, by show 2 ≤ sizeLine; decide, fun t1 n1 => ?_⟩
      generalize e : upd H t1 _ = H1
      obtain ⟨s1, e1⟩ := new_of n1 e
      refine ⟨_, rfl, _, rfl, o, _, rfl, SqT.of (s1 _ _ ho), by show ¬ (HT.sIx 3 0 (some 1) = 0 ∧ HT.sIx 3 3 none = 3); decide +kernel, fun t2 n2 => ?_⟩
      generalize e : upd H1 t2 _ = H2
      obtain ⟨s2, e2⟩ := new_of n2 e
      have D1 : DenN Av0 H2 (dTk (b, ss)) (.ref t1) := ⟨t1, _, rfl, s2 _ _ e1, .cons .fl (.cons ⟨u, _, rfl, s2 _ _ (s1 _ _ hu'), dens_ints ss⟩ .nil)⟩
      refine ⟨dTk (b, ss), dTk (b, ss), DenN.den K _ D1, DenN.den K (Av := Av0) _ ⟨t2, _, rfl, e2, .cons .fl (.cons ⟨v, _, rfl, s2 _ _ (s1 _ _ hv), dens_ints ss⟩ .nil)⟩, by simp only [dTk, D.dep, D.deps, dep_ints]; omega, ?_⟩
      rw [DenN.refl _ D1]
      exact q H2 (s1.trans s2)
    | rest t1 y =>
      obtain ⟨o, v1, rfl, ho, tu1⟩ := tu
      obtain ⟨pa, da, fa, rfl, ha, ga⟩ := hf
      have hd1 : ht t1 + 1 ≤ d + 1 := hd
      refine ⟨_, rfl, o, _, _, _, rfl, rfl, SqT.of ho, rfl, rfl, _, rfl, iteFe sF ?_⟩
      refine ⟨_, rfl, o, _, _, _, rfl, rfl, SqT.of ho, rfl, rfl, _, rfl, iteFe sF ?_⟩
      refine ⟨_, rfl, o, _, _, _, rfl, rfl, SqT.of ho, rfl, rfl, _, rfl, iteTe (decide_eq_true rfl) ?_⟩
      refine ⟨_, rfl, _, N.rest, _, true, rfl, Z.ty (.inr (.inr (.inl rfl))) hp, Z.rest, _, rfl, iteT ?_⟩
      refine ⟨_, rfl, p, _, dx, _, _, rfl, hp, c3.cl, c3.na _ (by simp), rfl, _, rfl, o, _, _, _, rfl, rfl, SqT.of ho, rfl, rfl, _, rfl, iteTe (decide_eq_true rfl) ?_⟩
      exact ⟨_, rfl, p, _, dx, _, _, rfl, hp, c3.cl, c3.na _ (by simp), rfl, _, rfl, o, _, _, _, rfl, rfl, SqT.of ho, rfl, pa, da, fa, t1, v1, rfl, ha, ga, tu1, by omega, q⟩
    | cho t1 t2 t3 =>
      obtain ⟨o, v1, v2, v3, rfl, ho, tu1, tu2, tu3⟩ := tu
      obtain ⟨pa, da, fa, pb, db, fb, pe, de, fe, rfl, ⟨ha, ga⟩, ⟨hb, gb⟩, he, ge⟩ := hf
      have hd1 : max (ht t1) (max (ht t2) (ht t3)) + 1 ≤ d + 1 := hd
      refine ⟨_, rfl, o, _, _, _, rfl, rfl, SqT.of ho, rfl, rfl, _, rfl, iteFe sF ?_⟩
      refine ⟨_, rfl, o, _, _, _, rfl, rfl, SqT.of ho, rfl, rfl, _, rfl, iteFe sF ?_⟩
      refine ⟨_, rfl, o, _, _, _, rfl, rfl, SqT.of ho, rfl, rfl, _, rfl, iteFe sF ?_⟩
      refine ⟨_, rfl, o, _, _, _, rfl, rfl, SqT.of ho, rfl, rfl, _, rfl, iteTe (decide_eq_true rfl) ?_⟩
      refine ⟨_, rfl, _, N.cho, _, true, rfl, Z.ty (.inr (.inr (.inr (.inl rfl)))) hp, Z.cho, _, rfl, iteF ?_⟩
      refine ⟨_, rfl, p, _, dx, _, _, rfl, hp, c4.cl, c4.na _ (by simp), rfl, _, rfl, o, _, _, _, rfl, rfl, SqT.of ho, rfl, pa, da, fa, t1, v1, rfl, ha, ga, tu1, by omega, fun H1 s1 => ⟨_, rfl, iteF ?_⟩⟩
      refine ⟨_, rfl, p, _, dx, _, _, rfl, s1 _ _ hp, c4.cl, c4.na _ (by simp), rfl, _, rfl, o, _, _, _, rfl, rfl, SqT.of (s1 _ _ ho), rfl, pb, db, fb, t2, v2, rfl, s1 _ _ hb, gb.same s1, tu2.same s1, by omega, fun H2 s2 => ⟨_, rfl, iteT ?_⟩⟩
      have s12 := s1.trans s2
      exact ⟨_, rfl, p, _, dx, _, _, rfl, s12 _ _ hp, c4.cl, c4.na _ (by simp), rfl, _, rfl, o, _, _, _, rfl, rfl, SqT.of (s12 _ _ ho), rfl, pe, de, fe, t3, v3, rfl, s12 _ _ he, ge.same s12, tu3.same s12, by omega, fun H3 s3 => q H3 (s12.trans s3)⟩
    | bin k t1 t2 =>
      obtain ⟨o, v1, v2, rfl, ho, tu1, tu2⟩ := tu
      obtain ⟨pa, da, fa, pb, db, fb, rfl, ⟨ha, ga⟩, hb, gb⟩ := hf
      have hd1 : max (ht t1) (ht t2) + 1 ≤ d + 1 := hd
      obtain ⟨n1, n2, n3, n4⟩ := opn_ne k
      refine ⟨_, rfl, o, _, _, _, rfl, rfl, SqT.of ho, rfl, rfl, _, rfl, iteFe (sF n1) ?_⟩
      refine ⟨_, rfl, o, _, _, _, rfl, rfl, SqT.of ho, rfl, rfl, _, rfl, iteFe (sF n2) ?_⟩
      refine ⟨_, rfl, o, _, _, _, rfl, rfl, SqT.of ho, rfl, rfl, _, rfl, iteFe (sF n3) ?_⟩
      refine ⟨_, rfl, o, _, _, _, rfl, rfl, SqT.of ho, rfl, rfl, _, rfl, iteFe (sF n4) ?_⟩
      refine ⟨_, rfl, p, _, dx, _, _, rfl, hp, (c5 k).cl, (c5 k).na _ (by simp), rfl, _, rfl, o, _, _, _, rfl, rfl, SqT.of ho, rfl, pa, da, fa, t1, v1, rfl, ha, ga, tu1, by omega, fun H1 s1 => ⟨_, rfl, iteT ?_⟩⟩
      exact ⟨_, rfl, p, _, dx, _, _, rfl, s1 _ _ hp, (c5 k).cl, (c5 k).na _ (by simp), rfl, _, rfl, o, _, _, _, rfl, rfl, SqT.of (s1 _ _ ho), rfl, pb, db, fb, t2, v2, rfl, s1 _ _ hb, gb.same s1, tu2.same s1, by omega, fun H2 s2 => q H2 (s1.trans s2)⟩
end
end KV
namespace KV
open PySem PyProof.Rows L2
structure DisA (P : Program) (w : World) (K : PySem.W.Frag) (mg : Str → Option Value) (base : Heap) (k : Nat) (Cs : Addr → Prop) (m : Str) (ps : List Str) (ok : See → Prop) (sp : See → Addr → Sp) : Prop where
  ex : ∀ C, Cs C → Cls K C ∧ ∃ f fd, Meth K C m f ∧ (∀ z, ok z → FnOk P w K mg base CX0 k f fd ps (sp z C)) ∧ Binds K fd ps []
theorem DisA.one {P : Program} {w : World} {K : PySem.W.Frag} {mg : Str → Option Value} {base : Heap} {k : Nat} {Cs : Addr → Prop} {m : Str} {ps : List Str} {ok : See → Prop} {sp : See → Addr → Sp} (D : DisA P w K mg base k Cs m ps ok sp) {z : See} (hz : ok z) : Dis P w K mg base CX0 k Cs m ps (sp z) :=
  ⟨fun C hC => let ⟨c, f, fd, h1, h2, h3⟩ := D.ex C hC; ⟨c, f, fd, h1, h2 z hz, h3⟩⟩
theorem DisA.some {P : Program} {w : World} {K : PySem.W.Frag} {mg : Str → Option Value} {base : Heap} {k : Nat} {Cs : Addr → Prop} {m : Str} {ps : List Str} {ok ok' : See → Prop} {sp : See → Addr → Sp} (D : DisA P w K mg base k Cs m ps ok sp) (h : ∀ z, ok' z → ok z) :
    Dis P w K mg base CX0 k Cs m ps (fun C vs H Q E => ∃ z, ok' z ∧ sp z C vs H Q E) :=
  ⟨fun C hC => let ⟨c, f, fd, h1, h2, h3⟩ := D.ex C hC; ⟨c, f, fd, h1, ⟨fun vs H Q E ⟨z, hz, q⟩ => (h2 z (h z hz)).len vs H Q E q, fun A outer s H args us vs Q E hr e0 hb hv ⟨z, hz, q⟩ => (h2 z (h z hz)).run A outer s H args us vs Q E hr e0 hb hv q⟩, h3⟩⟩
abbrev IsCl (base : Heap) (z : See) : Prop := base.IsCell z.cell (some (.ref z.dd))
abbrev DValA (P : Program) (w : World) (K : PySem.W.Frag) (mg : Str → Option Value) (base : Heap) (N : Cn) (d : Nat) : Prop := DisA P w K mg base (d + 1) (IsC N) "value_by" VPs (IsCl base) (fun z => spVal P w N z d)
def spRight (P : Program) (w : World) (N : Cn) (Pt : Addr) (d : Nat) : Sp := fun vs H Q _ => ∃ (p dx : Addr) (fs : List (Str × V)) (t : Tm) (u : V) (dd : Addr) (f : Tk → Int) (ks : List Tk), vs = [.ref p, u, .ref dd] ∧ H p = some (.ins (cls N t) dx fs) ∧ FldAt N H fs t ∧ TupAt H t u ∧ ht t ≤ d ∧ Wf t ∧ (∀ x ∈ raw t, x ∈ ks) ∧ WAt P w H dd f ks ∧ Tab H Pt lPos lQ ∧
  ∀ H', KpP Pt H H' → Tab H' Pt lPos lQ → Q (.bl true) H'
theorem FldAt.keepP {N : Cn} {Pt : Addr} {H H' : Hp} (s : KpP Pt H H') (n : ∀ b o, H b = some o → (∀ ps, o ≠ .tbl ps) → b ≠ Pt) : ∀ {t : Tm} {fs : List (Str × V)}, FldAt N H fs t → FldAt N H' fs t
  | .num _, _, h => h
  | .take _ _, _, ⟨q, e, h⟩ => ⟨q, e, s _ _ (n _ _ h (by intro _ z; cases z)) h⟩
  | .rest _ _, _, ⟨p, dx, gs, e, h, h2⟩ => ⟨p, dx, gs, e, s _ _ (n _ _ h (by intro _ z; cases z)) h, h2.keepP s n⟩
  | .cho _ _ _, _, ⟨p, dp, ps, q, dq, qs, r, dr, rs, e, ⟨h1, g1⟩, ⟨h2, g2⟩, h3, g3⟩ => ⟨p, dp, ps, q, dq, qs, r, dr, rs, e, ⟨s _ _ (n _ _ h1 (by intro _ z; cases z)) h1, g1.keepP s n⟩, ⟨s _ _ (n _ _ h2 (by intro _ z; cases z)) h2, g2.keepP s n⟩, s _ _ (n _ _ h3 (by intro _ z; cases z)) h3, g3.keepP s n⟩
  | .bin _ _ _, _, ⟨p, dp, ps, q, dq, qs, e, ⟨h1, g1⟩, h2, g2⟩ => ⟨p, dp, ps, q, dq, qs, e, ⟨s _ _ (n _ _ h1 (by intro _ z; cases z)) h1, g1.keepP s n⟩, s _ _ (n _ _ h2 (by intro _ z; cases z)) h2, g2.keepP s n⟩
theorem WAt.keepP {P : Program} {w : World} {Pt : Addr} {H H' : Hp} {dd : Addr} {f : Tk → Int} {ks : List Tk} (s : KpP Pt H H') (n : ∀ b o, H b = some o → (∀ ps, o ≠ .tbl ps) → b ≠ Pt) (h : WAt P w H dd f ks) : WAt P w H' dd f ks := by
  obtain ⟨kvs, ⟨z, xs, e, k⟩, l⟩ := h
  exact ⟨kvs, ⟨z, xs, s _ _ (n _ _ e (by intro _ z; cases z)) e, k.mono fun c ys e => s _ _ (n _ _ e (by intro _ z; cases z)) e⟩, l⟩
section
variable {P : Program} {w : World} {K : PySem.W.Frag} {mg : Str → Option Value} {base : Heap} {N : Cn}
theorem scRight : FnScope ["_law_term", "_law_told_here", "_law_worths_here", "_law_found"] ["_law_term", "_law_told_here", "_law_worths_here"] (defScope sRight) := ⟨rfl, rfl, rfl, by decide +kernel, rfl, by decide +kernel, by decide +kernel⟩
theorem ok_right {f cc Pt : Addr} {d : Nat} {oc kV doc pm ct : Value} {od an : Option Addr} {osl : Array (Option Value)}
    (lk : K.lookup f = some ⟨oc, od, .func (PySem.W.fnOf "_law_right" "_law_right" (defArgs sRight) (defBody sRight) (defScope sRight) .none kV doc pm an (.ref cc) ct), osl⟩) (hcd : PySem.W.codeIn K (.ref cc) "_law_right" = true)
    (hC : PySem.W.CodeHd base cc Pt) (hB : BltM mg base) (DV : ∀ base, DValA P w K mg base N d) (nV : NoV N) (c_value : Cal P w K mg base CX0 (d + 1) "_law_value" ["_law_told_here", "_law_worths_here"] (spLVal P w d)) (T : Txt K mg) :
    FnOk P w K mg base CX0 (d + 2) f (PySem.W.fnOf "_law_right" "_law_right" (defArgs sRight) (defBody sRight) (defScope sRight) .none kV doc pm an (.ref cc) ct) ["_law_term", "_law_told_here", "_law_worths_here"] (spRight P w N Pt d) := by
  refine fn_of lk hcd scRight (fun vs H Q E h => ?_) (fun A outer s H vs Q E hr h => ?_)
  · obtain ⟨p, dx, fs, t, u, dd, g, ks, rfl, _⟩ := h
    rfl
  · obtain ⟨p, dx, fs, t, u, dd, g, ks, rfl, hp, hf, tu, hd, wf, rk, W, tb, q⟩ := h
    have DD : ∀ (base : Heap) (u : Value), RelV (.ref dd) u → base.IsCell (s.heap.objs.size + 1) (some u) → Dis P w K mg base CX0 (d + 1) (IsC N) "value_by" VPs (fun C vs H Q E => ∃ z : See, (z.cell = s.heap.objs.size + 1 ∧ z.dd = dd) ∧ spVal P w N z d C vs H Q E) := fun base u r c => by
      obtain rfl : u = Value.ref dd := r
      exact (DV base).some fun z hz => by unfold IsCl; rw [hz.1, hz.2]; exact c
    refine ⟨_, PSs.nox (pss_cons (ps_set (i := 3) scRight.nd rfl (Or.inl rfl) (pe_methDB (c := s.heap.objs.size + 1) (v := .ref dd) (y := "_law_worths_here") (i := 2) (pv 0) DD (hr.mono (by omega)) (pa_cons (pe_lam hC rfl hB) pa_nil) rfl rfl rfl rfl)) (pss_cons (ps_if (PW.pt (pw_or (pt_not (pt_val (pe_callB call_isinst rfl T.isinstance boot_isinstance (pa_cons (pv 3) (pa_cons (pe_ty rfl T.int boot_int) pa_nil))))) (pw_or1 (pt_val (pe_callB call_isinst rfl T.isinstance boot_isinstance (pa_cons (pv 3) (pa_cons (pe_ty rfl T.bool boot_bool) pa_nil))))))) (pss_one (ps_ret pe_bl)) pss_nil) (pss_one (ps_ret (pe_cmpR op_eq (pv 3) (pe_c c_value (hr.mono (by omega)) rfl pass0 (pa_cons (pv 1) (pa_cons (pv 2) pa_nil))) (nomark _)))))), ?_⟩
    refine ⟨rfl, _, rfl, p, _, dx, fs, rfl, hp, isC N t, nV t fs H hf, tb, fun c1 fl ctv H1 k1 tb1 hc1 hfl nfl => ?_⟩
    have nP : ∀ b o, H b = some o → (∀ ps, o ≠ .tbl ps) → b ≠ Pt := fun b o e n => tb.ne e n
    have W1 := W.keepP k1 nP
    refine ⟨⟨fl, s.heap.objs.size + 1, dd, c1, _, ctv, g, ks⟩, ⟨rfl, rfl⟩, p, dx, fs, t, rfl, k1 _ _ (nP _ _ hp (by intro _ z; cases z)) hp, hf.keepP k1 nP, rfl, hd, wf, rk, ⟨hfl, hc1, W1⟩, fun H2 s2 => ?_⟩
    refine ⟨_, rfl, _, "int", _, true, rfl, .int _, rfl, _, rfl, iteF ?_⟩
    refine ⟨_, rfl, _, "bool", _, false, rfl, .int _, rfl, _, rfl, iteF ?_⟩
    have k2 : KpP Pt H H2 := k1.trans (KpP.of s2)
    refine ⟨_, rfl, _, rfl, _, rfl, u, t, dd, g, ks, rfl, tu.mono fun c zs e => k2 _ _ (nP _ _ e (by intro _ z; cases z)) e, hd, wf, rk, W1.same s2, fun H3 s3 => ⟨rfl, ?_⟩⟩
    rw [decide_eq_true rfl]
    exact q H3 (k2.trans (KpP.of s3)) ((tb1.same s2).same s3)
end
end KV
namespace KV
open PySem PyProof.Rows L2
theorem no_names {N : Cn} (m : Str) (hm : ∀ x ∈ (["value", "back", "steps", "one", "by", "test", "other"] : List Str), (m == x) = false) : ∀ (t : Tm) (fs : List (Str × V)) (H : Hp), FldAt N H fs t → fs.lookup m = none := by
  have g : ∀ {fs : List (Str × V)}, (∀ p ∈ fs, (m == p.1) = false) → fs.lookup m = none := fun {fs} => by
    induction fs with
    | nil => intro _; rfl
    | cons p l ih =>
      intro h
      rw [List.lookup_cons, h p List.mem_cons_self]
      exact ih fun q hq => h q (List.mem_cons_of_mem _ hq)
  intro t fs H h
  cases t with
  | num n =>
    subst h
    exact g fun p hp => by rw [List.mem_singleton.mp hp]; exact hm _ (by simp)
  | take b ss =>
    obtain ⟨q, rfl, _⟩ := h
    refine g fun p hp => hm _ ?_
    simp only [List.mem_cons, List.not_mem_nil, or_false] at hp
    rcases hp with rfl | rfl <;> simp
  | rest a y =>
    obtain ⟨_, _, _, rfl, _⟩ := h
    refine g fun p hp => hm _ ?_
    simp only [List.mem_cons, List.not_mem_nil, or_false] at hp
    rcases hp with rfl | rfl <;> simp
  | cho a b c =>
    obtain ⟨_, _, _, _, _, _, _, _, _, rfl, _⟩ := h
    refine g fun p hp => hm _ ?_
    simp only [List.mem_cons, List.not_mem_nil, or_false] at hp
    rcases hp with rfl | rfl | rfl <;> simp
  | bin k a b =>
    obtain ⟨_, _, _, _, _, _, rfl, _⟩ := h
    refine g fun p hp => hm _ ?_
    simp only [List.mem_cons, List.not_mem_nil, or_false] at hp
    rcases hp with rfl | rfl <;> simp
structure CV (P : Program) (w : World) (K : PySem.W.Frag) (mg : Str → Option Value) (N : Cn) (C : Addr) : Prop where
  ex : ∃ f fd, Meth K C "value_by" f ∧ Binds K fd VPs [] ∧ ∀ (base : Heap) (z : See) (d : Nat), d ≤ 5 → IsCl base z → DVal P w K mg base N z d → FnOk P w K mg base CX0 (d + 2) f fd VPs (spVal P w N z (d + 1) C)
section
variable {P : Program} {w : World} {K : PySem.W.Frag} {mg : Str → Option Value} {base : Heap} {N : Cn}
theorem dis_value (cl : ∀ C, IsC N C → Cls K C) (cv : ∀ C, IsC N C → CV P w K mg N C) : ∀ d, d ≤ 6 → DValA P w K mg base N d
  | 0, _ => ⟨fun C hC => by
      obtain ⟨f, fd, m, b, _⟩ := (cv C hC).ex
      exact ⟨cl C hC, f, fd, m, fun z hz => fn_none fun vs H Q E ⟨_, _, _, t, _, _, _, _, h, _⟩ => absurd (ht_pos t) (by omega), b⟩⟩
  | d + 1, hd => ⟨fun C hC => by
      obtain ⟨f, fd, m, b, k⟩ := (cv C hC).ex
      exact ⟨cl C hC, f, fd, m, fun z hz => k base z d (by omega) hz ((dis_value cl cv d (by omega)).one hz), b⟩⟩
theorem cal_told {f : Addr} {fd : FuncData} (F : Fun K "_law_told" "_law_told" sTold f fd) (m : mg "_law_told" = some (.ref f)) (k : PySem.W.keepIn K (.ref f) = true) (b : Binds K fd ["_law_well_here", "_law_some", "_law_deep"] []) (c_draw : Cal P w K mg base CX0 1 "_law_draw" ["_law_well_here", "_law_most"] spDraw) (c_number : Cal P w K mg base CX0 2 "_law_number" ["_law_well_here"] spNumber) (T : Txt K mg) :
    ∀ d, Cal P w K mg base CX0 (d + 2) "_law_told" ["_law_well_here", "_law_some", "_law_deep"] (spTold d)
  | 0 => ⟨_, _, fn_none (fun vs H Q E ⟨_, _, _, e, _, _, _, _, h, _⟩ => absurd h (by omega)), m, k, b⟩
  | d + 1 => ⟨_, _, ok_told F c_draw c_number (cal_told F m k b c_draw c_number T d) T, m, k, b⟩
theorem cal_made {f : Addr} {fd : FuncData} (F : Fun K "_law_made" "_law_made" sMade f fd) (m : mg "_law_made" = some (.ref f)) (k : PySem.W.keepIn K (.ref f) = true) (b : Binds K fd ["_law_told_here"] [])
    (st : ∀ d, Cal P w K mg base CX0 (d + 2) "_law_made" ["_law_told_here"] (spMade N d) → FnOk P w K mg base CX0 (d + 3) f fd ["_law_told_here"] (spMade N (d + 1))) : ∀ d, Cal P w K mg base CX0 (d + 2) "_law_made" ["_law_told_here"] (spMade N d)
  | 0 => ⟨_, _, fn_none (fun vs H Q E ⟨_, t, _, _, h, _⟩ => absurd (ht_pos t) (by omega)), m, k, b⟩
  | d + 1 => ⟨_, _, st d (cal_made F m k b st d), m, k, b⟩
theorem cal_value {f : Addr} {fd : FuncData} (F : Fun K "_law_value" "_law_value" sValue f fd) (m : mg "_law_value" = some (.ref f)) (k : PySem.W.keepIn K (.ref f) = true) (b : Binds K fd ["_law_told_here", "_law_worths_here"] []) (T : Txt K mg) : ∀ d, d ≤ 6 → Cal P w K mg base CX0 (d + 1) "_law_value" ["_law_told_here", "_law_worths_here"] (spLVal P w d)
  | 0, _ => ⟨_, _, fn_none (fun vs H Q E ⟨_, t, _, _, _, _, _, h, _⟩ => absurd (ht_pos t) (by omega)), m, k, b⟩
  | d + 1, hd => ⟨_, _, ok_value F (cal_value F m k b T d (by omega)) T (by omega), m, k, b⟩
theorem cal_fields {f : Addr} {fd : FuncData} (F : Fun K "_law_fields" "_law_fields" sFields f fd) (m : mg "_law_fields" = some (.ref f)) (k : PySem.W.keepIn K (.ref f) = true) (b : Binds K fd ["_law_term", "_law_told_here"] [])
    (st : ∀ d, Cal P w K mg base CX0 (d + 1) "_law_fields" ["_law_term", "_law_told_here"] (spFields N d) → FnOk P w K mg base CX0 (d + 2) f fd ["_law_term", "_law_told_here"] (spFields N (d + 1))) : ∀ d, Cal P w K mg base CX0 (d + 1) "_law_fields" ["_law_term", "_law_told_here"] (spFields N d)
  | 0 => ⟨_, _, fn_none (fun vs H Q E ⟨_, _, _, t, _, _, _, _, _, h, _⟩ => absurd (ht_pos t) (by omega)), m, k, b⟩
  | d + 1 => ⟨_, _, st d (cal_fields F m k b st d), m, k, b⟩
end
def spLaw (K : PySem.W.Frag) (Pt : Addr) : Sp := fun vs H Q _ => ∃ (a : Addr) (ns : List Int), vs = [.ref a] ∧ SqL K H a (ns.map V.int) ∧ H Pt = some (.tbl #[]) ∧ ∀ H', Q (.bl true) H'
theorem Kp.kpN {a : Addr} {H H' : Hp} (k : Kp a H H') (w : WellAt H a) : KpN H H' := fun c o h n => k c o h fun z => by
  obtain ⟨_, _, _, e⟩ := w
  rw [z, e] at h
  cases h
  exact n _ rfl
theorem KpN.trans {H H1 H2 : Hp} (a : KpN H H1) (b : KpN H1 H2) : KpN H H2 := fun c o h n => b c o (a c o h n) n
theorem KpN.tup {H H' : Hp} (k : KpN H H') : ∀ c zs, H c = some (.tup zs) → H' c = some (.tup zs) := fun c zs e => k _ _ e (by intro _ z; cases z)
theorem WAt.kpN {P : Program} {w : World} {H H' : Hp} {dd : Addr} {f : Tk → Int} {ks : List Tk} (s : KpN H H') (h : WAt P w H dd f ks) : WAt P w H' dd f ks := by
  obtain ⟨kvs, ⟨z, xs, e, k⟩, l⟩ := h
  exact ⟨kvs, ⟨z, xs, s _ _ e (by intro _ z; cases z), k.mono s.tup⟩, l⟩
theorem Tab.kpN {H H' : Hp} {Pt : Addr} {pos : Pos} {q : Str} (s : KpN H H') (t : Tab H Pt pos q) : Tab H' Pt pos q := by
  obtain ⟨ps, e, ok, c⟩ := t
  refine ⟨ps, s _ _ e (by intro _ z; cases z), ok, ?_⟩
  rcases c with c | ⟨c', e1, e2⟩
  · exact .inl c
  · exact .inr ⟨c', e1, s _ _ e2 (by intro _ z; cases z)⟩
theorem SomeAt.same {H H' : Hp} {so : Addr} {ps : List TkR} (s : Same H H') (h : SomeAt H so ps) : SomeAt H' so ps := ⟨s _ _ h.at_, fun x hx => (h.pk x hx).same s, h.len⟩
theorem SqL.kp {K : PySem.W.Frag} {a p : Addr} {H H' : Hp} {xs : List V} (k : Kp p H H') (hp : H p = none) (h : SqL K H a xs) : SqL K H' a xs := by
  rcases h with (h | ⟨o, h⟩) | h
  · exact .inl (.inl (k _ _ h (ne_of_none h hp)))
  · exact .inl (.inr ⟨o, k _ _ h (ne_of_none h hp)⟩)
  · exact .inr h
structure Has (P : Program) (w : World) (N : Cn) (Pt : Addr) (t : Tm) (v : V) (p dx : Addr) (fs : List (Str × V)) (d1 d2 : Addr) (f1 f2 : Tk → Int) (ks : List Tk) (H : Hp) : Prop where
  hp : H p = some (.ins (cls N t) dx fs)
  hf : FldAt N H fs t
  tu : TupAt H t v
  w1 : WAt P w H d1 f1 ks
  w2 : WAt P w H d2 f2 ks
  tb : Tab H Pt lPos lQ
theorem Has.keepP {P : Program} {w : World} {N : Cn} {Pt : Addr} {t : Tm} {v : V} {p dx : Addr} {fs : List (Str × V)} {d1 d2 : Addr} {f1 f2 : Tk → Int} {ks : List Tk} {H H' : Hp} (h : Has P w N Pt t v p dx fs d1 d2 f1 f2 ks H) (k : KpP Pt H H') (tb : Tab H' Pt lPos lQ) : Has P w N Pt t v p dx fs d1 d2 f1 f2 ks H' := by
  have nP : ∀ b o, H b = some o → (∀ ps, o ≠ .tbl ps) → b ≠ Pt := fun b o e n => h.tb.ne e n
  exact ⟨k _ _ (nP _ _ h.hp (by intro _ z; cases z)) h.hp, h.hf.keepP k nP, h.tu.mono fun c zs e => k _ _ (nP _ _ e (by intro _ z; cases z)) e, h.w1.keepP k nP, h.w2.keepP k nP, tb⟩
section
variable {P : Program} {w : World} {K : PySem.W.Frag} {mg : Str → Option Value} {base : Heap} {N : Cn} {CT Pt : Addr}
theorem scLaw : FnScope ["_law_script", "_law_well_here", "_law_some", "_law_told_here", "_law_term", "_law_first", "_law_worths_here"] ["_law_script"] (defScope sLaw) := ⟨rfl, rfl, rfl, by decide +kernel, rfl, by decide +kernel, by decide +kernel⟩
abbrev NL : List Str := ["_law_script", "_law_well_here", "_law_some", "_law_told_here", "_law_term", "_law_first", "_law_worths_here"]
abbrev XL (P : Program) (w : World) (K : PySem.W.Frag) (mg : Str → Option Value) (base : Heap) (f : Addr) (cdv : Value) (A : Around) (outer : List Env) (s : Shared) (H : Hp) (E : XK) : Cx := (cxOf CX0 P w K mg base NL "law" (defScope sLaw) f cdv A outer s H E).nox
theorem law_rest {f : Addr} {cdv : Value} {A : Around} {outer : List Env} {s : Shared} {H : Hp} {E : XK} (hr : Room 7 (XL P w K mg base f cdv A outer s H E).A) (c_well : Cal P w K mg base CX0 2 "_law_well" ["_law_script", "_law_k"] (spWell K)) (c_made : Cal P w K mg base CX0 7 "_law_made" ["_law_told_here"] (spMade N 5)) (c_fields : Cal P w K mg base CX0 6 "_law_fields" ["_law_term", "_law_told_here"] (spFields N 5))
    (c_worths : Cal P w K mg base CX0 2 "_law_worths" ["_law_well_here", "_law_some"] (spWorths P w)) (c_right : Cal P w K mg base CX0 7 "_law_right" ["_law_term", "_law_told_here", "_law_worths_here"] (spRight P w N Pt 5)) (T : Txt K mg) (Z : Ks K N CT) (m_Term : mg "Term" = some (.ref CT)) :
    ∃ t, PSs (XL P w K mg base f cdv A outer s H E) ((defBody sLaw).drop 4) t ∧ ∀ (nx : L2.St → Hp → Prop) (Q : VK) (a0 wp so : Addr) (ns0 : List Int) (ps : List TkR) (v : V) (tm : Tm) (H6 : Hp), SqL K H6 a0 (ns0.map V.int) → SomeAt H6 so ps → TupAt H6 tm v → ht tm ≤ 5 → Wf tm → (∀ x ∈ raw tm, x ∈ ps.map (·.1)) → Tab H6 Pt lPos lQ → (∀ H', Q (.bl true) H') →
      t { nx := nx, rt := Q } [some (.ref a0), some (.ref wp), some (.ref so), some v, none, none, none] H6 := by
  refine ⟨_, (pss_cons (ps_set (i := 4) scLaw.nd rfl (Or.inl rfl) (pe_c c_made (hr.mono (by omega)) rfl pass0 (pa_cons (pv 3) pa_nil))) (pss_cons (ps_if (PW.pt (pw_or (pt_not (pt_val (pe_callB (call_isC (K := K) rfl) rfl T.isinstance boot_isinstance (pa_cons (pv 4) (pa_cons (pe_glob (v := .ref CT) rfl m_Term rfl) pa_nil))))) (pw_or1 (pt_not (pt_val (pe_c c_fields (hr.mono (by omega)) rfl pass0 (pa_cons (pv 4) (pa_cons (pv 3) pa_nil)))))))) (pss_one (ps_ret pe_bl)) pss_nil) (pss_cons (ps_set (i := 1) scLaw.nd rfl (Or.inl rfl) (pe_c c_well (hr.mono (by omega)) rfl pass0 (pa_cons (pv 0) (pa_cons pe_int pa_nil)))) (pss_cons (ps_set (i := 5) scLaw.nd rfl (Or.inl rfl) (pe_c c_worths (hr.mono (by omega)) rfl pass0 (pa_cons (pv 1) (pa_cons (pv 2) pa_nil)))) (pss_cons (ps_for PassesOwn.never rfl (pi_list (pe_lst (pa_cons (pv 5) (pa_cons (pe_c c_worths (hr.mono (by omega)) rfl pass0 (pa_cons (pv 1) (pa_cons (pv 2) pa_nil))) (pa_cons (pv 5) pa_nil))))) (pg_name (i := 6) scLaw.nd rfl (Or.inl rfl)) (pss_one (ps_if (pt_not (pt_val (pe_c c_right (hr.mono (by omega)) rfl pass0 (pa_cons (pv 4) (pa_cons (pv 3) (pa_cons (pv 6) pa_nil)))))) (pss_one (ps_ret pe_bl)) pss_nil))) (pss_one (ps_ret (pe_c c_fields (hr.mono (by omega)) rfl pass0 (pa_cons (pv 4) (pa_cons (pv 3) pa_nil)))))))))), ?_⟩
  intro nx Q a0 wp so ns0 ps v tm H6 hS S6 tu6 h6 f6 r6 tb6 k
  refine ⟨_, rfl, v, tm, rfl, tu6, h6, fun v' H7 s7 tr => ?_⟩
  obtain ⟨p, dx, fs, rfl, hp, hf⟩ := tr
  refine ⟨_, rfl, _, CT, _, true, rfl, Z.ty (isC N tm) hp, Z.term _ (isC N tm), _, rfl, iteF ?_⟩
  refine ⟨_, rfl, _, rfl, p, dx, fs, tm, v, rfl, hp, hf, tu6.same s7, h6, fun H8 s8 => ⟨_, rfl, iteF ?_⟩⟩
  have s68 := s7.trans s8
  refine ⟨_, rfl, a0, ns0, 1, rfl, s68.seq hS, fun wq H9 s9 hwq w9 => ?_⟩
  have S9 := (S6.same s68).same s9
  have nsq : so ≠ wq := ne_of_none (s68 _ _ S6.at_) hwq
  refine ⟨_, rfl, _, rfl, wq, so, ps, rfl, w9, nsq, S9, fun d1 f1 HA kA wA WA => ?_⟩
  have SA := S9.kp kA w9 nsq
  refine ⟨_, rfl, _, rfl, _, rfl, wq, so, ps, rfl, wA, nsq, SA, fun d2 f2 HB kB wB WB => ⟨_, rfl, by show 3 ≤ sizeLine; decide, fun l nl => ?_⟩⟩
  generalize e : upd HB l _ = HC
  obtain ⟨sC, eC⟩ := new_of nl e
  have nAB : KpN H9 HB := (kA.kpN w9).trans (kB.kpN wA)
  have s69 := s68.trans s9
  have hh : Has P w N Pt tm v p dx fs d1 d2 f1 f2 (ps.map (·.1)) HC := by
    have n79 : KpN H7 HC := ((KpN.of (s8.trans s9)).trans nAB).trans (KpN.of sC)
    have n69 : KpN H6 HC := (KpN.of s7).trans n79
    exact ⟨n79 _ _ hp (by intro _ z; cases z), hf.keep n79, tu6.mono n69.tup, (WA.kpN (kB.kpN wA)).same sC, WB.same sC, KV.Tab.kpN n69 tb6⟩
  refine ⟨l, rfl, ⟨_, SqL.of eC⟩, ?_⟩
  refine for_list (K := K) (a := l) (xs := [.ref d1, .ref d2, .ref d1]) (fun i σ HD => (∃ v6, σ = [some (.ref a0), some (.ref wq), some (.ref so), some v, some (.ref p), some (.ref d1), v6]) ∧ Has P w N Pt tm v p dx fs d1 d2 f1 f2 (ps.map (·.1)) HD ∧ HD l = some (.lst [.ref d1, .ref d2, .ref d1])) ⟨⟨_, rfl⟩, hh, eC⟩ (fun i σ HD _ ⟨_, _, eD⟩ => SqL.of eD) ?_ ?_
  · rintro i x σ HD hx ⟨⟨v6, rfl⟩, hD, eD⟩
    obtain ⟨dd, g, rfl, W⟩ : ∃ (dd : Addr) (g : Tk → Int), x = .ref dd ∧ WAt P w HD dd g (ps.map (·.1)) := by
      match i, hx with
      | 0, hx => exact ⟨d1, f1, (Option.some.inj hx).symm, hD.w1⟩
      | 1, hx => exact ⟨d2, f2, (Option.some.inj hx).symm, hD.w2⟩
      | 2, hx => exact ⟨d1, f1, (Option.some.inj hx).symm, hD.w1⟩
      | i + 3, hx => simp at hx
    refine ⟨_, rfl, _, rfl, _, rfl, p, dx, fs, tm, v, dd, g, ps.map (·.1), rfl, hD.hp, hD.hf, hD.tu, h6, f6, r6, W, hD.tb, fun HE kE tE => ⟨_, rfl, iteF ?_⟩⟩
    exact ⟨⟨_, rfl⟩, hD.keepP kE tE, kE _ _ (hD.tb.ne eD (by intro _ z; cases z)) eD⟩
  · rintro σ HD ⟨⟨v6, rfl⟩, hD, eD⟩
    exact ⟨_, rfl, _, rfl, p, dx, fs, tm, v, rfl, hD.hp, hD.hf, hD.tu, h6, fun HE sE => k HE⟩
theorem ok_law {f : Addr} {fd : FuncData} (F : Fun K "law" "law" sLaw f fd) (c_well : Cal P w K mg base CX0 2 "_law_well" ["_law_script", "_law_k"] (spWell K)) (c_draw : Cal P w K mg base CX0 1 "_law_draw" ["_law_well_here", "_law_most"] spDraw) (c_some : Cal P w K mg base CX0 3 "_law_some_takes" ["_law_well_here", "_law_lines"] spSome)
    (c_told : Cal P w K mg base CX0 6 "_law_told" ["_law_well_here", "_law_some", "_law_deep"] (spTold 4)) (c_made : Cal P w K mg base CX0 7 "_law_made" ["_law_told_here"] (spMade N 5)) (c_fields : Cal P w K mg base CX0 6 "_law_fields" ["_law_term", "_law_told_here"] (spFields N 5))
    (c_worths : Cal P w K mg base CX0 2 "_law_worths" ["_law_well_here", "_law_some"] (spWorths P w)) (c_right : Cal P w K mg base CX0 7 "_law_right" ["_law_term", "_law_told_here", "_law_worths_here"] (spRight P w N Pt 5)) (T : Txt K mg) (Z : Ks K N CT) (m_Term : mg "Term" = some (.ref CT)) : FnOk P w K mg base CX0 8 f fd ["_law_script"] (spLaw K Pt) := by
  refine F.ok scLaw (fun vs H Q E h => ?_) (fun cdv A outer s H vs Q E hr h => ?_)
  · obtain ⟨a, ns, rfl, _⟩ := h
    rfl
  · obtain ⟨a0, ns0, rfl, hS, hPt, k⟩ := h
    have tb0 : Tab H Pt lPos lQ := ⟨#[], hPt, True.intro, .inl rfl⟩
    obtain ⟨tR, hR, rR⟩ := law_rest (f := f) (cdv := cdv) (A := A) (outer := outer) (s := s) (H := H) (E := E) hr c_well c_made c_fields c_worths c_right T Z m_Term
    refine ⟨_, (pss_cons (ps_set (i := 1) scLaw.nd rfl (Or.inl rfl) (pe_c c_well (hr.mono (by omega)) rfl pass0 (pa_cons (pv 0) (pa_cons pe_int pa_nil)))) (pss_cons (ps_set (i := 2) scLaw.nd rfl (Or.inl rfl) (pe_c c_some (hr.mono (by omega)) rfl pass0 (pa_cons (pv 1) (pa_cons (pe_op op_add pe_int (pe_c c_draw (hr.mono (by omega)) rfl pass0 (pa_cons (pv 1) (pa_cons pe_int pa_nil)))) pa_nil)))) (pss_cons (ps_set (i := 3) scLaw.nd rfl (Or.inl rfl) (pe_c c_told (hr.mono (by omega)) rfl pass0 (pa_cons (pv 1) (pa_cons (pv 2) (pa_cons pe_int pa_nil))))) (pss_cons (ps_if (pt_cmpR op_eq (pe_c c_draw (hr.mono (by omega)) rfl pass0 (pa_cons (pv 1) (pa_cons pe_int pa_nil))) pe_int (nomark _)) (pss_one (ps_set (i := 3) scLaw.nd rfl (Or.inl rfl) (pe_tup (pa_cons (pe_ix ix_list (pe_clst rfl) (pe_c c_draw (hr.mono (by omega)) rfl pass0 (pa_cons (pv 1) (pa_cons pe_int pa_nil))) (fun _ _ => rfl)) (pa_cons (pv 3) (pa_cons (pe_c c_told (hr.mono (by omega)) rfl pass0 (pa_cons (pv 1) (pa_cons (pv 2) (pa_cons pe_int pa_nil)))) pa_nil)))))) pss_nil) hR)))), ?_⟩
    refine ⟨_, rfl, a0, ns0, 0, rfl, hS, fun wp H1 s1 hw w1 => ?_⟩
    refine ⟨_, rfl, _, rfl, wp, 3, rfl, w1, by decide, by decide, fun n1 H2 hn1 k2 w2 => ⟨_, _, rfl, rfl, ?_⟩⟩
    refine ⟨wp, 1 + n1, rfl, w2, by omega, fun so ps H3 k3 w3 hso e3 pk3 len3 => ?_⟩
    have nso : so ≠ wp := w2.ne hso
    have k03 : Kp wp H H3 := (Kp.of s1).trans (k2.trans k3)
    have n03 : KpN H H3 := (KpN.of s1).trans ((k2.kpN w1).trans (k3.kpN w2))
    have S3 : SomeAt H3 so ps := ⟨e3, fun x hx => (pk3 x hx).1, by omega⟩
    refine ⟨_, rfl, _, rfl, wp, so, ps, 3, rfl, w3, nso, S3, by decide, fun v t H4 k4 w4 tu h4 f4 r4 => ?_⟩
    have S4 := S3.kp k4 w3 nso
    refine ⟨_, rfl, wp, 3, rfl, w4, by decide, by decide, fun n5 H5 hn5 k5 w5 => ⟨rfl, _, rfl, ?_⟩⟩
    have S5 := S4.kp k5 w4 nso
    have k05 := k03.trans (k4.trans k5)
    have n05 := n03.trans ((k4.kpN w3).trans (k5.kpN w4))
    have tu5 : TupAt H5 t v := tu.mono fun _ _ e => k5.tup w4 e
    by_cases z5 : n5 = 0
    · refine iteTe (decide_eq_true (by rw [z5]; rfl)) ?_
      refine ⟨by show 5 ≤ sizeLine; decide, fun l0 hl0 => ⟨_, rfl, wp, 5, rfl, w5.new hl0, by decide, by decide, fun r0 H6 hr0 k6' w6 => ?_⟩⟩
      have l0a : l0 ≠ wp := w5.ne hl0
      have k6 : Kp wp H5 H6 := (Kp.of (sameNew hl0)).trans k6'
      have S6 := S5.kp k6 w5 nso
      obtain ⟨j, hv⟩ : ∃ j : Fin 5, ([V.str "+", V.str "-", V.str "*", V.str "min", V.str "max"] : List V)[r0]? = some (.str (opn j)) := by
        match r0, (show r0 < 5 by omega) with
        | 0, _ => exact ⟨0, rfl⟩
        | 1, _ => exact ⟨1, rfl⟩
        | 2, _ => exact ⟨2, rfl⟩
        | 3, _ => exact ⟨3, rfl⟩
        | 4, _ => exact ⟨4, rfl⟩
      refine ⟨l0, _, _, _, rfl, rfl, SqL.of (k6' _ _ upd_same l0a), atI_nat hv, _, rfl, _, rfl, _, rfl, wp, so, ps, 1, rfl, w6, nso, S6, by decide, fun v2 t2 H7 k7 w7 u2 h2 f2 r2 => ?_⟩
      refine ⟨by show 3 ≤ sizeLine; decide, fun q hq => ?_⟩
      generalize e : upd H7 q _ = H8
      obtain ⟨s8, e8⟩ := new_of hq e
      have k67 := k6.trans k7
      have n08 : KpN H H8 := n05.trans (((k6.kpN w5).trans (k7.kpN w6)).trans (KpN.of s8))
      refine rR _ Q a0 wp so ns0 ps _ (.bin j t t2) H8 (SqL.kp ((k05.trans k67).same s8) hw hS) ((S6.kp k7 w6 nso).same s8) ⟨q, v, v2, rfl, e8, (tu5.mono fun _ _ e => k67.tup w5 e).same s8, u2.same s8⟩ (by show max _ _ + 1 ≤ _; omega) ⟨f4, f2⟩ (fun x hx => ?_) (KV.Tab.kpN n08 tb0) k
      rcases List.mem_append.mp hx with z | z
      · exact r4 x z
      · exact r2 x z
    · refine iteFe (decide_eq_false fun z => z5 (by have := V.int.inj z; omega)) ?_
      exact rR _ Q a0 wp so ns0 ps v t H5 (SqL.kp k05 hw hS) S5 tu5 (by omega) f4 r4 (KV.Tab.kpN n05 tb0) k
end
end KV
namespace KV
open PySem PyProof.Rows L2
theorem all_mk {l : PySem.W.OpenLaw} {w : World} {K : PySem.W.Frag} {h : Heap} {mg : Str → Option Value} {fa Cnum Ctake Crest Ccho Cb0 Cb1 Cb2 Cb3 Cb4 CT f_cell f_well f_draw f_steps f_some f_number f_told f_made f_value f_worths f_fields f_right f_law f_ninit f_kinit f_pinit f_rinit f_cinit f_nvalue f_kvalue f_rvalue f_cvalue f_avalue f_lvalue f_mvalue f_ivalue f_xvalue cc_ Pt : Addr} (X : K.In h) (G : h.Ns mainGlobals mg) (hfa : mg "law" = some (.ref fa))
    {od_cell an_cell od_well an_well od_draw an_draw od_steps an_steps od_some an_some od_number an_number od_told an_told od_made an_made od_value an_value od_worths an_worths od_fields an_fields od_right an_right od_law an_law od_ninit an_ninit od_kinit an_kinit od_pinit an_pinit od_rinit an_rinit od_cinit an_cinit od_nvalue an_nvalue od_kvalue an_kvalue od_rvalue an_rvalue od_cvalue an_cvalue od_avalue an_avalue od_lvalue an_lvalue od_mvalue an_mvalue od_ivalue an_ivalue od_xvalue an_xvalue : Option Addr} {sl_cell sl_well sl_draw sl_steps sl_some sl_number sl_told sl_made sl_value sl_worths sl_fields sl_right sl_law sl_ninit sl_kinit sl_pinit sl_rinit sl_cinit sl_nvalue sl_kvalue sl_rvalue sl_cvalue sl_avalue sl_lvalue sl_mvalue sl_ivalue sl_xvalue : Array (Option Value)} {oc_cell kV_cell dc_cell pm_cell cd_cell ct_cell oc_well kV_well dc_well pm_well cd_well ct_well oc_draw kV_draw dc_draw pm_draw cd_draw ct_draw oc_steps kV_steps dc_steps pm_steps cd_steps ct_steps oc_some kV_some dc_some pm_some cd_some ct_some oc_number kV_number dc_number pm_number cd_number ct_number oc_told kV_told dc_told pm_told cd_told ct_told oc_made kV_made dc_made pm_made cd_made ct_made oc_value kV_value dc_value pm_value cd_value ct_value oc_worths kV_worths dc_worths pm_worths cd_worths ct_worths oc_fields kV_fields dc_fields pm_fields cd_fields ct_fields oc_right kV_right dc_right pm_right cd_right ct_right oc_law kV_law dc_law pm_law cd_law ct_law oc_ninit kV_ninit dc_ninit pm_ninit cd_ninit ct_ninit oc_kinit kV_kinit dc_kinit pm_kinit cd_kinit ct_kinit oc_pinit kV_pinit dc_pinit pm_pinit cd_pinit ct_pinit oc_rinit kV_rinit dc_rinit pm_rinit cd_rinit ct_rinit oc_cinit kV_cinit dc_cinit pm_cinit cd_cinit ct_cinit oc_nvalue kV_nvalue dc_nvalue pm_nvalue cd_nvalue ct_nvalue oc_kvalue kV_kvalue dc_kvalue pm_kvalue cd_kvalue ct_kvalue oc_rvalue kV_rvalue dc_rvalue pm_rvalue cd_rvalue ct_rvalue oc_cvalue kV_cvalue dc_cvalue pm_cvalue cd_cvalue ct_cvalue oc_avalue kV_avalue dc_avalue pm_avalue cd_avalue ct_avalue oc_lvalue kV_lvalue dc_lvalue pm_lvalue cd_lvalue ct_lvalue oc_mvalue kV_mvalue dc_mvalue pm_mvalue cd_mvalue ct_mvalue oc_ivalue kV_ivalue dc_ivalue pm_ivalue cd_ivalue ct_ivalue oc_xvalue kV_xvalue dc_xvalue pm_xvalue cd_xvalue ct_xvalue : Value}
    (aCnum : PySem.W.nsIn K mainGlobals "Number" = some (some (.ref Cnum)))
    (aCtake : PySem.W.nsIn K mainGlobals "Take" = some (some (.ref Ctake)))
    (aCrest : PySem.W.nsIn K mainGlobals "Rest" = some (some (.ref Crest)))
    (aCcho : PySem.W.nsIn K mainGlobals "Chosen" = some (some (.ref Ccho)))
    (aCb0 : PySem.W.nsIn K mainGlobals "Added" = some (some (.ref Cb0)))
    (aCb1 : PySem.W.nsIn K mainGlobals "Lessened" = some (some (.ref Cb1)))
    (aCb2 : PySem.W.nsIn K mainGlobals "Multiplied" = some (some (.ref Cb2)))
    (aCb3 : PySem.W.nsIn K mainGlobals "Least" = some (some (.ref Cb3)))
    (aCb4 : PySem.W.nsIn K mainGlobals "Most" = some (some (.ref Cb4)))
    (aCT : PySem.W.nsIn K mainGlobals "Term" = some (some (.ref CT)))
    (a_cell : PySem.W.nsIn K mainGlobals "_law_cell_at" = some (some (.ref f_cell)))
    (l_cell : K.lookup f_cell = some ⟨oc_cell, od_cell, .func (PySem.W.fnOf "_law_cell_at" "_law_cell_at" (defArgs sCell) (defBody sCell) (defScope sCell) .none kV_cell dc_cell pm_cell an_cell cd_cell ct_cell), sl_cell⟩)
    (c_cell : PySem.W.codeIn K cd_cell "_law_cell_at" = true)
    (k_cell : PySem.W.keepIn K (.ref f_cell) = true)
    (a_well : PySem.W.nsIn K mainGlobals "_law_well" = some (some (.ref f_well)))
    (l_well : K.lookup f_well = some ⟨oc_well, od_well, .func (PySem.W.fnOf "_law_well" "_law_well" (defArgs sWell) (defBody sWell) (defScope sWell) .none kV_well dc_well pm_well an_well cd_well ct_well), sl_well⟩)
    (c_well : PySem.W.codeIn K cd_well "_law_well" = true)
    (k_well : PySem.W.keepIn K (.ref f_well) = true)
    (a_draw : PySem.W.nsIn K mainGlobals "_law_draw" = some (some (.ref f_draw)))
    (l_draw : K.lookup f_draw = some ⟨oc_draw, od_draw, .func (PySem.W.fnOf "_law_draw" "_law_draw" (defArgs sDraw) (defBody sDraw) (defScope sDraw) .none kV_draw dc_draw pm_draw an_draw cd_draw ct_draw), sl_draw⟩)
    (c_draw : PySem.W.codeIn K cd_draw "_law_draw" = true)
    (k_draw : PySem.W.keepIn K (.ref f_draw) = true)
    (a_steps : PySem.W.nsIn K mainGlobals "_law_steps" = some (some (.ref f_steps)))
    (l_steps : K.lookup f_steps = some ⟨oc_steps, od_steps, .func (PySem.W.fnOf "_law_steps" "_law_steps" (defArgs sSteps) (defBody sSteps) (defScope sSteps) .none kV_steps dc_steps pm_steps an_steps cd_steps ct_steps), sl_steps⟩)
    (c_steps : PySem.W.codeIn K cd_steps "_law_steps" = true)
    (k_steps : PySem.W.keepIn K (.ref f_steps) = true)
    (a_some : PySem.W.nsIn K mainGlobals "_law_some_takes" = some (some (.ref f_some)))
    (l_some : K.lookup f_some = some ⟨oc_some, od_some, .func (PySem.W.fnOf "_law_some_takes" "_law_some_takes" (defArgs sSome) (defBody sSome) (defScope sSome) .none kV_some dc_some pm_some an_some cd_some ct_some), sl_some⟩)
    (c_some : PySem.W.codeIn K cd_some "_law_some_takes" = true)
    (k_some : PySem.W.keepIn K (.ref f_some) = true)
    (a_number : PySem.W.nsIn K mainGlobals "_law_number" = some (some (.ref f_number)))
    (l_number : K.lookup f_number = some ⟨oc_number, od_number, .func (PySem.W.fnOf "_law_number" "_law_number" (defArgs sNumber) (defBody sNumber) (defScope sNumber) .none kV_number dc_number pm_number an_number cd_number ct_number), sl_number⟩)
    (c_number : PySem.W.codeIn K cd_number "_law_number" = true)
    (k_number : PySem.W.keepIn K (.ref f_number) = true)
    (a_told : PySem.W.nsIn K mainGlobals "_law_told" = some (some (.ref f_told)))
    (l_told : K.lookup f_told = some ⟨oc_told, od_told, .func (PySem.W.fnOf "_law_told" "_law_told" (defArgs sTold) (defBody sTold) (defScope sTold) .none kV_told dc_told pm_told an_told cd_told ct_told), sl_told⟩)
    (c_told : PySem.W.codeIn K cd_told "_law_told" = true)
    (k_told : PySem.W.keepIn K (.ref f_told) = true)
    (a_made : PySem.W.nsIn K mainGlobals "_law_made" = some (some (.ref f_made)))
    (l_made : K.lookup f_made = some ⟨oc_made, od_made, .func (PySem.W.fnOf "_law_made" "_law_made" (defArgs sMade) (defBody sMade) (defScope sMade) .none kV_made dc_made pm_made an_made cd_made ct_made), sl_made⟩)
    (c_made : PySem.W.codeIn K cd_made "_law_made" = true)
    (k_made : PySem.W.keepIn K (.ref f_made) = true)
    (a_value : PySem.W.nsIn K mainGlobals "_law_value" = some (some (.ref f_value)))
    (l_value : K.lookup f_value = some ⟨oc_value, od_value, .func (PySem.W.fnOf "_law_value" "_law_value" (defArgs sValue) (defBody sValue) (defScope sValue) .none kV_value dc_value pm_value an_value cd_value ct_value), sl_value⟩)
    (c_value : PySem.W.codeIn K cd_value "_law_value" = true)
    (k_value : PySem.W.keepIn K (.ref f_value) = true)
    (a_worths : PySem.W.nsIn K mainGlobals "_law_worths" = some (some (.ref f_worths)))
    (l_worths : K.lookup f_worths = some ⟨oc_worths, od_worths, .func (PySem.W.fnOf "_law_worths" "_law_worths" (defArgs sWorths) (defBody sWorths) (defScope sWorths) .none kV_worths dc_worths pm_worths an_worths cd_worths ct_worths), sl_worths⟩)
    (c_worths : PySem.W.codeIn K cd_worths "_law_worths" = true)
    (k_worths : PySem.W.keepIn K (.ref f_worths) = true)
    (a_fields : PySem.W.nsIn K mainGlobals "_law_fields" = some (some (.ref f_fields)))
    (l_fields : K.lookup f_fields = some ⟨oc_fields, od_fields, .func (PySem.W.fnOf "_law_fields" "_law_fields" (defArgs sFields) (defBody sFields) (defScope sFields) .none kV_fields dc_fields pm_fields an_fields cd_fields ct_fields), sl_fields⟩)
    (c_fields : PySem.W.codeIn K cd_fields "_law_fields" = true)
    (k_fields : PySem.W.keepIn K (.ref f_fields) = true)
    (a_right : PySem.W.nsIn K mainGlobals "_law_right" = some (some (.ref f_right)))
    (l_right : K.lookup f_right = some ⟨oc_right, od_right, .func (PySem.W.fnOf "_law_right" "_law_right" (defArgs sRight) (defBody sRight) (defScope sRight) .none kV_right dc_right pm_right an_right cd_right ct_right), sl_right⟩)
    (c_right : PySem.W.codeIn K cd_right "_law_right" = true)
    (k_right : PySem.W.keepIn K (.ref f_right) = true)
    (a_law : PySem.W.nsIn K mainGlobals "law" = some (some (.ref f_law)))
    (l_law : K.lookup f_law = some ⟨oc_law, od_law, .func (PySem.W.fnOf "law" "law" (defArgs sLaw) (defBody sLaw) (defScope sLaw) .none kV_law dc_law pm_law an_law cd_law ct_law), sl_law⟩)
    (c_law : PySem.W.codeIn K cd_law "law" = true)
    (k_law : PySem.W.keepIn K (.ref f_law) = true)
    (a_ninit : PySem.W.findIn K (.ref Cnum) "__init__" = some (some (.ref f_ninit)))
    (i_ninit : PySem.W.isFn K (.ref f_ninit) = true)
    (l_ninit : K.lookup f_ninit = some ⟨oc_ninit, od_ninit, .func (PySem.W.fnOf "__init__" "Number.__init__" (defArgs sNInit) (defBody sNInit) (defScope sNInit) .none kV_ninit dc_ninit pm_ninit an_ninit cd_ninit ct_ninit), sl_ninit⟩)
    (c_ninit : PySem.W.codeIn K cd_ninit "Number.__init__" = true)
    (k_ninit : PySem.W.keepIn K (.ref f_ninit) = true)
    (a_kinit : PySem.W.findIn K (.ref Ctake) "__init__" = some (some (.ref f_kinit)))
    (i_kinit : PySem.W.isFn K (.ref f_kinit) = true)
    (l_kinit : K.lookup f_kinit = some ⟨oc_kinit, od_kinit, .func (PySem.W.fnOf "__init__" "Take.__init__" (defArgs sKInit) (defBody sKInit) (defScope sKInit) .none kV_kinit dc_kinit pm_kinit an_kinit cd_kinit ct_kinit), sl_kinit⟩)
    (c_kinit : PySem.W.codeIn K cd_kinit "Take.__init__" = true)
    (k_kinit : PySem.W.keepIn K (.ref f_kinit) = true)
    (a_pinit : PySem.W.findIn K (.ref Cb0) "__init__" = some (some (.ref f_pinit)))
    (i_pinit : PySem.W.isFn K (.ref f_pinit) = true)
    (l_pinit : K.lookup f_pinit = some ⟨oc_pinit, od_pinit, .func (PySem.W.fnOf "__init__" "Paired.__init__" (defArgs sPInit) (defBody sPInit) (defScope sPInit) .none kV_pinit dc_pinit pm_pinit an_pinit cd_pinit ct_pinit), sl_pinit⟩)
    (c_pinit : PySem.W.codeIn K cd_pinit "Paired.__init__" = true)
    (k_pinit : PySem.W.keepIn K (.ref f_pinit) = true)
    (a_rinit : PySem.W.findIn K (.ref Crest) "__init__" = some (some (.ref f_rinit)))
    (i_rinit : PySem.W.isFn K (.ref f_rinit) = true)
    (l_rinit : K.lookup f_rinit = some ⟨oc_rinit, od_rinit, .func (PySem.W.fnOf "__init__" "Rest.__init__" (defArgs sRInit) (defBody sRInit) (defScope sRInit) .none kV_rinit dc_rinit pm_rinit an_rinit cd_rinit ct_rinit), sl_rinit⟩)
    (c_rinit : PySem.W.codeIn K cd_rinit "Rest.__init__" = true)
    (k_rinit : PySem.W.keepIn K (.ref f_rinit) = true)
    (a_cinit : PySem.W.findIn K (.ref Ccho) "__init__" = some (some (.ref f_cinit)))
    (i_cinit : PySem.W.isFn K (.ref f_cinit) = true)
    (l_cinit : K.lookup f_cinit = some ⟨oc_cinit, od_cinit, .func (PySem.W.fnOf "__init__" "Chosen.__init__" (defArgs sCInit) (defBody sCInit) (defScope sCInit) .none kV_cinit dc_cinit pm_cinit an_cinit cd_cinit ct_cinit), sl_cinit⟩)
    (c_cinit : PySem.W.codeIn K cd_cinit "Chosen.__init__" = true)
    (k_cinit : PySem.W.keepIn K (.ref f_cinit) = true)
    (a_nvalue : PySem.W.findIn K (.ref Cnum) "value_by" = some (some (.ref f_nvalue)))
    (i_nvalue : PySem.W.isFn K (.ref f_nvalue) = true)
    (l_nvalue : K.lookup f_nvalue = some ⟨oc_nvalue, od_nvalue, .func (PySem.W.fnOf "value_by" "Number.value_by" (defArgs sNValue) (defBody sNValue) (defScope sNValue) .none kV_nvalue dc_nvalue pm_nvalue an_nvalue cd_nvalue ct_nvalue), sl_nvalue⟩)
    (c_nvalue : PySem.W.codeIn K cd_nvalue "Number.value_by" = true)
    (k_nvalue : PySem.W.keepIn K (.ref f_nvalue) = true)
    (a_kvalue : PySem.W.findIn K (.ref Ctake) "value_by" = some (some (.ref f_kvalue)))
    (i_kvalue : PySem.W.isFn K (.ref f_kvalue) = true)
    (l_kvalue : K.lookup f_kvalue = some ⟨oc_kvalue, od_kvalue, .func (PySem.W.fnOf "value_by" "Take.value_by" (defArgs sKValue) (defBody sKValue) (defScope sKValue) .none kV_kvalue dc_kvalue pm_kvalue an_kvalue cd_kvalue ct_kvalue), sl_kvalue⟩)
    (c_kvalue : PySem.W.codeIn K cd_kvalue "Take.value_by" = true)
    (k_kvalue : PySem.W.keepIn K (.ref f_kvalue) = true)
    (a_rvalue : PySem.W.findIn K (.ref Crest) "value_by" = some (some (.ref f_rvalue)))
    (i_rvalue : PySem.W.isFn K (.ref f_rvalue) = true)
    (l_rvalue : K.lookup f_rvalue = some ⟨oc_rvalue, od_rvalue, .func (PySem.W.fnOf "value_by" "Rest.value_by" (defArgs sRValue) (defBody sRValue) (defScope sRValue) .none kV_rvalue dc_rvalue pm_rvalue an_rvalue cd_rvalue ct_rvalue), sl_rvalue⟩)
    (c_rvalue : PySem.W.codeIn K cd_rvalue "Rest.value_by" = true)
    (k_rvalue : PySem.W.keepIn K (.ref f_rvalue) = true)
    (a_cvalue : PySem.W.findIn K (.ref Ccho) "value_by" = some (some (.ref f_cvalue)))
    (i_cvalue : PySem.W.isFn K (.ref f_cvalue) = true)
    (l_cvalue : K.lookup f_cvalue = some ⟨oc_cvalue, od_cvalue, .func (PySem.W.fnOf "value_by" "Chosen.value_by" (defArgs sCValue) (defBody sCValue) (defScope sCValue) .none kV_cvalue dc_cvalue pm_cvalue an_cvalue cd_cvalue ct_cvalue), sl_cvalue⟩)
    (c_cvalue : PySem.W.codeIn K cd_cvalue "Chosen.value_by" = true)
    (k_cvalue : PySem.W.keepIn K (.ref f_cvalue) = true)
    (a_avalue : PySem.W.findIn K (.ref Cb0) "value_by" = some (some (.ref f_avalue)))
    (i_avalue : PySem.W.isFn K (.ref f_avalue) = true)
    (l_avalue : K.lookup f_avalue = some ⟨oc_avalue, od_avalue, .func (PySem.W.fnOf "value_by" "Added.value_by" (defArgs sAValue) (defBody sAValue) (defScope sAValue) .none kV_avalue dc_avalue pm_avalue an_avalue cd_avalue ct_avalue), sl_avalue⟩)
    (c_avalue : PySem.W.codeIn K cd_avalue "Added.value_by" = true)
    (k_avalue : PySem.W.keepIn K (.ref f_avalue) = true)
    (a_lvalue : PySem.W.findIn K (.ref Cb1) "value_by" = some (some (.ref f_lvalue)))
    (i_lvalue : PySem.W.isFn K (.ref f_lvalue) = true)
    (l_lvalue : K.lookup f_lvalue = some ⟨oc_lvalue, od_lvalue, .func (PySem.W.fnOf "value_by" "Lessened.value_by" (defArgs sLValue) (defBody sLValue) (defScope sLValue) .none kV_lvalue dc_lvalue pm_lvalue an_lvalue cd_lvalue ct_lvalue), sl_lvalue⟩)
    (c_lvalue : PySem.W.codeIn K cd_lvalue "Lessened.value_by" = true)
    (k_lvalue : PySem.W.keepIn K (.ref f_lvalue) = true)
    (a_mvalue : PySem.W.findIn K (.ref Cb2) "value_by" = some (some (.ref f_mvalue)))
    (i_mvalue : PySem.W.isFn K (.ref f_mvalue) = true)
    (l_mvalue : K.lookup f_mvalue = some ⟨oc_mvalue, od_mvalue, .func (PySem.W.fnOf "value_by" "Multiplied.value_by" (defArgs sMValue) (defBody sMValue) (defScope sMValue) .none kV_mvalue dc_mvalue pm_mvalue an_mvalue cd_mvalue ct_mvalue), sl_mvalue⟩)
    (c_mvalue : PySem.W.codeIn K cd_mvalue "Multiplied.value_by" = true)
    (k_mvalue : PySem.W.keepIn K (.ref f_mvalue) = true)
    (a_ivalue : PySem.W.findIn K (.ref Cb3) "value_by" = some (some (.ref f_ivalue)))
    (i_ivalue : PySem.W.isFn K (.ref f_ivalue) = true)
    (l_ivalue : K.lookup f_ivalue = some ⟨oc_ivalue, od_ivalue, .func (PySem.W.fnOf "value_by" "Least.value_by" (defArgs sIValue) (defBody sIValue) (defScope sIValue) .none kV_ivalue dc_ivalue pm_ivalue an_ivalue cd_ivalue ct_ivalue), sl_ivalue⟩)
    (c_ivalue : PySem.W.codeIn K cd_ivalue "Least.value_by" = true)
    (k_ivalue : PySem.W.keepIn K (.ref f_ivalue) = true)
    (a_xvalue : PySem.W.findIn K (.ref Cb4) "value_by" = some (some (.ref f_xvalue)))
    (i_xvalue : PySem.W.isFn K (.ref f_xvalue) = true)
    (l_xvalue : K.lookup f_xvalue = some ⟨oc_xvalue, od_xvalue, .func (PySem.W.fnOf "value_by" "Most.value_by" (defArgs sXValue) (defBody sXValue) (defScope sXValue) .none kV_xvalue dc_xvalue pm_xvalue an_xvalue cd_xvalue ct_xvalue), sl_xvalue⟩)
    (c_xvalue : PySem.W.codeIn K cd_xvalue "Most.value_by" = true)
    (k_xvalue : PySem.W.keepIn K (.ref f_xvalue) = true)
    (pgCnum : PySem.W.plainGet K Cnum Str.empty = true)
    (hdCnum : PySem.W.hasDictIn K Cnum = true)
    (poCnum : PySem.W.plainOver K Cnum = true)
    (saCnum : PySem.W.findIn K (.ref Cnum) "__setattr__" = some (some (.builtin "object.__setattr__")))
    (mkCnum : PySem.W.makesIn K Cnum = true)
    (kcCnum : PySem.W.keepIn K (.ref Cnum) = true)
    (n_value_Cnum : PySem.W.findIn K (.ref Cnum) "value" = some none)
    (klCnum : PySem.W.findIn K (.ref Cnum) "__class__" = some (some (.builtin "object.__class__")))
    (mrCnum : PySem.W.mroIn K Cnum (.type "object") = some true)
    (ktCnum : PySem.W.kitOne K (.ref Cnum) (.ref CT) = some true)
    (ksCnum : PySem.W.kitOne K (.ref Cnum) (.ref Cnum) = some true)
    (pgCtake : PySem.W.plainGet K Ctake Str.empty = true)
    (hdCtake : PySem.W.hasDictIn K Ctake = true)
    (poCtake : PySem.W.plainOver K Ctake = true)
    (saCtake : PySem.W.findIn K (.ref Ctake) "__setattr__" = some (some (.builtin "object.__setattr__")))
    (mkCtake : PySem.W.makesIn K Ctake = true)
    (kcCtake : PySem.W.keepIn K (.ref Ctake) = true)
    (n_back_Ctake : PySem.W.findIn K (.ref Ctake) "back" = some none)
    (n_steps_Ctake : PySem.W.findIn K (.ref Ctake) "steps" = some none)
    (klCtake : PySem.W.findIn K (.ref Ctake) "__class__" = some (some (.builtin "object.__class__")))
    (mrCtake : PySem.W.mroIn K Ctake (.type "object") = some true)
    (ktCtake : PySem.W.kitOne K (.ref Ctake) (.ref CT) = some true)
    (ksCtake : PySem.W.kitOne K (.ref Ctake) (.ref Ctake) = some true)
    (pgCrest : PySem.W.plainGet K Crest Str.empty = true)
    (hdCrest : PySem.W.hasDictIn K Crest = true)
    (poCrest : PySem.W.plainOver K Crest = true)
    (saCrest : PySem.W.findIn K (.ref Crest) "__setattr__" = some (some (.builtin "object.__setattr__")))
    (mkCrest : PySem.W.makesIn K Crest = true)
    (kcCrest : PySem.W.keepIn K (.ref Crest) = true)
    (n_one_Crest : PySem.W.findIn K (.ref Crest) "one" = some none)
    (n_by_Crest : PySem.W.findIn K (.ref Crest) "by" = some none)
    (klCrest : PySem.W.findIn K (.ref Crest) "__class__" = some (some (.builtin "object.__class__")))
    (mrCrest : PySem.W.mroIn K Crest (.type "object") = some true)
    (ktCrest : PySem.W.kitOne K (.ref Crest) (.ref CT) = some true)
    (ksCrest : PySem.W.kitOne K (.ref Crest) (.ref Crest) = some true)
    (pgCcho : PySem.W.plainGet K Ccho Str.empty = true)
    (hdCcho : PySem.W.hasDictIn K Ccho = true)
    (poCcho : PySem.W.plainOver K Ccho = true)
    (saCcho : PySem.W.findIn K (.ref Ccho) "__setattr__" = some (some (.builtin "object.__setattr__")))
    (mkCcho : PySem.W.makesIn K Ccho = true)
    (kcCcho : PySem.W.keepIn K (.ref Ccho) = true)
    (n_test_Ccho : PySem.W.findIn K (.ref Ccho) "test" = some none)
    (n_one_Ccho : PySem.W.findIn K (.ref Ccho) "one" = some none)
    (n_other_Ccho : PySem.W.findIn K (.ref Ccho) "other" = some none)
    (klCcho : PySem.W.findIn K (.ref Ccho) "__class__" = some (some (.builtin "object.__class__")))
    (mrCcho : PySem.W.mroIn K Ccho (.type "object") = some true)
    (ktCcho : PySem.W.kitOne K (.ref Ccho) (.ref CT) = some true)
    (ksCcho : PySem.W.kitOne K (.ref Ccho) (.ref Ccho) = some true)
    (pgCb0 : PySem.W.plainGet K Cb0 Str.empty = true)
    (hdCb0 : PySem.W.hasDictIn K Cb0 = true)
    (poCb0 : PySem.W.plainOver K Cb0 = true)
    (saCb0 : PySem.W.findIn K (.ref Cb0) "__setattr__" = some (some (.builtin "object.__setattr__")))
    (mkCb0 : PySem.W.makesIn K Cb0 = true)
    (kcCb0 : PySem.W.keepIn K (.ref Cb0) = true)
    (n_one_Cb0 : PySem.W.findIn K (.ref Cb0) "one" = some none)
    (n_other_Cb0 : PySem.W.findIn K (.ref Cb0) "other" = some none)
    (klCb0 : PySem.W.findIn K (.ref Cb0) "__class__" = some (some (.builtin "object.__class__")))
    (mrCb0 : PySem.W.mroIn K Cb0 (.type "object") = some true)
    (ktCb0 : PySem.W.kitOne K (.ref Cb0) (.ref CT) = some true)
    (pgCb1 : PySem.W.plainGet K Cb1 Str.empty = true)
    (hdCb1 : PySem.W.hasDictIn K Cb1 = true)
    (poCb1 : PySem.W.plainOver K Cb1 = true)
    (saCb1 : PySem.W.findIn K (.ref Cb1) "__setattr__" = some (some (.builtin "object.__setattr__")))
    (mkCb1 : PySem.W.makesIn K Cb1 = true)
    (kcCb1 : PySem.W.keepIn K (.ref Cb1) = true)
    (n_one_Cb1 : PySem.W.findIn K (.ref Cb1) "one" = some none)
    (n_other_Cb1 : PySem.W.findIn K (.ref Cb1) "other" = some none)
    (klCb1 : PySem.W.findIn K (.ref Cb1) "__class__" = some (some (.builtin "object.__class__")))
    (mrCb1 : PySem.W.mroIn K Cb1 (.type "object") = some true)
    (ktCb1 : PySem.W.kitOne K (.ref Cb1) (.ref CT) = some true)
    (pgCb2 : PySem.W.plainGet K Cb2 Str.empty = true)
    (hdCb2 : PySem.W.hasDictIn K Cb2 = true)
    (poCb2 : PySem.W.plainOver K Cb2 = true)
    (saCb2 : PySem.W.findIn K (.ref Cb2) "__setattr__" = some (some (.builtin "object.__setattr__")))
    (mkCb2 : PySem.W.makesIn K Cb2 = true)
    (kcCb2 : PySem.W.keepIn K (.ref Cb2) = true)
    (n_one_Cb2 : PySem.W.findIn K (.ref Cb2) "one" = some none)
    (n_other_Cb2 : PySem.W.findIn K (.ref Cb2) "other" = some none)
    (klCb2 : PySem.W.findIn K (.ref Cb2) "__class__" = some (some (.builtin "object.__class__")))
    (mrCb2 : PySem.W.mroIn K Cb2 (.type "object") = some true)
    (ktCb2 : PySem.W.kitOne K (.ref Cb2) (.ref CT) = some true)
    (pgCb3 : PySem.W.plainGet K Cb3 Str.empty = true)
    (hdCb3 : PySem.W.hasDictIn K Cb3 = true)
    (poCb3 : PySem.W.plainOver K Cb3 = true)
    (saCb3 : PySem.W.findIn K (.ref Cb3) "__setattr__" = some (some (.builtin "object.__setattr__")))
    (mkCb3 : PySem.W.makesIn K Cb3 = true)
    (kcCb3 : PySem.W.keepIn K (.ref Cb3) = true)
    (n_one_Cb3 : PySem.W.findIn K (.ref Cb3) "one" = some none)
    (n_other_Cb3 : PySem.W.findIn K (.ref Cb3) "other" = some none)
    (klCb3 : PySem.W.findIn K (.ref Cb3) "__class__" = some (some (.builtin "object.__class__")))
    (mrCb3 : PySem.W.mroIn K Cb3 (.type "object") = some true)
    (ktCb3 : PySem.W.kitOne K (.ref Cb3) (.ref CT) = some true)
    (pgCb4 : PySem.W.plainGet K Cb4 Str.empty = true)
    (hdCb4 : PySem.W.hasDictIn K Cb4 = true)
    (poCb4 : PySem.W.plainOver K Cb4 = true)
    (saCb4 : PySem.W.findIn K (.ref Cb4) "__setattr__" = some (some (.builtin "object.__setattr__")))
    (mkCb4 : PySem.W.makesIn K Cb4 = true)
    (kcCb4 : PySem.W.keepIn K (.ref Cb4) = true)
    (n_one_Cb4 : PySem.W.findIn K (.ref Cb4) "one" = some none)
    (n_other_Cb4 : PySem.W.findIn K (.ref Cb4) "other" = some none)
    (klCb4 : PySem.W.findIn K (.ref Cb4) "__class__" = some (some (.builtin "object.__class__")))
    (mrCb4 : PySem.W.mroIn K Cb4 (.type "object") = some true)
    (ktCb4 : PySem.W.kitOne K (.ref Cb4) (.ref CT) = some true)
    (sp1 : PySem.W.specialIn K (.builtin "object.__class__") "__get__" = some (some (.builtin "getset_descriptor.__get__")))
    (tk1 : PySem.W.takesIn K (.builtin "object.__class__") = some true)
    (tc : cd_right = .ref cc_)
    (td : PySem.W.codeHdIn K cc_ Pt = true)
    (tn : K.lookup Pt = none)
    (g_init_Cb1 : PySem.W.findIn K (.ref Cb1) "__init__" = some (some (.ref f_pinit)))
    (g_init_Cb2 : PySem.W.findIn K (.ref Cb2) "__init__" = some (some (.ref f_pinit)))
    (g_init_Cb3 : PySem.W.findIn K (.ref Cb3) "__init__" = some (some (.ref f_pinit)))
    (g_init_Cb4 : PySem.W.findIn K (.ref Cb4) "__init__" = some (some (.ref f_pinit)))
    (nd : [Cnum, Ctake, Crest, Ccho, Cb0, Cb1, Cb2, Cb3, Cb4].Nodup)
    (z_isinstance : PySem.W.nsIn K mainGlobals "isinstance" = some none)
    (z_int : PySem.W.nsIn K mainGlobals "int" = some none)
    (z_tuple : PySem.W.nsIn K mainGlobals "tuple" = some none)
    (z_len : PySem.W.nsIn K mainGlobals "len" = some none)
    (z_range : PySem.W.nsIn K mainGlobals "range" = some none)
    (z_max : PySem.W.nsIn K mainGlobals "max" = some none)
    (z_sorted : PySem.W.nsIn K mainGlobals "sorted" = some none)
    (z_dict : PySem.W.nsIn K mainGlobals "dict" = some none)
    (z_min : PySem.W.nsIn K mainGlobals "min" = some none)
    (z_bool : PySem.W.nsIn K mainGlobals "bool" = some none)
    : ∃ fd : FuncData, (∀ (s : Shared) (v : Value), BindsTo s fd ⟨[v], []⟩ [("_law_script", v)]) ∧ K.lookup Pt = none ∧ (∃ c, PySem.W.codeHdIn K c Pt = true) ∧ ∀ base : Heap, K.In base → base.Ns mainGlobals mg → BltM mg base → FnOk l.prog w K mg base CX0 8 fa fd ["_law_script"] (spLaw K Pt) := by
  subst tc
  have e := hfa.symm.trans (PySem.W.mg_of X G a_law)
  cases e
  have T : Txt K mg := ⟨PySem.W.mg_none_of X G z_isinstance, PySem.W.mg_none_of X G z_int, PySem.W.mg_none_of X G z_tuple, PySem.W.mg_none_of X G z_len, PySem.W.mg_none_of X G z_range, PySem.W.mg_none_of X G z_max, PySem.W.mg_none_of X G z_sorted, PySem.W.mg_none_of X G z_dict, PySem.W.mg_none_of X G z_min, PySem.W.mg_none_of X G z_bool⟩
  have F_cell := fun_mk (st := sCell) l_cell c_cell k_cell
  have F_well := fun_mk (st := sWell) l_well c_well k_well
  have F_draw := fun_mk (st := sDraw) l_draw c_draw k_draw
  have F_steps := fun_mk (st := sSteps) l_steps c_steps k_steps
  have F_some := fun_mk (st := sSome) l_some c_some k_some
  have F_number := fun_mk (st := sNumber) l_number c_number k_number
  have F_told := fun_mk (st := sTold) l_told c_told k_told
  have F_made := fun_mk (st := sMade) l_made c_made k_made
  have F_value := fun_mk (st := sValue) l_value c_value k_value
  have F_worths := fun_mk (st := sWorths) l_worths c_worths k_worths
  have F_fields := fun_mk (st := sFields) l_fields c_fields k_fields
  have F_right := fun_mk (st := sRight) l_right c_right k_right
  have F_law := fun_mk (st := sLaw) l_law c_law k_law
  have F_ninit := fun_mk (st := sNInit) l_ninit c_ninit k_ninit
  have F_kinit := fun_mk (st := sKInit) l_kinit c_kinit k_kinit
  have F_pinit := fun_mk (st := sPInit) l_pinit c_pinit k_pinit
  have F_rinit := fun_mk (st := sRInit) l_rinit c_rinit k_rinit
  have F_cinit := fun_mk (st := sCInit) l_cinit c_cinit k_cinit
  have F_nvalue := fun_mk (st := sNValue) l_nvalue c_nvalue k_nvalue
  have F_kvalue := fun_mk (st := sKValue) l_kvalue c_kvalue k_kvalue
  have F_rvalue := fun_mk (st := sRValue) l_rvalue c_rvalue k_rvalue
  have F_cvalue := fun_mk (st := sCValue) l_cvalue c_cvalue k_cvalue
  have F_avalue := fun_mk (st := sAValue) l_avalue c_avalue k_avalue
  have F_lvalue := fun_mk (st := sLValue) l_lvalue c_lvalue k_lvalue
  have F_mvalue := fun_mk (st := sMValue) l_mvalue c_mvalue k_mvalue
  have F_ivalue := fun_mk (st := sIValue) l_ivalue c_ivalue k_ivalue
  have F_xvalue := fun_mk (st := sXValue) l_xvalue c_xvalue k_xvalue
  have b_cell := F_cell.binds (ps := ["_law_script", "_law_k"]) fun _ _ _ _ _ _ us hl => match us, hl with | [_, _], _ => rfl
  have b_well := F_well.binds (ps := ["_law_script", "_law_k"]) fun _ _ _ _ _ _ us hl => match us, hl with | [_, _], _ => rfl
  have b_draw := F_draw.binds (ps := ["_law_well_here", "_law_most"]) fun _ _ _ _ _ _ us hl => match us, hl with | [_, _], _ => rfl
  have b_steps := F_steps.binds (ps := ["_law_well_here", "_law_lines"]) fun _ _ _ _ _ _ us hl => match us, hl with | [_, _], _ => rfl
  have b_some := F_some.binds (ps := ["_law_well_here", "_law_lines"]) fun _ _ _ _ _ _ us hl => match us, hl with | [_, _], _ => rfl
  have b_number := F_number.binds (ps := ["_law_well_here"]) fun _ _ _ _ _ _ us hl => match us, hl with | [_], _ => rfl
  have b_told := F_told.binds (ps := ["_law_well_here", "_law_some", "_law_deep"]) fun _ _ _ _ _ _ us hl => match us, hl with | [_, _, _], _ => rfl
  have b_made := F_made.binds (ps := ["_law_told_here"]) fun _ _ _ _ _ _ us hl => match us, hl with | [_], _ => rfl
  have b_value := F_value.binds (ps := ["_law_told_here", "_law_worths_here"]) fun _ _ _ _ _ _ us hl => match us, hl with | [_, _], _ => rfl
  have b_worths := F_worths.binds (ps := ["_law_well_here", "_law_some"]) fun _ _ _ _ _ _ us hl => match us, hl with | [_, _], _ => rfl
  have b_fields := F_fields.binds (ps := ["_law_term", "_law_told_here"]) fun _ _ _ _ _ _ us hl => match us, hl with | [_, _], _ => rfl
  have b_right := F_right.binds (ps := ["_law_term", "_law_told_here", "_law_worths_here"]) fun _ _ _ _ _ _ us hl => match us, hl with | [_, _, _], _ => rfl
  have b_ninit := F_ninit.binds (ps := ["self", "value"]) fun _ _ _ _ _ _ us hl => match us, hl with | [_, _], _ => rfl
  have b_kinit := F_kinit.binds (ps := ["self", "back", "steps"]) fun _ _ _ _ _ _ us hl => match us, hl with | [_, _, _], _ => rfl
  have b_pinit := F_pinit.binds (ps := ["self", "one", "other"]) fun _ _ _ _ _ _ us hl => match us, hl with | [_, _, _], _ => rfl
  have b_rinit := F_rinit.binds (ps := ["self", "one", "by"]) fun _ _ _ _ _ _ us hl => match us, hl with | [_, _, _], _ => rfl
  have b_cinit := F_cinit.binds (ps := ["self", "test", "one", "other"]) fun _ _ _ _ _ _ us hl => match us, hl with | [_, _, _, _], _ => rfl
  have b_nvalue := F_nvalue.binds (ps := ["self", "see"]) fun _ _ _ _ _ _ us hl => match us, hl with | [_, _], _ => rfl
  have b_kvalue := F_kvalue.binds (ps := ["self", "see"]) fun _ _ _ _ _ _ us hl => match us, hl with | [_, _], _ => rfl
  have b_rvalue := F_rvalue.binds (ps := ["self", "see"]) fun _ _ _ _ _ _ us hl => match us, hl with | [_, _], _ => rfl
  have b_cvalue := F_cvalue.binds (ps := ["self", "see"]) fun _ _ _ _ _ _ us hl => match us, hl with | [_, _], _ => rfl
  have b_avalue := F_avalue.binds (ps := ["self", "see"]) fun _ _ _ _ _ _ us hl => match us, hl with | [_, _], _ => rfl
  have b_lvalue := F_lvalue.binds (ps := ["self", "see"]) fun _ _ _ _ _ _ us hl => match us, hl with | [_, _], _ => rfl
  have b_mvalue := F_mvalue.binds (ps := ["self", "see"]) fun _ _ _ _ _ _ us hl => match us, hl with | [_, _], _ => rfl
  have b_ivalue := F_ivalue.binds (ps := ["self", "see"]) fun _ _ _ _ _ _ us hl => match us, hl with | [_, _], _ => rfl
  have b_xvalue := F_xvalue.binds (ps := ["self", "see"]) fun _ _ _ _ _ _ us hl => match us, hl with | [_, _], _ => rfl
  have m_cell := PySem.W.mg_of X G a_cell
  have m_well := PySem.W.mg_of X G a_well
  have m_draw := PySem.W.mg_of X G a_draw
  have m_steps := PySem.W.mg_of X G a_steps
  have m_some := PySem.W.mg_of X G a_some
  have m_number := PySem.W.mg_of X G a_number
  have m_told := PySem.W.mg_of X G a_told
  have m_made := PySem.W.mg_of X G a_made
  have m_value := PySem.W.mg_of X G a_value
  have m_worths := PySem.W.mg_of X G a_worths
  have m_fields := PySem.W.mg_of X G a_fields
  have m_right := PySem.W.mg_of X G a_right
  refine ⟨PySem.W.fnOf "law" "law" (defArgs sLaw) (defBody sLaw) (defScope sLaw) .none kV_law dc_law pm_law an_law cd_law ct_law, fun s v => .of_eq rfl, tn, ⟨_, td⟩, fun base KB GB hB => ?_⟩
  let N : Cn := ⟨Cnum, Ctake, Crest, Ccho, fun k => match k with | 0 => Cb0 | 1 => Cb1 | 2 => Cb2 | 3 => Cb3 | 4 => Cb4⟩
  have nd : (clsL N).Nodup := nd
  have c1 : Cf K N.num ["value"] := ⟨⟨pgCnum, hdCnum, poCnum, saCnum⟩, fun f hf => by simp only [List.mem_cons, List.not_mem_nil, or_false] at hf; rcases hf with rfl <;> assumption⟩
  have c2 : Cf K N.take ["back", "steps"] := ⟨⟨pgCtake, hdCtake, poCtake, saCtake⟩, fun f hf => by simp only [List.mem_cons, List.not_mem_nil, or_false] at hf; rcases hf with rfl | rfl <;> assumption⟩
  have c3 : Cf K N.rest ["one", "by"] := ⟨⟨pgCrest, hdCrest, poCrest, saCrest⟩, fun f hf => by simp only [List.mem_cons, List.not_mem_nil, or_false] at hf; rcases hf with rfl | rfl <;> assumption⟩
  have c4 : Cf K N.cho ["test", "one", "other"] := ⟨⟨pgCcho, hdCcho, poCcho, saCcho⟩, fun f hf => by simp only [List.mem_cons, List.not_mem_nil, or_false] at hf; rcases hf with rfl | rfl | rfl <;> assumption⟩
  have c5 : ∀ k, Cf K (N.bin k) ["one", "other"] := fun k => by
    match k with
    | 0 => exact ⟨⟨pgCb0, hdCb0, poCb0, saCb0⟩, fun f hf => by simp only [List.mem_cons, List.not_mem_nil, or_false] at hf; rcases hf with rfl | rfl <;> assumption⟩
    | 1 => exact ⟨⟨pgCb1, hdCb1, poCb1, saCb1⟩, fun f hf => by simp only [List.mem_cons, List.not_mem_nil, or_false] at hf; rcases hf with rfl | rfl <;> assumption⟩
    | 2 => exact ⟨⟨pgCb2, hdCb2, poCb2, saCb2⟩, fun f hf => by simp only [List.mem_cons, List.not_mem_nil, or_false] at hf; rcases hf with rfl | rfl <;> assumption⟩
    | 3 => exact ⟨⟨pgCb3, hdCb3, poCb3, saCb3⟩, fun f hf => by simp only [List.mem_cons, List.not_mem_nil, or_false] at hf; rcases hf with rfl | rfl <;> assumption⟩
    | 4 => exact ⟨⟨pgCb4, hdCb4, poCb4, saCb4⟩, fun f hf => by simp only [List.mem_cons, List.not_mem_nil, or_false] at hf; rcases hf with rfl | rfl <;> assumption⟩
  have cl : ∀ C, IsC N C → Cls K C := fun C hC => by
    rcases hC with rfl | rfl | rfl | rfl | ⟨k, rfl⟩
    · exact c1.cl
    · exact c2.cl
    · exact c3.cl
    · exact c4.cl
    · exact (c5 k).cl
  have nV : NoV N := no_names (N := N) "value_by" (by decide +kernel)
  have cvs : ∀ C, IsC N C → CV l.prog w K mg N C := (fun C hC => by
    rcases hC with rfl | rfl | rfl | rfl | ⟨k, rfl⟩
    · exact ⟨⟨_, _, ⟨a_nvalue, i_nvalue, k_nvalue⟩, b_nvalue, fun base z d hd hz D => ok_nvalue F_nvalue c1 (fun t h => is_num nd h)⟩⟩
    · exact ⟨⟨_, _, ⟨a_kvalue, i_kvalue, k_kvalue⟩, b_kvalue, fun base z d hd hz D => ok_kvalue F_kvalue c2 (fun t h => is_take nd h) (ok_see hz)⟩⟩
    · exact ⟨⟨_, _, ⟨a_rvalue, i_rvalue, k_rvalue⟩, b_rvalue, fun base z d hd hz D => ok_rvalue F_rvalue c3 (fun t h => is_rest nd h) D nV⟩⟩
    · exact ⟨⟨_, _, ⟨a_cvalue, i_cvalue, k_cvalue⟩, b_cvalue, fun base z d hd hz D => ok_cvalue F_cvalue c4 (fun t h => is_cho nd h) D nV⟩⟩
    · match k with
      | 0 => exact ⟨⟨_, _, ⟨a_avalue, i_avalue, k_avalue⟩, b_avalue, fun base z d hd hz D => ok_avalue F_avalue (c5 0) (fun t h => is_bin nd h) D nV⟩⟩
      | 1 => exact ⟨⟨_, _, ⟨a_lvalue, i_lvalue, k_lvalue⟩, b_lvalue, fun base z d hd hz D => ok_lvalue F_lvalue (c5 1) (fun t h => is_bin nd h) D nV⟩⟩
      | 2 => exact ⟨⟨_, _, ⟨a_mvalue, i_mvalue, k_mvalue⟩, b_mvalue, fun base z d hd hz D => ok_mvalue F_mvalue (c5 2) (fun t h => is_bin nd h) D nV hd⟩⟩
      | 3 => exact ⟨⟨_, _, ⟨a_ivalue, i_ivalue, k_ivalue⟩, b_ivalue, fun base z d hd hz D => ok_ivalue F_ivalue (c5 3) (fun t h => is_bin nd h) D nV T⟩⟩
      | 4 => exact ⟨⟨_, _, ⟨a_xvalue, i_xvalue, k_xvalue⟩, b_xvalue, fun base z d hd hz D => ok_xvalue F_xvalue (c5 4) (fun t h => is_bin nd h) D nV T⟩⟩)
  have DV : ∀ base, DValA l.prog w K mg base N 5 := fun base => dis_value cl cvs 5 (by decide)
  have Z : Ks K N CT := ⟨cl, (fun C hC => by
    rcases hC with rfl | rfl | rfl | rfl | ⟨k, rfl⟩
    · exact klCnum
    · exact klCtake
    · exact klCrest
    · exact klCcho
    · match k with
      | 0 => exact klCb0
      | 1 => exact klCb1
      | 2 => exact klCb2
      | 3 => exact klCb3
      | 4 => exact klCb4), sp1, tk1, (fun C hC => by
    rcases hC with rfl | rfl | rfl | rfl | ⟨k, rfl⟩
    · exact mrCnum
    · exact mrCtake
    · exact mrCrest
    · exact mrCcho
    · match k with
      | 0 => exact mrCb0
      | 1 => exact mrCb1
      | 2 => exact mrCb2
      | 3 => exact mrCb3
      | 4 => exact mrCb4), ksCnum, ksCtake, ksCrest, ksCcho, (fun C hC => by
    rcases hC with rfl | rfl | rfl | rfl | ⟨k, rfl⟩
    · exact ktCnum
    · exact ktCtake
    · exact ktCrest
    · exact ktCcho
    · match k with
      | 0 => exact ktCb0
      | 1 => exact ktCb1
      | 2 => exact ktCb2
      | 3 => exact ktCb3
      | 4 => exact ktCb4)⟩
  have c_ccell : Cal l.prog w K mg base CX0 1 "_law_cell_at" ["_law_script", "_law_k"] (spCell K) := ⟨_, _, ok_cell F_cell T, m_cell, k_cell, b_cell⟩
  have c_cwell : Cal l.prog w K mg base CX0 2 "_law_well" ["_law_script", "_law_k"] (spWell K) := ⟨_, _, ok_well F_well c_ccell T, m_well, k_well, b_well⟩
  have c_cdraw : Cal l.prog w K mg base CX0 1 "_law_draw" ["_law_well_here", "_law_most"] spDraw := ⟨_, _, ok_draw F_draw, m_draw, k_draw, b_draw⟩
  have c_csteps : Cal l.prog w K mg base CX0 2 "_law_steps" ["_law_well_here", "_law_lines"] spSteps := ⟨_, _, ok_steps F_steps c_cdraw T, m_steps, k_steps, b_steps⟩
  have c_csome : Cal l.prog w K mg base CX0 3 "_law_some_takes" ["_law_well_here", "_law_lines"] spSome := ⟨_, _, ok_some F_some c_cdraw c_csteps T, m_some, k_some, b_some⟩
  have c_cnumber : Cal l.prog w K mg base CX0 2 "_law_number" ["_law_well_here"] spNumber := ⟨_, _, ok_number F_number c_cdraw, m_number, k_number, b_number⟩
  have c_ctold := cal_told F_told m_told k_told b_told c_cdraw c_cnumber T 4
  have R5 : ∀ k, Mkr l.prog w K mg base (N.bin k) (bnm k) ["self", "one", "other"] (spI2 K "one" "other") := fun k => by
    match k with
    | 0 => exact ⟨⟨_, _, ok_pinit F_pinit, ⟨mkCb0, a_pinit, i_pinit, kcCb0⟩, PySem.W.mg_of X G aCb0, b_pinit⟩⟩
    | 1 => exact ⟨⟨_, _, ok_pinit F_pinit, ⟨mkCb1, g_init_Cb1, i_pinit, kcCb1⟩, PySem.W.mg_of X G aCb1, b_pinit⟩⟩
    | 2 => exact ⟨⟨_, _, ok_pinit F_pinit, ⟨mkCb2, g_init_Cb2, i_pinit, kcCb2⟩, PySem.W.mg_of X G aCb2, b_pinit⟩⟩
    | 3 => exact ⟨⟨_, _, ok_pinit F_pinit, ⟨mkCb3, g_init_Cb3, i_pinit, kcCb3⟩, PySem.W.mg_of X G aCb3, b_pinit⟩⟩
    | 4 => exact ⟨⟨_, _, ok_pinit F_pinit, ⟨mkCb4, g_init_Cb4, i_pinit, kcCb4⟩, PySem.W.mg_of X G aCb4, b_pinit⟩⟩
  have c_cmade := cal_made (P := l.prog) (w := w) (base := base) (N := N) F_made m_made k_made b_made (fun d c => ok_made F_made c ⟨⟨_, _, ok_ninit F_ninit, ⟨mkCnum, a_ninit, i_ninit, kcCnum⟩, PySem.W.mg_of X G aCnum, b_ninit⟩⟩ ⟨⟨_, _, ok_kinit F_kinit, ⟨mkCtake, a_kinit, i_kinit, kcCtake⟩, PySem.W.mg_of X G aCtake, b_kinit⟩⟩ ⟨⟨_, _, ok_rinit F_rinit, ⟨mkCrest, a_rinit, i_rinit, kcCrest⟩, PySem.W.mg_of X G aCrest, b_rinit⟩⟩ ⟨⟨_, _, ok_cinit F_cinit, ⟨mkCcho, a_cinit, i_cinit, kcCcho⟩, PySem.W.mg_of X G aCcho, b_cinit⟩⟩ R5 c1 c2 c3 c4 c5) 5
  have c_cvalue := cal_value (P := l.prog) (w := w) (base := base) F_value m_value k_value b_value T 5 (by decide)
  have c_cfields := cal_fields (P := l.prog) (w := w) (base := base) (N := N) F_fields m_fields k_fields b_fields (fun d c => ok_fields F_fields c T Z c1 c2 c3 c4 c5 (PySem.W.mg_of X G aCnum) (PySem.W.mg_of X G aCtake) (PySem.W.mg_of X G aCrest) (PySem.W.mg_of X G aCcho)) 5
  have c_cworths : Cal l.prog w K mg base CX0 2 "_law_worths" ["_law_well_here", "_law_some"] (spWorths l.prog w) := ⟨_, _, ok_worths F_worths c_cdraw T, m_worths, k_worths, b_worths⟩
  have c_cright : Cal l.prog w K mg base CX0 7 "_law_right" ["_law_term", "_law_told_here", "_law_worths_here"] (spRight l.prog w N Pt 5) := ⟨_, _, ok_right l_right c_right (PySem.W.codeHd_of_K KB td) hB DV nV c_cvalue T, m_right, k_right, b_right⟩
  exact ok_law F_law c_cwell c_cdraw c_csome c_ctold c_cmade c_cfields c_cworths c_cright T Z (PySem.W.mg_of X G aCT)
theorem walkOn {l : PySem.W.OpenLaw} {q : Program} {loose : List Str} {XP : (Str → Option Value) → Heap → Prop} {YP : World → Heap → Prop} {d : DefRec} {K : Params → PySem.W.Frag} {Pt : Addr} (hn : l.most = some 63) (hdf : d.params.defaults = [])
    (hY : ∀ (w : World) (h : Heap), YP w h → (K w.params).In h) (hT : ∀ (w : World) (h : Heap), YP w h → ∀ P ∈ [Pt], h.get? P = some (PySem.W.tabObj #[]))
    (F : ∀ (w : World) (mg : Str → Option Value) (fa : Addr) (h : Heap), (K w.params).In h → h.Ns mainGlobals mg → mg d.name = some (.ref fa) →
      ∃ fd : FuncData, (∀ (s : Shared) (u : Value), BindsTo s fd ⟨[u], []⟩ [("_law_script", u)]) ∧ (K w.params).lookup Pt = none ∧ (∃ c, PySem.W.codeHdIn (K w.params) c Pt = true) ∧ ∀ base : Heap, (K w.params).In base → base.Ns mainGlobals mg → BltM mg base → FnOk l.prog w (K w.params) mg base CX0 8 fa fd ["_law_script"] (spLaw (K w.params) Pt)) :
    PySem.W.WalkO q loose XP YP l.row.toRowW d [] (fun f vs => PySem.call f vs) :=
  L2.walk_ofT (n := 63) (k := 8) (x := "_law_script") (CX := CX0) (sp := fun K => spLaw K Pt) hn (by decide) hdf ⟨rfl, by decide, by decide⟩ hY hT F (fun _ _ a ns _ hP hS => ⟨a, ns, rfl, hS, hP, fun _ => rfl⟩) fun _ _ _ _ z => z
end KV
def PySem.W.Fast.tw7755165101963774983:Unit:=()
def PySem.W.Fast.tw1124493615480971804:Unit:=()
def PySem.W.Fast.tw5578545599914679355:Unit:=()
def PySem.W.Fast.tw13046589575698631388:Unit:=()
def PySem.W.Fast.tw17541737901742771451:Unit:=()
def PySem.W.Fast.tw4738544600915304874:Unit:=()
def PySem.W.Fast.tw5106067602560410116:Unit:=()
def PySem.W.Fast.tw5688973820019153162:Unit:=()
def PySem.W.Fast.tw791059396072981267:Unit:=()
def PySem.W.Fast.tw16715609795169443222:Unit:=()
def PySem.W.Fast.tw14503710662535953144:Unit:=()
def PySem.W.Fast.tw5332456143978300484:Unit:=()
def PySem.W.Fast.tw13578252069143720609:Unit:=()
def PySem.W.Fast.tw7089801126165554533:Unit:=()
def PySem.W.Fast.tw18326721538819962462:Unit:=()
open PySem PySem.W PyProof.Rows
set_option maxRecDepth 100000 in
set_option maxHeartbeats 0 in
theorem PySem.Challenge.cw_slanttiles_k11_values_of_terms_holds : PySem.Challenge.rw_slanttiles_k11_values_of_terms.Holds := by
  w_on; o_law; k_head; (case hw => w_witness2)
  k_fill
  refine KV.walkOn (l := PySem.Challenge.rw_slanttiles_k11_values_of_terms) rfl rfl (fun w h Y => PySem.W.km_in_of Y) (fun w h Y => PySem.W.km_tabs_of Y) ?F
  case F =>
    intro w mg fa h KX G hmg
    refine' KV.all_mk KX G hmg ?aCnum ?aCtake ?aCrest ?aCcho ?aCb0 ?aCb1 ?aCb2 ?aCb3 ?aCb4 ?aCT ?a_cell ?l_cell ?c_cell ?k_cell ?a_well ?l_well ?c_well ?k_well ?a_draw ?l_draw ?c_draw ?k_draw ?a_steps ?l_steps ?c_steps ?k_steps ?a_some ?l_some ?c_some ?k_some ?a_number ?l_number ?c_number ?k_number ?a_told ?l_told ?c_told ?k_told ?a_made ?l_made ?c_made ?k_made ?a_value ?l_value ?c_value ?k_value ?a_worths ?l_worths ?c_worths ?k_worths ?a_fields ?l_fields ?c_fields ?k_fields ?a_right ?l_right ?c_right ?k_right ?a_law ?l_law ?c_law ?k_law ?a_ninit ?i_ninit ?l_ninit ?c_ninit ?k_ninit ?a_kinit ?i_kinit ?l_kinit ?c_kinit ?k_kinit ?a_pinit ?i_pinit ?l_pinit ?c_pinit ?k_pinit ?a_rinit ?i_rinit ?l_rinit ?c_rinit ?k_rinit ?a_cinit ?i_cinit ?l_cinit ?c_cinit ?k_cinit ?a_nvalue ?i_nvalue ?l_nvalue ?c_nvalue ?k_nvalue ?a_kvalue ?i_kvalue ?l_kvalue ?c_kvalue ?k_kvalue ?a_rvalue ?i_rvalue ?l_rvalue ?c_rvalue ?k_rvalue ?a_cvalue ?i_cvalue ?l_cvalue ?c_cvalue ?k_cvalue ?a_avalue ?i_avalue ?l_avalue ?c_avalue ?k_avalue ?a_lvalue ?i_lvalue ?l_lvalue ?c_lvalue ?k_lvalue ?a_mvalue ?i_mvalue ?l_mvalue ?c_mvalue ?k_mvalue ?a_ivalue ?i_ivalue ?l_ivalue ?c_ivalue ?k_ivalue ?a_xvalue ?i_xvalue ?l_xvalue ?c_xvalue ?k_xvalue ?pgCnum ?hdCnum ?poCnum ?saCnum ?mkCnum ?kcCnum ?n_value_Cnum ?klCnum ?mrCnum ?ktCnum ?ksCnum ?pgCtake ?hdCtake ?poCtake ?saCtake ?mkCtake ?kcCtake ?n_back_Ctake ?n_steps_Ctake ?klCtake ?mrCtake ?ktCtake ?ksCtake ?pgCrest ?hdCrest ?poCrest ?saCrest ?mkCrest ?kcCrest ?n_one_Crest ?n_by_Crest ?klCrest ?mrCrest ?ktCrest ?ksCrest ?pgCcho ?hdCcho ?poCcho ?saCcho ?mkCcho ?kcCcho ?n_test_Ccho ?n_one_Ccho ?n_other_Ccho ?klCcho ?mrCcho ?ktCcho ?ksCcho ?pgCb0 ?hdCb0 ?poCb0 ?saCb0 ?mkCb0 ?kcCb0 ?n_one_Cb0 ?n_other_Cb0 ?klCb0 ?mrCb0 ?ktCb0 ?pgCb1 ?hdCb1 ?poCb1 ?saCb1 ?mkCb1 ?kcCb1 ?n_one_Cb1 ?n_other_Cb1 ?klCb1 ?mrCb1 ?ktCb1 ?pgCb2 ?hdCb2 ?poCb2 ?saCb2 ?mkCb2 ?kcCb2 ?n_one_Cb2 ?n_other_Cb2 ?klCb2 ?mrCb2 ?ktCb2 ?pgCb3 ?hdCb3 ?poCb3 ?saCb3 ?mkCb3 ?kcCb3 ?n_one_Cb3 ?n_other_Cb3 ?klCb3 ?mrCb3 ?ktCb3 ?pgCb4 ?hdCb4 ?poCb4 ?saCb4 ?mkCb4 ?kcCb4 ?n_one_Cb4 ?n_other_Cb4 ?klCb4 ?mrCb4 ?ktCb4 ?sp1 ?tk1 ?tc ?td ?tn ?g_init_Cb1 ?g_init_Cb2 ?g_init_Cb3 ?g_init_Cb4 ?nd ?z_isinstance ?z_int ?z_tuple ?z_len ?z_range ?z_max ?z_sorted ?z_dict ?z_min ?z_bool
    (case aCnum => k_is); (case aCtake => k_is); (case aCrest => k_is); (case aCcho => k_is); (case aCb0 => k_is)
    (case aCb1 => k_is); (case aCb2 => k_is); (case aCb3 => k_is); (case aCb4 => k_is); (case aCT => k_is)
    (case a_cell => k_is); (case l_cell => k_is); (case c_cell => k_is); (case k_cell => k_is); (case a_well => k_is)
    (case l_well => k_is); (case c_well => k_is); (case k_well => k_is); (case a_draw => k_is); (case l_draw => k_is)
    (case c_draw => k_is); (case k_draw => k_is); (case a_steps => k_is); (case l_steps => k_is); (case c_steps => k_is)
    (case k_steps => k_is); (case a_some => k_is); (case l_some => k_is); (case c_some => k_is); (case k_some => k_is)
    (case a_number => k_is); (case l_number => k_is); (case c_number => k_is); (case k_number => k_is); (case a_told => k_is)
    (case l_told => k_is); (case c_told => k_is); (case k_told => k_is); (case a_made => k_is); (case l_made => k_is)
    (case c_made => k_is); (case k_made => k_is); (case a_value => k_is); (case l_value => k_is); (case c_value => k_is)
    (case k_value => k_is); (case a_worths => k_is); (case l_worths => k_is); (case c_worths => k_is); (case k_worths => k_is)
    (case a_fields => k_is); (case l_fields => k_is); (case c_fields => k_is); (case k_fields => k_is); (case a_right => k_is)
    (case l_right => k_is); (case c_right => k_is); (case k_right => k_is); (case a_law => k_is); (case l_law => k_is)
    (case c_law => k_is); (case k_law => k_is); (case a_ninit => k_is); (case i_ninit => k_is); (case l_ninit => k_is)
    (case c_ninit => k_is); (case k_ninit => k_is); (case a_kinit => k_is); (case i_kinit => k_is); (case l_kinit => k_is)
    (case c_kinit => k_is); (case k_kinit => k_is); (case a_pinit => k_is); (case i_pinit => k_is); (case l_pinit => k_is)
    (case c_pinit => k_is); (case k_pinit => k_is); (case a_rinit => k_is); (case i_rinit => k_is); (case l_rinit => k_is)
    (case c_rinit => k_is); (case k_rinit => k_is); (case a_cinit => k_is); (case i_cinit => k_is); (case l_cinit => k_is)
    (case c_cinit => k_is); (case k_cinit => k_is); (case a_nvalue => k_is); (case i_nvalue => k_is); (case l_nvalue => k_is)
    (case c_nvalue => k_is); (case k_nvalue => k_is); (case a_kvalue => k_is); (case i_kvalue => k_is); (case l_kvalue => k_is)
    (case c_kvalue => k_is); (case k_kvalue => k_is); (case a_rvalue => k_is); (case i_rvalue => k_is); (case l_rvalue => k_is)
    (case c_rvalue => k_is); (case k_rvalue => k_is); (case a_cvalue => k_is); (case i_cvalue => k_is); (case l_cvalue => k_is)
    (case c_cvalue => k_is); (case k_cvalue => k_is); (case a_avalue => k_is); (case i_avalue => k_is); (case l_avalue => k_is)
    (case c_avalue => k_is); (case k_avalue => k_is); (case a_lvalue => k_is); (case i_lvalue => k_is); (case l_lvalue => k_is)
    (case c_lvalue => k_is); (case k_lvalue => k_is); (case a_mvalue => k_is); (case i_mvalue => k_is); (case l_mvalue => k_is)
    (case c_mvalue => k_is); (case k_mvalue => k_is); (case a_ivalue => k_is); (case i_ivalue => k_is); (case l_ivalue => k_is)
    (case c_ivalue => k_is); (case k_ivalue => k_is); (case a_xvalue => k_is); (case i_xvalue => k_is); (case l_xvalue => k_is)
    (case c_xvalue => k_is); (case k_xvalue => k_is); (case pgCnum => k_is); (case hdCnum => k_is); (case poCnum => k_is)
    (case saCnum => k_is); (case mkCnum => k_is); (case kcCnum => k_is); (case n_value_Cnum => k_is); (case klCnum => k_is)
    (case mrCnum => k_is); (case ktCnum => kit_is); (case ksCnum => kit_is); (case pgCtake => k_is); (case hdCtake => k_is)
    (case poCtake => k_is); (case saCtake => k_is); (case mkCtake => k_is); (case kcCtake => k_is); (case n_back_Ctake => k_is)
    (case n_steps_Ctake => k_is); (case klCtake => k_is); (case mrCtake => k_is); (case ktCtake => kit_is); (case ksCtake => kit_is)
    (case pgCrest => k_is); (case hdCrest => k_is); (case poCrest => k_is); (case saCrest => k_is); (case mkCrest => k_is)
    (case kcCrest => k_is); (case n_one_Crest => k_is); (case n_by_Crest => k_is); (case klCrest => k_is); (case mrCrest => k_is)
    (case ktCrest => kit_is); (case ksCrest => kit_is); (case pgCcho => k_is); (case hdCcho => k_is); (case poCcho => k_is)
    (case saCcho => k_is); (case mkCcho => k_is); (case kcCcho => k_is); (case n_test_Ccho => k_is); (case n_one_Ccho => k_is)
    (case n_other_Ccho => k_is); (case klCcho => k_is); (case mrCcho => k_is); (case ktCcho => kit_is); (case ksCcho => kit_is)
    (case pgCb0 => k_is); (case hdCb0 => k_is); (case poCb0 => k_is); (case saCb0 => k_is); (case mkCb0 => k_is)
    (case kcCb0 => k_is); (case n_one_Cb0 => k_is); (case n_other_Cb0 => k_is); (case klCb0 => k_is); (case mrCb0 => k_is)
    (case ktCb0 => kit_is); (case pgCb1 => k_is); (case hdCb1 => k_is); (case poCb1 => k_is); (case saCb1 => k_is)
    (case mkCb1 => k_is); (case kcCb1 => k_is); (case n_one_Cb1 => k_is); (case n_other_Cb1 => k_is); (case klCb1 => k_is)
    (case mrCb1 => k_is); (case ktCb1 => kit_is); (case pgCb2 => k_is); (case hdCb2 => k_is); (case poCb2 => k_is)
    (case saCb2 => k_is); (case mkCb2 => k_is); (case kcCb2 => k_is); (case n_one_Cb2 => k_is); (case n_other_Cb2 => k_is)
    (case klCb2 => k_is); (case mrCb2 => k_is); (case ktCb2 => kit_is); (case pgCb3 => k_is); (case hdCb3 => k_is)
    (case poCb3 => k_is); (case saCb3 => k_is); (case mkCb3 => k_is); (case kcCb3 => k_is); (case n_one_Cb3 => k_is)
    (case n_other_Cb3 => k_is); (case klCb3 => k_is); (case mrCb3 => k_is); (case ktCb3 => kit_is); (case pgCb4 => k_is)
    (case hdCb4 => k_is); (case poCb4 => k_is); (case saCb4 => k_is); (case mkCb4 => k_is); (case kcCb4 => k_is)
    (case n_one_Cb4 => k_is); (case n_other_Cb4 => k_is); (case klCb4 => k_is); (case mrCb4 => k_is); (case ktCb4 => kit_is)
    (case sp1 => k_is); (case tk1 => k_is); (case tc => rfl); (case td => kernel_rfl); (case tn => kernel_rfl)
    (case g_init_Cb1 => k_is); (case g_init_Cb2 => k_is); (case g_init_Cb3 => k_is); (case g_init_Cb4 => k_is); (case nd => decide)
    (case z_isinstance => k_is); (case z_int => k_is); (case z_tuple => k_is); (case z_len => k_is); (case z_range => k_is)
    (case z_max => k_is); (case z_sorted => k_is); (case z_dict => k_is); (case z_min => k_is); (case z_bool => k_is)

