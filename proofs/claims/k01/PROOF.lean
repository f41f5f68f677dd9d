import PyProof.Rows.All
import Wide.All
import OpenK.AllK
import Wide.FinOn
import Lean
import PyProof.EqAt
import PyProof.EqKinds
import PyProof.TupleCall
import PyProof.NeKinds
import PyProof.EnumStmt
import PyProof.EnumMake
import PyProof.EnumFor
import PyProof.ListMulRoad
import PyProof.CompFree
import PyProof.ExcInit
import PyProof.ExcClass3
import PyProof.StationsW
import PyProof.ExcArgsOwn
import PyProof.InstStoreFacts
import PyProof.RulesTry
import PyProof.RulesAs
import PyProof.ExcFactsAll.ValueError
import PyProof.ExcBaseAll.ValueError
import PyProof.ExcAttrAll.ValueError
import KE.KTryMore
import KE.KIsAll
import PySem.Challenge.RW_slanttiles_k01_what_makes_a_grid
set_option Elab.async false
set_option linter.all false
set_option maxRecDepth 100000
/-! THE HAND LAYER, for ints, bools, texts, own classes, LISTS and tuples (index, slices, in, append, pop ..), calls, loops. Paste it whole ahead of your own text; what your proof does not reach may be deleted. -/
namespace L2
open PySem PySem.Spec PyProof.Rows

/-- a key: an int or a str -/
abbrev Key := Sum Int Str
def keyIs : Key → Value → Bool
  | .inl k, v => Value.isInt k v
  | .inr x, v => Value.isStrOf x v
def keyH (w : World) : Key → Int
  | .inl k => hashInt k
  | .inr x => hashStr w x
theorem keyIs_shape : ∀ {k : Key} {v : Value}, keyIs k v = true → (∃ i t, k = Sum.inl i ∧ v = Value.int i t) ∨ (∃ x t, k = Sum.inr x ∧ v = Value.str x t)
  | .inl i, v, h => by
    obtain ⟨t, e⟩ := Value.isInt_shape (k := i) (v := v) h
    exact .inl ⟨i, t, rfl, e⟩
  | .inr x, v, h => by
    obtain ⟨t, e⟩ := Value.isStrOf_shape (x := x) (v := v) h
    exact .inr ⟨x, t, rfl, e⟩
theorem keyIs_int (i : Int) (t : Tok) : keyIs (.inl i) (.int i t) = true := by simp [keyIs, Value.isInt]
theorem keyIs_str (x : Str) (t : Tok) : keyIs (.inr x) (.str x t) = true := by simp [keyIs, Value.isStrOf]
theorem key_ll (a b : Int) : decide ((Sum.inl a : Key) = Sum.inl b) = (a == b) := by
  by_cases e : a = b
  · subst e; simp
  · have h : ¬ (Sum.inl a : Key) = Sum.inl b := fun q => e (Sum.inl.inj q)
    rw [decide_eq_false h]
    exact (beq_eq_false_iff_ne.mpr e).symm
theorem key_rr (a b : Str) : decide ((Sum.inr a : Key) = Sum.inr b) = decide (a = b) := by
  by_cases e : a = b
  · subst e; simp
  · have h : ¬ (Sum.inr a : Key) = Sum.inr b := fun q => e (Sum.inr.inj q)
    rw [decide_eq_false h, decide_eq_false e]
theorem key_lr (a : Int) (b : Str) : decide ((Sum.inl a : Key) = Sum.inr b) = false := decide_eq_false (fun q => nomatch q)
theorem key_rl (a : Str) (b : Int) : decide ((Sum.inr a : Key) = Sum.inl b) = false := decide_eq_false (fun q => nomatch q)

def mixKind (prog : Program) (w : World) : PySem.KeyKind prog w Key where
  is := keyIs
  hash := keyH w
  inj := fun v a b ha hb => by
    rcases keyIs_shape ha with ⟨i, t, rfl, rfl⟩ | ⟨x, t, rfl, rfl⟩
    · rcases keyIs_shape hb with ⟨j, u, rfl, e⟩ | ⟨y, u, rfl, e⟩
      · injection e with e1 _; rw [e1]
      · exact nomatch e
    · rcases keyIs_shape hb with ⟨j, u, rfl, e⟩ | ⟨y, u, rfl, e⟩
      · exact nomatch e
      · injection e with e1 _; rw [e1]
  byValue := fun k v h => by
    rcases keyIs_shape h with ⟨i, t, rfl, rfl⟩ | ⟨x, t, rfl, rfl⟩ <;> rfl
  pyHash := fun hv h => by
    rcases keyIs_shape hv with ⟨i, t, rfl, rfl⟩ | ⟨x, t, rfl, rfl⟩
    · exact wpAny_pyHash_int h
    · exact wpAny_pyHash_str h
  eqBool := fun hu hv h => by
    rcases keyIs_shape hu with ⟨i, t, rfl, rfl⟩ | ⟨x, t, rfl, rfl⟩
    · rcases keyIs_shape hv with ⟨j, u, rfl, rfl⟩ | ⟨y, u, rfl, rfl⟩
      · rw [key_ll] at h; exact wpAny_eqBool_int h
      · rw [key_lr] at h; exact SeqAt.EqAt.int_str i t y u _ _ _ _ h
    · rcases keyIs_shape hv with ⟨j, u, rfl, rfl⟩ | ⟨y, u, rfl, rfl⟩
      · rw [key_rl] at h; exact SeqAt.EqAt.str_int x t j u _ _ _ _ h
      · rw [key_rr] at h; exact wpAny_eqBool_str h
  «strs» := fun k x t v h => by
    rcases keyIs_shape h with ⟨i, u, rfl, e⟩ | ⟨y, u, rfl, e⟩
    · exact nomatch e
    · injection e with e1 _
      subst e1
      cases v <;> rfl

theorem mixKind_is (prog : Program) (w : World) (k : Key) (v : Value) : (mixKind prog w).is k v = keyIs k v := rfl
theorem mixKind_int (prog : Program) (w : World) (i : Int) (t : Tok) : (mixKind prog w).is (.inl i) (.int i t) = true := keyIs_int i t
theorem mixKind_str (prog : Program) (w : World) (x : Str) (t : Tok) : (mixKind prog w).is (.inr x) (.str x t) = true := keyIs_str x t
end L2

namespace L2
open PySem PySem.Spec PyProof.Rows

/-- a value, without the heap -/
inductive V where
  | non | bl (b : Bool) | int (i : Int) | str (x : Str) | byt (b : Array UInt8) | flt (b : UInt64) | ref (a : Addr) | ty (n : String)
  deriving DecidableEq

def RelV : V → Value → Prop
  | .non, u => u = Value.none
  | .bl b, u => u = Value.bool b
  | .int i, u => ∃ t, u = Value.int i t
  | .str x, u => ∃ t, u = Value.str x t
  | .byt b, u => ∃ t, u = Value.bytes b t
  | .flt b, u => ∃ t, u = Value.float b t
  | .ref a, u => u = Value.ref a
  | .ty n, u => u = Value.type n

abbrev Vals : List V → List Value → Prop := Paired RelV
theorem Vals.length {xs : List V} {us : List Value} (r : Vals xs us) : xs.length = us.length := Paired.length r
theorem Vals.get : ∀ {xs : List V} {us : List Value} {i : Nat} {x : V}, Vals xs us → xs[i]? = some x → ∃ u, us[i]? = some u ∧ RelV x u
  | _, _, _, _, .nil, e => by simp at e
  | _, _, 0, _, .cons r _, e => by simp at e; subst e; exact ⟨_, rfl, r⟩
  | _, _, i + 1, x, .cons _ t, e => by
    obtain ⟨u, h1, h2⟩ := Vals.get (i := i) (x := x) t (by simpa using e)
    exact ⟨u, by simpa using h1, h2⟩
theorem Vals.set {x : V} {u : Value} (r : RelV x u) : ∀ {xs : List V} {us : List Value} (i : Nat), Vals xs us → Vals (xs.set i x) (us.set i u)
  | _, _, _, .nil => .nil
  | _, _, 0, .cons _ t => .cons r t
  | _, _, i + 1, .cons q t => .cons q (Vals.set r i t)
theorem Vals.append : ∀ {xs ys : List V} {us ws : List Value}, Vals xs us → Vals ys ws → Vals (xs ++ ys) (us ++ ws)
  | _, _, _, _, .nil, s => s
  | _, _, _, _, .cons r t, s => .cons r (Vals.append t s)
theorem Vals.take : ∀ {xs : List V} {us : List Value} (n : Nat), Vals xs us → Vals (xs.take n) (us.take n)
  | _, _, 0, _ => .nil
  | _, _, _ + 1, .nil => .nil
  | _, _, n + 1, .cons r t => .cons r (Vals.take n t)
theorem Vals.drop : ∀ {xs : List V} {us : List Value} (n : Nat), Vals xs us → Vals (xs.drop n) (us.drop n)
  | _, _, 0, r => r
  | _, _, _ + 1, .nil => .nil
  | _, _, n + 1, .cons _ t => Vals.drop n t
theorem Vals.none_of : ∀ {xs : List V} {us : List Value} {i : Nat}, Vals xs us → xs[i]? = none → us[i]? = none := fun {xs us i} r e => by
  have h1 := r.length
  have h2 : xs.length ≤ i := List.getElem?_eq_none_iff.mp e
  exact List.getElem?_eq_none_iff.mpr (by omega)

def RelO : Option V → Option Value → Prop
  | some v, some u => RelV v u
  | none, none => True
  | _, _ => False
def KV {κ : Type} : List (κ × V) → List (κ × Value) → Prop := Paired fun (p : κ × V) (q : κ × Value) => p.1 = q.1 ∧ RelV p.2 q.2

/-- a key of a dict (00_mix): an int or a text -/
def kV : Key → V
  | .inl i => .int i
  | .inr x => .str x

/-- what stands at a tracked address -/
inductive HO where
  /-- a list -/
  | lst (xs : List V)
  /-- a tuple (never changes) -/
  | tup (xs : List V)
  /-- a dict whose keys are ints and texts; one whose keys are tuples of ints and texts (the empty one is both) -/
  | dK (kvs : List (Key × V)) | dT (kvs : List (List Key × V))
  /-- a set of ints: its members, its size -/
  | set (S : Int → Bool) (n : Nat)
  /-- an instance of the class at C, its dict at dx, its attributes -/
  | ins (C dx : Addr) (fs : List (Str × V))
  /-- the dict of the instance at x -/
  | own (x : Addr)
  /-- the dict of an exception -/
  | xd (fs : List (Str × V))
  /-- a bound method, f of x -/
  | met (f x : Addr)
  /-- a range object lo, lo + 1, .. below hi -/
  | rng (lo hi : Int)
  /-- a thing that is known to the object (the script; a dict while a loop walks it): read, never written while it is so -/
  | frz (o : Obj) (u : HO)
  /-- a code object's table -/
  | tbl (ps : Array Value)
  /-- any other thing, by what is true of its one object (a def of one's own: SetO a S n := HO.ext fun h => ..) -/
  | ext (φ : Heap → Prop)

abbrev Hp := Addr → Option HO
def upd (H : Hp) (a : Addr) (o : HO) : Hp := fun b => if b = a then some o else H b
theorem upd_same {H : Hp} {a : Addr} {o : HO} : upd H a o a = some o := by unfold upd; rw [if_pos rfl]
theorem upd_ne {H : Hp} {a b : Addr} {o : HO} (h : b ≠ a) : upd H a o b = H b := by unfold upd; rw [if_neg h]
theorem upd_upd {H : Hp} {a : Addr} {o u : HO} : upd (upd H a o) a u = upd H a u := by
  funext b; unfold upd; split <;> rfl
/-- two objects of different content stand apart -/
theorem ne_of {H : Hp} {a b : Addr} {o u : HO} (h : H a = some o) (h' : H b = some u) (d : o ≠ u) : a ≠ b := by
  intro e; subst e; rw [h] at h'; exact d (Option.some.inj h')
theorem ne_of_none {H : Hp} {a b : Addr} {o : HO} (h : H a = some o) (h' : H b = none) : a ≠ b := by
  intro e; subst e; rw [h] at h'; cases h'

section
variable (P : Program) (w : World)
def ObjOk (H : Hp) (h : Heap) (a : Addr) : HO → Prop
  | .lst xs => xs.length ≤ sizeLine ∧ ∃ (its : List Value) (n : Nat), Vals xs its ∧ h.get? a = some { cls := .type "list", data := .seq its.toArray n }
  | .tup xs => xs.length ≤ sizeLine ∧ ∃ its : List Value, Vals xs its ∧ IsTup h a its.toArray
  | .dK kvs => kvs.length ≤ sizeLine ∧ (a == sysModules) = false ∧ ∃ vs, KV kvs vs ∧ h.DictOf (mixKind P w) a vs
  | .dT kvs => kvs.length ≤ sizeLine ∧ (a == sysModules) = false ∧ ∃ xs : List (List Key × Addr × Value),
      Paired (fun (p : List Key × V) (q : List Key × Addr × Value) => p.1 = q.1 ∧ H q.2.1 = some (.tup (p.1.map kV)) ∧ RelV p.2 q.2.2) kvs xs ∧
      ∃ o es ep, h.get? a = some o ∧ o.ExactDict ∧ o.data = .dict es ep ∧ es.toList = xs.map (entryOfKey (tupleKind (mixKind P w))) ∧ (xs.map (·.1)).Nodup
  | .set S n => h.SetOf (intKind P w) a S n
  | .ins C dx fs => H dx = some (.own a) ∧ fs.length ≤ 1000 ∧ dx ≠ a ∧ h.get? a = some (PySem.W.instObj C dx) ∧
      ∃ mA, h.Ns1 dx mA ∧ (∀ f, RelO (fs.lookup f) (mA f)) ∧ PySem.Within mA (fs.map (·.1))
  | .own _ => ∃ o, h.get? a = some o
  | .xd fs => ∃ mA, h.Ns1 a mA ∧ ∀ f, RelO (fs.lookup f) (mA f)
  | .rng lo hi => ∃ t u v, h.get? a = some { cls := .type "range", data := .fields #[.int lo t, .int hi u, .int 1 v] }
  | .frz o u => h.get? a = some o ∧ ObjOk H h a u
  | .tbl ps => h.get? a = some { cls := .none, data := .fields ps }
  | .met f x => h.get? a = some (PySem.W.methodObj (.ref f) (.ref x))
  | .ext φ => φ h ∧ (∃ o, h.get? a = some o) ∧ ∀ h1 h2 : Heap, φ h1 → (∀ o, h1.get? a = some o → h2.get? a = some o) → φ h2
/-- the abstract heap is held -/
def HOk (H : Hp) (h : Heap) : Prop := ∀ a o, H a = some o → ObjOk P w H h a o
end

section
variable {P : Program} {w : World} {H H' : Hp} {h h' : Heap} {a : Addr} {o : HO}
theorem ObjOk.lt (x : ObjOk P w H h a o) : a < h.objs.size := by
  cases o with
  | lst xs => obtain ⟨_, _, _, _, e⟩ := x; exact Heap.lt_size e
  | tup xs => obtain ⟨_, _, _, p⟩ := x; exact p.lt
  | dK kvs => obtain ⟨_, _, _, _, o, _, _, e, _⟩ := x; exact Heap.lt_size e
  | dT kvs => obtain ⟨_, _, _, _, o, _, _, e, _⟩ := x; exact Heap.lt_size e
  | set S n => obtain ⟨o, _, _, _, e, _⟩ := x; exact Heap.lt_size e
  | ins C dx fs => obtain ⟨_, _, _, e, _⟩ := x; exact Heap.lt_size e
  | own y => obtain ⟨_, e⟩ := x; exact Heap.lt_size e
  | xd fs => obtain ⟨_, ⟨_, _, _, e, _⟩, _⟩ := x; exact Heap.lt_size e
  | rng lo hi => obtain ⟨_, _, _, e⟩ := x; exact Heap.lt_size e
  | frz ob u => obtain ⟨e, _⟩ := x; exact Heap.lt_size e
  | tbl ps => exact Heap.lt_size (show h.get? a = some _ from x)
  | met f y => exact Heap.lt_size (show h.get? a = some _ from x)
  | ext φ => obtain ⟨_, ⟨_, e⟩, _⟩ := x; exact Heap.lt_size e
theorem Paired.mapP {α β : Type} {F G : α → β → Prop} : ∀ {l₁ : List α} {l₂ : List β}, Paired F l₁ l₂ → (∀ a b, F a b → G a b) → Paired G l₁ l₂
  | _, _, .nil, _ => .nil
  | _, _, .cons r t, f => .cons (f _ _ r) (Paired.mapP t f)
theorem Paired.imp' {α β : Type} {F G : α → β → Prop} (f : ∀ a b, F a b → G a b) {l₁ : List α} {l₂ : List β} (r : Paired F l₁ l₂) : Paired G l₁ l₂ := Paired.mapP r f
/-- what an object's description leans on: its own object, its own dict, the tuples -/
theorem ObjOk.stay (x : ObjOk P w H h a o) (k : ∀ b u, (b = a ∨ H b = some (.own a)) → h.get? b = some u → h'.get? b = some u)
    (ho : ∀ b, H b = some (.own a) → H' b = some (.own a)) (ht : ∀ b xs, H b = some (.tup xs) → H' b = some (.tup xs)) : ObjOk P w H' h' a o := by
  induction o with
  | lst xs => obtain ⟨z, its, n, r, e⟩ := x; exact ⟨z, its, n, r, k _ _ (.inl rfl) e⟩
  | tup xs => obtain ⟨z, its, r, ob, e, c⟩ := x; exact ⟨z, its, r, ob, k _ _ (.inl rfl) e, c⟩
  | dK kvs => obtain ⟨z, y, vs, r, ob, es, ep, e, c⟩ := x; exact ⟨z, y, vs, r, ob, es, ep, k _ _ (.inl rfl) e, c⟩
  | dT kvs =>
    obtain ⟨z, y, xs, r, ob, es, ep, e, c⟩ := x
    exact ⟨z, y, xs, Paired.mapP r fun p q z => ⟨z.1, ht _ _ z.2.1, z.2.2⟩, ob, es, ep, k _ _ (.inl rfl) e, c⟩
  | set S n => obtain ⟨ob, es, ep, t, e, c⟩ := x; exact ⟨ob, es, ep, t, k _ _ (.inl rfl) e, c⟩
  | ins C dx fs =>
    obtain ⟨d, z, ne, e, mA, ⟨od, es, ep, e2, c⟩, r⟩ := x
    exact ⟨ho _ d, z, ne, k _ _ (.inl rfl) e, mA, ⟨od, es, ep, k _ _ (.inr d) e2, c⟩, r⟩
  | own y => obtain ⟨ob, e⟩ := x; exact ⟨ob, k _ _ (.inl rfl) e⟩
  | xd fs => obtain ⟨mA, ⟨od, es, ep, e, c⟩, r⟩ := x; exact ⟨mA, ⟨od, es, ep, k _ _ (.inl rfl) e, c⟩, r⟩
  | rng lo hi => obtain ⟨t, u, v, e⟩ := x; exact ⟨t, u, v, k _ _ (.inl rfl) e⟩
  | frz ob u ih => obtain ⟨e, q⟩ := x; exact ⟨k _ _ (.inl rfl) e, ih q⟩
  | tbl ps =>
    have e : h.get? a = some { cls := .none, data := .fields ps } := x
    show h'.get? a = some { cls := .none, data := .fields ps }
    exact k a _ (.inl rfl) e
  | met f y =>
    have e : h.get? a = some (PySem.W.methodObj (.ref f) (.ref y)) := x
    show h'.get? a = some (PySem.W.methodObj (.ref f) (.ref y))
    exact k a _ (.inl rfl) e
  | ext φ => obtain ⟨p, ⟨o, e⟩, st⟩ := x; exact ⟨st _ _ p fun o q => k _ _ (.inl rfl) q, ⟨o, k _ _ (.inl rfl) e⟩, st⟩
theorem HOk.lt (x : HOk P w H h) (e : H a = some o) : a < h.objs.size := (x a o e).lt
theorem HOk.fresh (x : HOk P w H h) (e : h.objs.size ≤ a) : H a = none := by
  cases q : H a with
  | none => rfl
  | some u => exact absurd (Nat.lt_of_lt_of_le (x.lt q) e) (Nat.lt_irrefl _)
/-- every object of the heap is kept -/
theorem HOk.kept (x : HOk P w H h) (k : ∀ b u, h.get? b = some u → h'.get? b = some u) : HOk P w H h' := fun a o e =>
  (x a o e).stay (fun b u _ q => k b u q) (fun _ q => q) fun _ _ q => q
/-- a new object is laid and tracked -/
theorem HOk.laid (x : HOk P w H h) (k : ∀ b u, h.get? b = some u → h'.get? b = some u) (hp : h.objs.size ≤ a) (new : ObjOk P w (upd H a o) h' a o) : HOk P w (upd H a o) h' := fun b u e => by
  have hn := x.fresh hp
  by_cases hb : b = a
  · subst hb; rw [upd_same] at e; cases e; exact new
  · rw [upd_ne hb] at e
    exact (x b u e).stay (fun c v _ q => k c v q) (fun c q => by rw [upd_ne (ne_of_none q hn)]; exact q) fun c xs q => by rw [upd_ne (ne_of_none q hn)]; exact q
end

/-- what may be read as u: it is u, or a known u -/
def Rd (H : Hp) (a : Addr) (u : HO) : Prop := H a = some u ∨ ∃ o, H a = some (.frz o u)
theorem Rd.of {H : Hp} {a : Addr} {u : HO} (h : H a = some u) : Rd H a u := .inl h
theorem Rd.ok {P : Program} {w : World} {H : Hp} {h : Heap} {a : Addr} {u : HO} (r : Rd H a u) (x : HOk P w H h) : ObjOk P w H h a u := by
  rcases r with r | ⟨o, r⟩
  · exact x a u r
  · obtain ⟨_, q⟩ := x a _ r
    exact q
/-- what may be written -/
def Mut : Option HO → Prop
  | some (.lst _) => True
  | some (.dK _) => True
  | some (.dT _) => True
  | some (.set _ _) => True
  | some (.ins _ _ _) => True
  | some (.ext _) => True
  | _ => False
section
variable {P : Program} {w : World} {H : Hp} {h h' : Heap} {x e : Addr} {o' : HO}
/-- the object at e is changed: x itself, or the dict of the instance x -/
theorem HOk.write (ok : HOk P w H h) (mu : Mut (H x)) (he : e = x ∨ H e = some (.own x)) (k : ∀ b u, b ≠ e → h.get? b = some u → h'.get? b = some u) (heo : ∃ u, h'.get? e = some u)
    (new : ObjOk P w (upd H x o') h' x o') : HOk P w (upd H x o') h' := fun b u q => by
  have nown : ∀ c y, H c = some (.own y) → c ≠ x := fun c y r z => by subst z; rw [r] at mu; exact mu
  have ntup : ∀ c xs, H c = some (.tup xs) → c ≠ x := fun c xs r z => by subst z; rw [r] at mu; exact mu
  by_cases hb : b = x
  · subst hb; rw [upd_same] at q; cases q; exact new
  · rw [upd_ne hb] at q
    by_cases hbe : b = e
    · have q' : H b = some (.own x) := by
        rcases he with z | z
        · exact absurd (hbe.trans z) hb
        · rw [hbe]; exact z
      rw [q] at q'; cases q'
      obtain ⟨v, hv⟩ := heo
      exact ⟨v, by rw [hbe]; exact hv⟩
    · refine (ok b u q).stay (fun c v hc r => k c v ?_ r) (fun c r => by rw [upd_ne (nown c b r)]; exact r) fun c xs r => by rw [upd_ne (ntup c xs r)]; exact r
      rcases hc with rfl | hc
      · exact hbe
      · rintro rfl
        rcases he with z | z
        · exact nown c b hc z
        · rw [hc] at z; cases z; exact hb rfl
end

/-! ### kept unless tracked; of the frames at fs (the callers') the slots may change (an exception that passes writes there); of the records at ex (iterators) nothing is said -/
structure Un (fs ex : List Addr) (H H' : Hp) (h h' : Heap) : Prop where
  keep : ∀ b o, h.get? b = some o → H b = none → b ∉ fs → b ∉ ex → h'.get? b = some o
  slot : ∀ b o, h.get? b = some o → H b = none → b ∈ fs → b ∉ ex → ∃ sl, h'.get? b = some { o with slots := sl }
  free : ∀ b o, h.get? b = some o → H b = none → b ∉ ex → H' b = none
  there : ∀ b o, h.get? b = some o → b ∉ ex → ∃ o', h'.get? b = some o'
  tups : ∀ b xs, H b = some (.tup xs) → H' b = some (.tup xs)
  frzs : ∀ b o u, H b = some (.frz o u) → H' b = some (.frz o u)
  tbls : ∀ b ps, H b = some (.tbl ps) → ∃ more, H' b = some (.tbl (ps ++ more))
section
variable {fs fs' ex ex' : List Addr} {H H1 H2 : Hp} {h h1 h2 h' : Heap} {a x e : Addr} {o : HO}
theorem Un.any (u : Un fs ex H H1 h h1) {b : Addr} {ob : Obj} (q : h.get? b = some ob) (n : H b = none) (hx : b ∉ ex) : ∃ sl, h1.get? b = some { ob with slots := sl } := by
  by_cases hb : b ∈ fs
  · exact u.slot b ob q n hb hx
  · exact ⟨ob.slots, u.keep b ob q n hb hx⟩
theorem Un.trans (a : Un fs ex H H1 h h1) (b : Un fs ex H1 H2 h1 h2) : Un fs ex H H2 h h2 where
  keep := fun c ob q n hc hx => b.keep c ob (a.keep c ob q n hc hx) (a.free c ob q n hx) hc hx
  slot := fun c ob q n hc hx => by
    obtain ⟨sl, e1⟩ := a.slot c ob q n hc hx
    obtain ⟨sl', e2⟩ := b.slot c _ e1 (a.free c ob q n hx) hc hx
    exact ⟨sl', e2⟩
  free := fun c ob q n hx => by
    obtain ⟨o', e1⟩ := a.there c ob q hx
    exact b.free c o' e1 (a.free c ob q n hx) hx
  there := fun c ob q hx => by
    obtain ⟨o', e1⟩ := a.there c ob q hx
    exact b.there c o' e1 hx
  tups := fun c xs q => b.tups c xs (a.tups c xs q)
  frzs := fun c ob xs q => b.frzs c ob xs (a.frzs c ob xs q)
  tbls := fun c ps q => by
    obtain ⟨m1, e1⟩ := a.tbls c ps q
    obtain ⟨m2, e2⟩ := b.tbls c _ e1
    exact ⟨m1 ++ m2, by rw [e2, Array.append_assoc]⟩
theorem Un.kept (k : ∀ b u, h.get? b = some u → h'.get? b = some u) : Un fs ex H H h h' :=
  ⟨fun b ob q _ _ _ => k b ob q, fun b ob q _ _ _ => ⟨ob.slots, k b ob q⟩, fun _ _ _ n _ => n, fun b ob q _ => ⟨ob, k b ob q⟩, fun _ _ q => q, fun _ _ _ q => q, fun _ ps q => ⟨#[], by rw [q]; simp⟩⟩
theorem Un.refl : Un fs ex H H h h := Un.kept fun _ _ q => q
theorem Un.laid (k : ∀ b u, h.get? b = some u → h'.get? b = some u) (hp : h.objs.size ≤ a) (hn : H a = none) : Un fs ex H (upd H a o) h h' where
  keep := fun b u q _ _ _ => k b u q
  slot := fun b u q _ _ _ => ⟨u.slots, k b u q⟩
  free := fun b u q n _ => by rw [upd_ne (Nat.ne_of_lt (Nat.lt_of_lt_of_le (Heap.lt_size q) hp))]; exact n
  there := fun b u q _ => ⟨u, k b u q⟩
  tups := fun b xs q => by rw [upd_ne (ne_of_none q hn)]; exact q
  frzs := fun b u xs q => by rw [upd_ne (ne_of_none q hn)]; exact q
  tbls := fun b ps q => ⟨#[], by rw [upd_ne (ne_of_none q hn), q]; simp⟩
theorem Un.write (mu : Mut (H x)) (he : e = x ∨ H e = some (.own x)) (k : ∀ b u, b ≠ e → h.get? b = some u → h'.get? b = some u) (heo : ∃ u, h'.get? e = some u) : Un fs ex H (upd H x o) h h' := by
  have hx : ∀ b, H b = none → b ≠ x := fun b n z => by subst z; rw [n] at mu; exact mu
  have hb : ∀ b, H b = none → b ≠ e := fun b n z => by
    subst z
    rcases he with r | r
    · exact hx b n r
    · rw [n] at r; cases r
  have hm : ∀ b u, H b = some u → ¬ Mut (some u) → b ≠ x := fun b u q nm z => by subst z; rw [q] at mu; exact nm mu
  refine ⟨fun b u q n _ _ => k b u (hb b n) q, fun b u q n _ _ => ⟨u.slots, k b u (hb b n) q⟩, fun b u q n _ => by rw [upd_ne (hx b n)]; exact n, fun b u q _ => ?_,
    fun b xs q => by rw [upd_ne (hm b _ q fun z => z)]; exact q, fun b u xs q => by rw [upd_ne (hm b _ q fun z => z)]; exact q, fun b ps q => ⟨#[], by rw [upd_ne (hm b _ q fun z => z), q]; simp⟩⟩
  by_cases hbe : b = e
  · subst hbe; exact heo
  · exact ⟨u, k b u hbe q⟩
theorem Un.mono (u : Un fs ex H H1 h h1) (hs : ∀ b ∈ fs, b ∈ fs') (hx : ∀ b ∈ ex, b ∈ ex') : Un fs' ex' H H1 h h1 :=
  ⟨fun b ob q n hb he => u.keep b ob q n (fun z => hb (hs b z)) fun z => he (hx b z), fun _ _ q n _ he => u.any q n fun z => he (hx _ z), fun b ob q n he => u.free b ob q n fun z => he (hx b z), fun b ob q he => u.there b ob q fun z => he (hx b z), u.tups, u.frzs, u.tbls⟩
end

/-! ### the heap without what is tracked -/
def trk (h : Heap) (H : Hp) : List Addr := (List.range h.objs.size).filter fun a => (H a).isSome
def hidT (h : Heap) (H : Hp) : Heap := PySem.W.hideAll h (trk h H)
theorem hidT_size (h : Heap) (H : Hp) : (hidT h H).objs.size = h.objs.size := PySem.W.hideAll_size _ _
theorem hidT_get {h : Heap} {H : Hp} {b : Addr} {o : Obj} (e : h.get? b = some o) (n : H b = none) : (hidT h H).get? b = some o :=
  PySem.W.hideAll_get _ e fun hm => by
    have q : (H b).isSome = true := (List.mem_filter.mp hm).2
    rw [n] at q; simp at q
theorem of_hidT {h : Heap} {H : Hp} {b : Addr} {o : Obj} (e : (hidT h H).get? b = some o) : h.get? b = some o ∧ H b = none := by
  have e' : h.get? b = some o := PySem.W.of_hideAll (trk h H) e
  refine ⟨e', ?_⟩
  cases q : H b with
  | none => rfl
  | some x =>
    have hm : b ∈ trk h H := List.mem_filter.mpr ⟨List.mem_range.mpr (Heap.lt_size e'), by simp [q]⟩
    have z : (hidT h H).get? b = none := PySem.W.hideAll_none (trk h H) hm
    rw [z] at e; cases e

/-! ### OpenK's ledger, filled with every new object but one -/
def allNews (g h : Heap) (L : Addr) : List (Addr × Obj) := (List.range h.objs.size).filterMap fun a => if a = L ∨ (g.get? a).isSome = true then none else (h.get? a).map fun o => (a, o)
theorem mem_allNews {g h : Heap} {L a : Addr} {o : Obj} (h1 : a ≠ L) (h2 : g.get? a = none) (h3 : h.get? a = some o) : (a, o) ∈ allNews g h L :=
  List.mem_filterMap.mpr ⟨a, List.mem_range.mpr (Heap.lt_size h3), by simp [h1, h2, h3]⟩
theorem of_mem_allNews {g h : Heap} {L : Addr} {p : Addr × Obj} (hp : p ∈ allNews g h L) : p.1 ≠ L ∧ g.get? p.1 = none ∧ h.get? p.1 = some p.2 := by
  obtain ⟨b, _, e⟩ := List.mem_filterMap.mp hp
  split at e
  · cases e
  · rename_i hn
    cases q : h.get? b with
    | none => rw [q] at e; simp at e
    | some u =>
      rw [q] at e
      simp only [Option.map_some, Option.some.injEq] at e
      subst e
      refine ⟨fun z => hn (.inl z), ?_, q⟩
      show g.get? b = none
      cases r : g.get? b with
      | none => rfl
      | some v => exact (hn (.inr (by simp [r]))).elim
def rest (g h : Heap) (L d : Addr) : List (Addr × Obj) := (allNews g h L).filter fun p => decide (p.1 ≠ d)
theorem rest_ne {g h : Heap} {L d : Addr} : ∀ p ∈ rest g h L d, p.1 ≠ d := fun p hp => of_decide_eq_true (List.mem_filter.mp hp).2
theorem mem_rest {g h : Heap} {L d a : Addr} {o : Obj} (h1 : a ≠ L) (h2 : g.get? a = none) (h3 : h.get? a = some o) (h4 : a ≠ d) : (a, o) ∈ rest g h L d :=
  List.mem_filter.mpr ⟨mem_allNews h1 h2 h3, decide_eq_true h4⟩
theorem news_all {g h : Heap} {L : Addr} : News g L h (allNews g h L) := fun p hp => let ⟨a, b, c⟩ := of_mem_allNews hp; ⟨c, a, b⟩
theorem news_at {g h : Heap} {L d : Addr} {o : Obj} (h1 : d ≠ L) (h2 : g.get? d = none) (h3 : h.get? d = some o) : News g L h ((d, o) :: rest g h L d) := fun p hp => by
  rcases List.mem_cons.mp hp with rfl | hp
  · exact ⟨h3, h1, h2⟩
  · exact news_all p (List.mem_filter.mp hp).1
/-- behind a rule that changed d alone: all else but the frame is kept -/
theorem kept_of_news {g h h' : Heap} {L d : Addr} {m : Str → Option Value} (k : ∀ b o, g.get? b = some o → h.get? b = some o) (F : Fr g L h' m) (N : News g L h' (rest g h L d)) :
    ∀ b o, b ≠ L → b ≠ d → h.get? b = some o → h'.get? b = some o := fun b o h1 h2 e => by
  cases q : g.get? b with
  | some u =>
    have := k b u q
    rw [e] at this; cases this
    exact F.keep b _ q
  | none => exact (N (b, o) (mem_rest h1 q e h2)).1
end L2

namespace L2
open PySem PySem.Spec PyProof.Rows

/-- the module's facts, over the base: the heap at the law's entry without what is tracked there -/
structure Mod (K : PySem.W.Frag) (mg : Str → Option Value) (base : Heap) : Prop where
  kin : K.In base
  glob : base.Ns mainGlobals mg
  blt : ∃ mb, base.Ns builtinsNs mb ∧ ∀ x : Str, x ≠ "__name__" → mb x = bootBuiltins x
  nolimit : base.NoLimit

/-- the context: a def's body (or a comprehension's block) running. base: fixed through the whole law; s₀, H₀: the entry; outer: the frames whose slots others may change (a def's callers); stack: all frames that run;
   ex: iterators that were made ahead of the entry and are walked here (a comprehension's); fn: the names whose cells were made at the entry (a def: all; a comprehension's block: its own); calm: not within an except suite; pn: pins that every state bears; xe: what is wanted of an exception that leaves the code -/
structure Cx where
  prog : Program
  w : World
  K : PySem.W.Frag
  mg : Str → Option Value
  base : Heap
  A : Around
  N : List Str
  s₀ : Shared
  H₀ : Hp
  env : Env
  outer : List Env
  stack : List Env
  ex : List Addr
  fn : Str → Bool
  calm : Bool
  pn : List (Addr × Obj)
  xe : Value → Shared → Prop
/-- the callers' frames -/
def frs (l : List Env) : List Addr := l.filterMap (·.frame)
abbrev Cx.fs (X : Cx) : List Addr := frs X.outer

def Vis (sc : Scope) (x : Str) : Prop := sc.names.lookup x = some .local ∨ sc.names.lookup x = some .cell ∨ sc.names.lookup x = some .free
def Loc (sc : Scope) (x : Str) : Prop := sc.names.lookup x = some .local ∨ sc.names.lookup x = some .cell
def Look (env : Env) (h : Heap) (m : Str → Option Value) (x : Str) (u : Value) : Prop :=
  (env.kindOf x = some .local ∧ m x = some u) ∨ ((env.kindOf x = some .cell ∨ env.kindOf x = some .free) ∧ ∃ c, env.cells.lookup x = some c ∧ h.IsCell c (some u))

structure Cx.Ok (X : Cx) : Prop where
  mod : Mod X.K X.mg X.base
  kind : X.env.scope.kind = .function
  glob : X.env.globals = mainGlobals
  blt : X.env.builtins = builtinsNs
  above : X.s₀.heap.objs.size ≤ X.env.locals
  inj : ∀ x y c, X.env.cells.lookup x = some c → X.env.cells.lookup y = some c → x = y
  has : ∀ x, (X.env.kindOf x = some .cell ∨ X.env.kindOf x = some .free) → ∃ c, X.env.cells.lookup x = some c
  cab : ∀ x c, X.fn x = true → X.env.cells.lookup x = some c → X.s₀.heap.objs.size ≤ c
  hd : X.calm = true → X.A.handled = none
  frames : X.A.frames = some X.stack
  stk : X.stack = X.outer ∨ (X.stack = X.env :: X.outer ∧ X.env.frame = some X.env.locals)
  exf : ∀ b ∈ X.ex, b ≠ X.env.locals ∧ ∀ x c, X.env.cells.lookup x = some c → c ≠ b
  bs : ∀ b o, X.base.get? b = some o → X.s₀.heap.get? b = some o ∧ X.H₀ b = none
  bsz : X.base.objs.size ≤ X.s₀.heap.objs.size
  noex : ∀ b o, X.base.get? b = some o → b ∉ X.ex
  exfs : ∀ b ∈ X.ex, b ∉ X.fs
  funs : X.s₀.heap.FunFrames X.base X.outer
  frf : ∀ b ∈ X.fs, X.H₀ b = none

structure Inv (X : Cx) (pins : List (Addr × Obj)) (σ : List (Option V)) (H : Hp) (s : Shared) : Prop where
  ok : X.Ok
  os : s.os = X.s₀.os
  bare : AllBare s.gens
  base : Un X.fs X.ex X.H₀ H X.s₀.heap s.heap
  loc : ∃ m, s.heap.Ns X.env.locals m ∧ ∀ (i : Nat) (x : Str) (v : V), X.N[i]? = some x → σ[i]? = some (some v) → Vis X.env.scope x → ∃ u, RelV v u ∧ Look X.env s.heap m x u
  cell : ∀ x c, X.env.cells.lookup x = some c → ∃ v, s.heap.IsCell c v
  free : H X.env.locals = none
  freeC : ∀ x c, X.env.cells.lookup x = some c → H c = none
  pin : ∀ p ∈ X.pn ++ pins, s.heap.get? p.1 = some p.2 ∧ H p.1 = none ∧ p.1 ≠ X.env.locals ∧ p.1 ∉ X.fs ∧ ∀ v, p.2.data ≠ .cell v
  hok : HOk X.prog X.w H s.heap
  len : σ.length = X.N.length

section
variable {X : Cx} {pins : List (Addr × Obj)} {σ : List (Option V)} {H H' : Hp} {s : Shared} {h' : Heap}

theorem Cx.Ok.nofr (ok : X.Ok) {b : Addr} {o : Obj} (e : X.base.get? b = some o) : b ∉ X.fs := fun hb => by
  have := (ok.funs.mem hb).1
  rw [e] at this; cases this
theorem Inv.bs (I : Inv X pins σ H s) : ∀ b o, X.base.get? b = some o → s.heap.get? b = some o ∧ H b = none := fun b o e =>
  ⟨I.base.keep b o (I.ok.bs b o e).1 (I.ok.bs b o e).2 (I.ok.nofr e) (I.ok.noex b o e), I.base.free b o (I.ok.bs b o e).1 (I.ok.bs b o e).2 (I.ok.noex b o e)⟩
theorem Inv.bk (I : Inv X pins σ H s) : ∀ b o, X.base.get? b = some o → s.heap.get? b = some o := fun b o e => (I.bs b o e).1
theorem Inv.mod (I : Inv X pins σ H s) : Mod X.K X.mg X.base := I.ok.mod
theorem Inv.kIn (I : Inv X pins σ H s) : X.K.In s.heap := I.ok.mod.kin.keeps I.bk
theorem Inv.nolimit (I : Inv X pins σ H s) : s.heap.NoLimit := I.ok.mod.nolimit.keeps I.bk
/-- the frame over the base: for OpenK's rules (K.In X.base is I.mod.kin) -/
theorem Inv.fr (I : Inv X pins σ H s) : ∃ m, Fr X.base X.env.locals s.heap m :=
  let ⟨m, hn, _⟩ := I.loc
  ⟨m, hn, I.bk, Nat.le_trans I.ok.bsz I.ok.above⟩
theorem Inv.lt (I : Inv X pins σ H s) : X.env.locals < s.heap.objs.size := let ⟨_, hn, _⟩ := I.loc; hn.lt
theorem Inv.sz (I : Inv X pins σ H s) : X.s₀.heap.objs.size ≤ s.heap.objs.size := Nat.le_trans I.ok.above (Nat.le_of_lt I.lt)
theorem Inv.nofs (I : Inv X pins σ H s) {a : Addr} (h : s.heap.objs.size ≤ a) : a ∉ X.fs := fun hb => by
  obtain ⟨_, o, ho, _⟩ := I.ok.funs.mem hb
  exact absurd (Nat.lt_of_lt_of_le (Heap.lt_size ho) (Nat.le_trans I.sz h)) (Nat.lt_irrefl _)
theorem Inv.cne (I : Inv X pins σ H s) : ∀ x c, X.env.cells.lookup x = some c → c ≠ X.env.locals := fun x c e z => by
  obtain ⟨v, o, ho, hd⟩ := I.cell x c e
  obtain ⟨m, ⟨o', es, ep, ho', hd', _⟩, _⟩ := I.loc
  rw [z, ho'] at ho; cases ho; rw [hd'] at hd; cases hd
theorem Inv.funs (I : Inv X pins σ H s) : s.heap.FunFrames X.base X.outer := by
  have all : ∀ (l : List Env), (∀ b ∈ frs l, b ∈ X.fs) → X.s₀.heap.FunFrames X.base l → s.heap.FunFrames X.base l := by
    intro l
    induction l with
    | nil => intro _ _; trivial
    | cons env r ih =>
      intro hs hl
      obtain ⟨hk, ⟨L, o, hf, hn, ho, hd⟩, hr⟩ := hl
      have hL : L ∈ X.fs := hs L (by unfold frs; rw [List.filterMap_cons, hf]; exact List.mem_cons_self)
      obtain ⟨sl, e⟩ := I.base.slot L o ho (I.ok.frf L hL) hL fun z => I.ok.exfs L z hL
      exact ⟨hk, ⟨L, _, hf, hn, e, hd⟩, ih (fun b hb => hs b (by unfold frs; rw [List.filterMap_cons, hf]; exact List.mem_cons_of_mem _ hb)) hr⟩
  exact all X.outer (fun _ hb => hb) I.ok.funs

/-- the frames that run, for a call -/
theorem Inv.stack (I : Inv X pins σ H s) : s.heap.FunFrames X.base X.stack := by
  rcases I.ok.stk with e | ⟨e, hf⟩
  · rw [e]; exact I.funs
  · rw [e]
    obtain ⟨m, hn, _⟩ := I.loc
    refine .cons (by rw [I.ok.kind]; decide) hf hn ?_ I.funs
    exact Heap.get?_none_of_le (Nat.le_trans I.ok.bsz I.ok.above)
theorem Inv.stkSub (I : Inv X pins σ H s) : ∀ b ∈ frs X.stack, b ∈ X.env.locals :: X.fs := fun b hb => by
  rcases I.ok.stk with e | ⟨e, hf⟩
  · rw [e] at hb; exact List.mem_cons_of_mem _ hb
  · rw [e] at hb
    unfold frs at hb
    rw [List.filterMap_cons, hf] at hb
    exact hb
theorem Inv.stkFree (I : Inv X pins σ H s) : ∀ b ∈ frs X.stack, H b = none := fun b hb => by
  rcases List.mem_cons.mp (I.stkSub b hb) with e | hb
  · rw [e]; exact I.free
  · obtain ⟨_, o, ho, _⟩ := I.ok.funs.mem hb
    exact I.base.free b o ho (I.ok.frf b hb) fun z => I.ok.exfs b z hb

/-- THE STEP: the untracked objects but the frame and the records at ch are kept (the callers' frames up to slots), the frame's map is kept, the new abstract heap is held -/
theorem Inv.step {g' : Array GenState} {t' : Nat} {d' : Drawn} {ch : List Addr} (I : Inv X pins σ H s)
    (hch : ∀ b ∈ ch, (b ∈ X.ex ∨ X.s₀.heap.objs.size ≤ b) ∧ b ≠ X.env.locals ∧ (∀ x c, X.env.cells.lookup x = some c → c ≠ b) ∧ ∀ p ∈ X.pn ++ pins, p.1 ≠ b)
    (keep : ∀ b o, b ≠ X.env.locals → b ∉ X.fs → b ∉ ch → s.heap.get? b = some o → H b = none → h'.get? b = some o)
    (slot : ∀ b o, b ≠ X.env.locals → b ∈ X.fs → b ∉ ch → s.heap.get? b = some o → H b = none → ∃ sl, h'.get? b = some { o with slots := sl }) (free : ∀ b o, b ∉ ch → s.heap.get? b = some o → H b = none → H' b = none)
    (there : ∀ b o, b ∉ ch → s.heap.get? b = some o → ∃ o', h'.get? b = some o')
    (tups : ∀ b xs, H b = some (.tup xs) → H' b = some (.tup xs)) (frzs : ∀ b o u, H b = some (.frz o u) → H' b = some (.frz o u)) (tbls : ∀ b ps, H b = some (.tbl ps) → ∃ more, H' b = some (.tbl (ps ++ more)))
    (ns : ∀ m, s.heap.Ns X.env.locals m → h'.Ns X.env.locals m) (hok : HOk X.prog X.w H' h') (hg : AllBare g') :
    Inv X pins σ H' { s with heap := h', gens := g', drawn := d', toks := t' } := by
  have neL : ∀ b o, X.s₀.heap.get? b = some o → b ≠ X.env.locals := fun b o e => Nat.ne_of_lt (Nat.lt_of_lt_of_le (Heap.lt_size e) I.ok.above)
  have neC : ∀ b o, X.s₀.heap.get? b = some o → b ∉ X.ex → b ∉ ch := fun b o e hx hb => by
    rcases (hch b hb).1 with z | z
    · exact hx z
    · exact absurd (Nat.lt_of_lt_of_le (Heap.lt_size e) z) (Nat.lt_irrefl _)
  have cellK : ∀ x c, X.env.cells.lookup x = some c → ∀ v, s.heap.IsCell c v → h'.IsCell c v := fun x c e v ⟨o, ho, hd⟩ => by
    have nch : c ∉ ch := fun z => (hch c z).2.2.1 x c e rfl
    by_cases hc : c ∈ X.fs
    · obtain ⟨sl, q⟩ := slot c o (I.cne x c e) hc nch ho (I.freeC x c e)
      exact ⟨_, q, hd⟩
    · exact ⟨o, keep c o (I.cne x c e) hc nch ho (I.freeC x c e), hd⟩
  refine ⟨I.ok, I.os, hg, ⟨fun b o e n hb hx => ?_, fun b o e n hb hx => ?_, fun b o e n hx => ?_, fun b o e hx => ?_, fun b xs e => tups b xs (I.base.tups b xs e), fun b o xs e => frzs b o xs (I.base.frzs b o xs e), fun b ps e => ?_⟩, ?_, fun x c e => ?_, ?_, fun x c e => ?_, fun p hp => ?_, hok, I.len⟩
  · exact keep b o (neL b o e) hb (neC b o e hx) (I.base.keep b o e n hb hx) (I.base.free b o e n hx)
  · obtain ⟨sl, e1⟩ := I.base.slot b o e n hb hx
    obtain ⟨sl', e2⟩ := slot b _ (neL b o e) hb (neC b o e hx) e1 (I.base.free b o e n hx)
    exact ⟨sl', e2⟩
  · obtain ⟨o', e1⟩ := I.base.there b o e hx
    exact free b o' (neC b o e hx) e1 (I.base.free b o e n hx)
  · obtain ⟨o', e1⟩ := I.base.there b o e hx
    exact there b o' (neC b o e hx) e1
  · obtain ⟨m1, e1⟩ := I.base.tbls b ps e
    obtain ⟨m2, e2⟩ := tbls b _ e1
    exact ⟨m1 ++ m2, by rw [e2, Array.append_assoc]⟩
  · obtain ⟨m, hn, hl⟩ := I.loc
    refine ⟨m, ns m hn, fun i x v e1 e2 e3 => ?_⟩
    obtain ⟨u, r, l⟩ := hl i x v e1 e2 e3
    refine ⟨u, r, ?_⟩
    rcases l with l | ⟨k, c, e, z⟩
    · exact .inl l
    · exact .inr ⟨k, c, e, cellK x c e _ z⟩
  · obtain ⟨v, z⟩ := I.cell x c e
    exact ⟨v, cellK x c e v z⟩
  · obtain ⟨m, ⟨o, _, _, ho, _⟩, _⟩ := I.loc
    exact free _ o (fun z => (hch _ z).2.1 rfl) ho I.free
  · obtain ⟨v, o, ho, hd⟩ := I.cell x c e
    exact free c o (fun z => (hch c z).2.2.1 x c e rfl) ho (I.freeC x c e)
  · obtain ⟨e, n, ne, nf, d⟩ := I.pin p hp
    have nch : p.1 ∉ ch := fun z => (hch p.1 z).2.2.2 p hp rfl
    exact ⟨keep p.1 p.2 ne nf nch e n, free p.1 p.2 nch e n, ne, nf, d⟩
/-- .. where the frame's own object is kept too -/
theorem Inv.un {t' : Nat} (I : Inv X pins σ H s) (u : Un X.fs [] H H' s.heap h') (hok : HOk X.prog X.w H' h') : Inv X pins σ H' { s with heap := h', toks := t' } := by
  obtain ⟨m, ⟨o, es, ep, ho, r⟩, _⟩ := id I.loc
  obtain ⟨sl, hL⟩ := u.any ho I.free (by simp)
  exact I.step (g' := s.gens) (d' := s.drawn) (ch := []) (fun _ z => nomatch z) (fun b o _ hb _ e n => u.keep b o e n hb (by simp)) (fun b o _ hb _ e n => u.slot b o e n hb (by simp)) (fun b o _ e n => u.free b o e n (by simp)) (fun b o _ e => u.there b o e (by simp)) u.tups u.frzs u.tbls (fun m' hm => by
    obtain ⟨o', es', ep', ho', r'⟩ := hm
    rw [ho] at ho'; cases ho'
    exact ⟨_, es', ep', hL, r'⟩) hok I.bare
/-- behind a call (or a comprehension's block): the slots of this frame may have changed too, the records at ch may have turned -/
theorem Inv.call {g' : Array GenState} {t' : Nat} {d' : Drawn} {ch : List Addr} (I : Inv X pins σ H s) (u : Un (frs X.stack) ch H H' s.heap h') (hok : HOk X.prog X.w H' h') (hg : AllBare g')
    (hch : ∀ b ∈ ch, (b ∈ X.ex ∨ X.s₀.heap.objs.size ≤ b) ∧ b ≠ X.env.locals ∧ (∀ x c, X.env.cells.lookup x = some c → c ≠ b) ∧ ∀ p ∈ X.pn ++ pins, p.1 ≠ b) :
    Inv X pins σ H' { s with heap := h', gens := g', drawn := d', toks := t' } := by
  obtain ⟨m, ⟨o, es, ep, ho, r⟩, _⟩ := id I.loc
  obtain ⟨sl, hL⟩ := u.any ho I.free fun z => (hch _ z).2.1 rfl
  exact I.step (ch := ch) hch (fun b o hL hb hc e n => u.keep b o e n (fun z => (List.mem_cons.mp (I.stkSub b z)).elim hL hb) hc) (fun b o _ _ hc e n => u.any e n hc) (fun b o hc e n => u.free b o e n hc) (fun b o hc e => u.there b o e hc) u.tups u.frzs u.tbls (fun m' hm => by
    obtain ⟨o', es', ep', ho', r'⟩ := hm
    rw [ho] at ho'; cases ho'
    exact ⟨_, es', ep', hL, r'⟩) hok hg
/-- an untracked record of ours (an iterator) has turned -/
theorem Inv.turned {t' : Nat} {it : Addr} (I : Inv X pins σ H s) (k : ∀ b o, b ≠ it → s.heap.get? b = some o → h'.get? b = some o) (hn : H it = none) (hL : it ≠ X.env.locals)
    (h1 : it ∈ X.ex ∨ X.s₀.heap.objs.size ≤ it) (h2 : ∀ x c, X.env.cells.lookup x = some c → c ≠ it) (h3 : ∀ p ∈ X.pn ++ pins, p.1 ≠ it) : Inv X pins σ H { s with heap := h', toks := t' } := by
  have nit : ∀ b u, H b = some u → b ≠ it := fun b u e z => by rw [z, hn] at e; cases e
  refine I.step (g' := s.gens) (d' := s.drawn) (ch := [it]) (fun b hb => ?_) (fun b o _ _ hc e _ => k b o (fun z => hc (by simp [z])) e) (fun b o _ _ hc e _ => ⟨o.slots, k b o (fun z => hc (by simp [z])) e⟩) (fun _ _ _ _ n => n)
    (fun b o hc e => ⟨o, k b o (fun z => hc (by simp [z])) e⟩) (fun _ _ e => e) (fun _ _ _ e => e) (fun b ps e => ⟨#[], by rw [e]; simp⟩) (fun m hm => ?_) (fun b u e => ?_) I.bare
  · have e : b = it := by simpa using hb
    subst e
    exact ⟨h1, hL, h2, h3⟩
  · obtain ⟨o, es, ep, ho, r⟩ := hm
    exact ⟨o, es, ep, k _ o (Ne.symm hL) ho, r⟩
  · refine (I.hok b u e).stay (fun c v hc q => k c v ?_ q) (fun _ q => q) fun _ _ q => q
    rcases hc with z | z
    · rw [z]; exact nit b u e
    · exact nit c _ z
theorem Inv.tok (I : Inv X pins σ H s) (t : Nat) : Inv X pins σ H { s with toks := t } := I.un (h' := s.heap) (t' := t) Un.refl I.hok
/-- all objects kept -/
theorem Inv.kept {t' : Nat} (I : Inv X pins σ H s) (k : ∀ b u, s.heap.get? b = some u → h'.get? b = some u) : Inv X pins σ H { s with heap := h', toks := t' } := I.un (Un.kept k) (I.hok.kept k)
/-- a new object laid and tracked -/
theorem Inv.laid {a : Addr} {o : HO} {t' : Nat} (I : Inv X pins σ H s) (k : ∀ b u, s.heap.get? b = some u → h'.get? b = some u) (hp : s.heap.objs.size ≤ a) (new : ObjOk X.prog X.w (upd H a o) h' a o) :
    Inv X pins σ (upd H a o) { s with heap := h', toks := t' } := I.un (Un.laid k hp (I.hok.fresh hp)) (I.hok.laid k hp new)
/-- an object written -/
theorem Inv.write {x e : Addr} {o : HO} {t' : Nat} (I : Inv X pins σ H s) (mu : Mut (H x)) (he : e = x ∨ H e = some (.own x)) (k : ∀ b u, b ≠ e → s.heap.get? b = some u → h'.get? b = some u) (heo : ∃ u, h'.get? e = some u)
    (new : ObjOk X.prog X.w (upd H x o) h' x o) : Inv X pins σ (upd H x o) { s with heap := h', toks := t' } := I.un (Un.write mu he k heo) (I.hok.write mu he k heo new)
/-- forgetting slots, pins -/
theorem Inv.weak {σ' : List (Option V)} (I : Inv X pins σ H s) (hl : σ'.length = σ.length) (w : ∀ (i : Nat) v, σ'[i]? = some (some v) → σ[i]? = some (some v)) : Inv X pins σ' H s :=
  ⟨I.ok, I.os, I.bare, I.base, let ⟨m, hn, hl'⟩ := I.loc; ⟨m, hn, fun i x v e1 e2 e3 => hl' i x v e1 (w i v e2) e3⟩, I.cell, I.free, I.freeC, I.pin, I.hok, hl.trans I.len⟩
theorem Inv.pins_of {pins' : List (Addr × Obj)} (I : Inv X pins σ H s) (h : ∀ p ∈ pins', s.heap.get? p.1 = some p.2 ∧ H p.1 = none ∧ p.1 ≠ X.env.locals ∧ p.1 ∉ X.fs ∧ ∀ v, p.2.data ≠ .cell v) : Inv X pins' σ H s :=
  ⟨I.ok, I.os, I.bare, I.base, I.loc, I.cell, I.free, I.freeC, fun p hp => (List.mem_append.mp hp).elim (fun z => I.pin p (List.mem_append_left _ z)) (h p), I.hok, I.len⟩

theorem nodup_ix {N : List Str} (hN : N.Nodup) {i j : Nat} {x : Str} (a : N[i]? = some x) (b : N[j]? = some x) : i = j := by
  obtain ⟨h1, e1⟩ := List.getElem?_eq_some_iff.mp a
  obtain ⟨h2, e2⟩ := List.getElem?_eq_some_iff.mp b
  exact (List.getElem_inj hN).mp (e1.trans e2.symm)

/-- a name is stored; what changed -/
theorem store_ok2 {M : Model} {A : Around} {E : Value → Shared → Prop} {i : Nat} {x : Str} {v : V} {u : Value} {Q : Unit → Shared → Prop} (I : Inv X pins σ H s) (hN : X.N.Nodup) (hi : X.N[i]? = some x) (hx : Loc X.env.scope x) (r : RelV v u)
    (h : ∀ s', Inv X pins (σ.set i (some v)) H s' → (∃ a, Heap.SameBut a s.heap s'.heap ∧ (a = X.env.locals ∨ X.env.cells.lookup x = some a)) → Q () s') (hf : X.fn x = true ∨ X.env.scope.names.lookup x = some .local := by first | exact .inl rfl | exact .inr rfl | assumption) : wpAny M A (storeName X.env x u) Q E s := by
  obtain ⟨m, hn, hl⟩ := id I.loc
  have hcls : (X.env.scope.kind == .class || (X.env.scope.kind == .module && X.env.locals != X.env.globals)) = false := by rw [I.ok.kind]; rfl
  have hiσ : i < σ.length := by rw [I.len]; exact (List.getElem?_eq_some_iff.mp hi).1
  have cne := I.cne
  have tracked : ∀ {a : Addr} {h' : Heap}, (∃ o, s.heap.get? a = some o ∧ H a = none) → Heap.SameBut a s.heap h' → HOk X.prog X.w H h' := fun {a h'} ha hs b ob e => by
    obtain ⟨_, _, hfree⟩ := ha
    refine (I.hok b ob e).stay (fun c w' hc q => (hs.2 c ?_).trans q) (fun _ q => q) fun _ _ q => q
    rintro rfl
    rcases hc with rfl | hc
    · rw [hfree] at e; cases e
    · rw [hfree] at hc; cases hc
  rcases hx with hk | hk
  · refine wpAny_storeName_local hk hn (fun h' hn' hs => ?_) hcls
    obtain ⟨oL, _, _, hoL, _⟩ := id hn
    refine h _ ⟨I.ok, I.os, I.bare, ⟨fun b o e n hb hx => ?_, fun b o e n hb hx => ?_, I.base.free, fun b o e hx => ?_, I.base.tups, I.base.frzs, I.base.tbls⟩, ⟨_, hn', fun j y v' e1 e2 e3 => ?_⟩, fun y c e => ?_, I.free, I.freeC, fun p hp => ?_, tracked ⟨oL, hoL, I.free⟩ hs, by simpa using I.len⟩ ⟨_, hs, .inl rfl⟩
    · exact (hs.2 b (Nat.ne_of_lt (Nat.lt_of_lt_of_le (Heap.lt_size e) I.ok.above))).trans (I.base.keep b o e n hb hx)
    · obtain ⟨sl, e1⟩ := I.base.slot b o e n hb hx
      exact ⟨sl, (hs.2 b (Nat.ne_of_lt (Nat.lt_of_lt_of_le (Heap.lt_size e) I.ok.above))).trans e1⟩
    · obtain ⟨o', e1⟩ := I.base.there b o e hx
      exact ⟨o', (hs.2 b (Nat.ne_of_lt (Nat.lt_of_lt_of_le (Heap.lt_size e) I.ok.above))).trans e1⟩
    · by_cases hj : j = i
      · subst hj
        rw [hi] at e1; cases e1
        rw [List.getElem?_set_self hiσ] at e2
        cases e2
        exact ⟨u, r, .inl ⟨hk, by simp⟩⟩
      · rw [List.getElem?_set_ne (Ne.symm hj)] at e2
        obtain ⟨u', r', q⟩ := hl j y v' e1 e2 e3
        refine ⟨u', r', ?_⟩
        rcases q with ⟨k, e⟩ | ⟨k, c, e, z⟩
        · refine .inl ⟨k, ?_⟩
          have : y ≠ x := fun e => hj (nodup_ix hN e1 (e ▸ hi))
          simp [this, e]
        · exact .inr ⟨k, c, e, z.sameBut hs (cne y c e)⟩
    · obtain ⟨w', z⟩ := I.cell y c e
      exact ⟨w', z.sameBut hs (cne y c e)⟩
    · obtain ⟨e, n, ne, nf, d⟩ := I.pin p hp
      exact ⟨(hs.2 p.1 ne).trans e, n, ne, nf, d⟩
  · have hfn : X.fn x = true := by
      rcases hf with z | z
      · exact z
      · rw [z] at hk; cases hk
    obtain ⟨c, hc⟩ := I.ok.has x (.inl hk)
    obtain ⟨w', z⟩ := I.cell x c hc
    refine wpAny_storeName_cell I.ok.kind hk hc z (fun h' hc' hs => ?_)
    obtain ⟨oc, hoc, hocd⟩ := id z
    refine h { s with heap := h' } ⟨I.ok, I.os, I.bare, ⟨fun b o e n hb hx => ?_, fun b o e n hb hx => ?_, I.base.free, fun b o e hx => ?_, I.base.tups, I.base.frzs, I.base.tbls⟩, ⟨m, hn.sameBut hs (Ne.symm (cne x c hc)), fun j y v' e1 e2 e3 => ?_⟩, fun y c' e => ?_, I.free, I.freeC, fun p hp => ?_, tracked ⟨oc, hoc, I.freeC x c hc⟩ hs, by simpa using I.len⟩ ⟨c, hs, .inr hc⟩
    · exact (hs.2 b (Nat.ne_of_lt (Nat.lt_of_lt_of_le (Heap.lt_size e) (I.ok.cab x c hfn hc)))).trans (I.base.keep b o e n hb hx)
    · obtain ⟨sl, e1⟩ := I.base.slot b o e n hb hx
      exact ⟨sl, (hs.2 b (Nat.ne_of_lt (Nat.lt_of_lt_of_le (Heap.lt_size e) (I.ok.cab x c hfn hc)))).trans e1⟩
    · obtain ⟨o', e1⟩ := I.base.there b o e hx
      exact ⟨o', (hs.2 b (Nat.ne_of_lt (Nat.lt_of_lt_of_le (Heap.lt_size e) (I.ok.cab x c hfn hc)))).trans e1⟩
    · by_cases hj : j = i
      · subst hj
        rw [hi] at e1; cases e1
        rw [List.getElem?_set_self hiσ] at e2
        cases e2
        exact ⟨u, r, .inr ⟨.inl hk, c, hc, hc'⟩⟩
      · rw [List.getElem?_set_ne (Ne.symm hj)] at e2
        obtain ⟨u', r', q⟩ := hl j y v' e1 e2 e3
        refine ⟨u', r', ?_⟩
        rcases q with q | ⟨k, c', e, z'⟩
        · exact .inl q
        · refine .inr ⟨k, c', e, z'.sameBut hs ?_⟩
          rintro rfl
          exact hj (nodup_ix hN e1 (I.ok.inj _ _ _ e hc ▸ hi))
    · by_cases hcc : c' = c
      · subst hcc; exact ⟨_, hc'⟩
      · obtain ⟨w2, z2⟩ := I.cell y c' e
        exact ⟨w2, z2.sameBut hs hcc⟩
    · obtain ⟨e, n, ne, nf, d⟩ := I.pin p hp
      refine ⟨(hs.2 p.1 ?_).trans e, n, ne, nf, d⟩
      intro q
      rw [q, hoc] at e
      have q' : oc = p.2 := Option.some.inj e
      exact d w' (by rw [← q']; exact hocd)
theorem store_ok {M : Model} {A : Around} {E : Value → Shared → Prop} {i : Nat} {x : Str} {v : V} {u : Value} {Q : Unit → Shared → Prop} (I : Inv X pins σ H s) (hN : X.N.Nodup) (hi : X.N[i]? = some x) (hx : Loc X.env.scope x) (r : RelV v u)
    (h : ∀ s', Inv X pins (σ.set i (some v)) H s' → Q () s') (hf : X.fn x = true ∨ X.env.scope.names.lookup x = some .local := by first | exact .inl rfl | exact .inr rfl | assumption) : wpAny M A (storeName X.env x u) Q E s :=
  store_ok2 I hN hi hx r (fun s' I' _ => h s' I') hf
/-- behind a call or a block, the state as it is -/
theorem Inv.call' {s' : Shared} {ch : List Addr} (I : Inv X pins σ H s) (ho : s'.os = s.os) (u : Un (frs X.stack) ch H H' s.heap s'.heap) (hok : HOk X.prog X.w H' s'.heap) (hg : AllBare s'.gens)
    (hch : ∀ b ∈ ch, (b ∈ X.ex ∨ X.s₀.heap.objs.size ≤ b) ∧ b ≠ X.env.locals ∧ (∀ x c, X.env.cells.lookup x = some c → c ≠ b) ∧ ∀ p ∈ X.pn ++ pins, p.1 ≠ b) : Inv X pins σ H' s' := by
  obtain ⟨h', g', d', t', o'⟩ := s'
  have e : o' = s.os := ho
  subst e
  exact I.call (g' := g') (t' := t') (d' := d') u hok hg hch
end

/-! ### the judgements -/
/-- an exception: its class, its own dict's address (where it has one), the abstract heap behind it -/
abbrev XK := Value → Option Addr → Hp → Prop
abbrev St := List (Option V)
abbrev VK := V → Hp → Prop
/-- an expression's reading; a test's; an argument list's -/
abbrev TE := St → Hp → VK → Prop
abbrev TT := St → Hp → (Bool → Hp → Prop) → Prop
abbrev TA := St → Hp → (List V → Hp → Prop) → Prop
/-- what is wanted behind a statement -/
structure Ends where
  nx : St → Hp → Prop
  rt : VK
  bk : St → Hp → Prop := fun _ _ => False
  ct : St → Hp → Prop := fun _ _ => False
abbrev TS := Ends → St → Hp → Prop

def EP (X : Cx) (pins : List (Addr × Obj)) (σ : St) (Q : VK) (u : Value) (s' : Shared) : Prop := ∃ v H', Inv X pins σ H' s' ∧ RelV v u ∧ Q v H'
def TP (X : Cx) (pins : List (Addr × Obj)) (σ : St) (Q : Bool → Hp → Prop) (b : Bool) (s' : Shared) : Prop := ∃ H', Inv X pins σ H' s' ∧ Q b H'
def AP (X : Cx) (pins : List (Addr × Obj)) (σ : St) (Q : List V → Hp → Prop) (us : List Value) (s' : Shared) : Prop := ∃ vs H', Inv X pins σ H' s' ∧ Vals vs us ∧ Q vs H'
def SP (X : Cx) (pins : List (Addr × Obj)) (D : Ends) (f : Flow) (s' : Shared) : Prop :=
  match f with
  | .next => ∃ σ' H', Inv X pins σ' H' s' ∧ D.nx σ' H'
  | .brk => ∃ σ' H', Inv X pins σ' H' s' ∧ D.bk σ' H'
  | .cont => ∃ σ' H', Inv X pins σ' H' s' ∧ D.ct σ' H'
  | .ret u => ∃ v σ' H', Inv X pins σ' H' s' ∧ RelV v u ∧ D.rt v H'

def PE (X : Cx) (e : Expr) (t : TE) : Prop :=
  ∀ (pins : List (Addr × Obj)) (s : Shared) (σ : St) (H : Hp) (Q : VK), Inv X pins σ H s → t σ H Q → wpAny (model X.prog X.w) X.A (eval e X.env) (EP X pins σ Q) X.xe s
def PT (X : Cx) (e : Expr) (t : TT) : Prop :=
  ∀ (pins : List (Addr × Obj)) (s : Shared) (σ : St) (H : Hp) (Q : Bool → Hp → Prop), Inv X pins σ H s → t σ H Q → wpAny (model X.prog X.w) X.A (isTrue e X.env (eval e X.env)) (TP X pins σ Q) X.xe s
/-- a test whatever its 'whole' is (and, or) -/
def PW (X : Cx) (e : Expr) (t : TT) : Prop :=
  ∀ (whole : Sem Value) (pins : List (Addr × Obj)) (s : Shared) (σ : St) (H : Hp) (Q : Bool → Hp → Prop), Inv X pins σ H s → t σ H Q → wpAny (model X.prog X.w) X.A (isTrue e X.env whole) (TP X pins σ Q) X.xe s
theorem PW.pt {X : Cx} {e : Expr} {t : TT} (h : PW X e t) : PT X e t := h _
/-- an argument list (no star), from the left -/
def PA (X : Cx) (es : List Expr) (t : TA) : Prop :=
  ∀ (pos : Pos) (pins : List (Addr × Obj)) (s : Shared) (σ : St) (H : Hp) (Q : List V → Hp → Prop), Inv X pins σ H s → t σ H Q → wpAny (model X.prog X.w) X.A (spliced (backTo pos (starEach es X.env))) (AP X pins σ Q) X.xe s
def PS (X : Cx) (st : Stmt) (t : TS) : Prop :=
  ∀ (pins : List (Addr × Obj)) (s : Shared) (σ : St) (H : Hp) (D : Ends), Inv X pins σ H s → t D σ H → wpAny (model X.prog X.w) X.A (exec st X.env) (SP X pins D) X.xe s
def PSs (X : Cx) (st : List Stmt) (t : TS) : Prop :=
  ∀ (pins : List (Addr × Obj)) (s : Shared) (σ : St) (H : Hp) (D : Ends), Inv X pins σ H s → t D σ H → wpAny (model X.prog X.w) X.A (execs st X.env) (SP X pins D) X.xe s
/-- weaken the end -/
theorem thn {α : Type} {t : Sem α} {Q Q' : α → Shared → Prop} {M : Model} {A : Around} {E : Value → Shared → Prop} {s : Shared} (h : wpAny M A t Q E s) (hQ : ∀ a s, Q a s → Q' a s) : wpAny M A t Q' E s := wpAny_mono h hQ fun _ _ x => x
end L2

namespace L2
open PySem PySem.Spec PyProof.Rows
section
variable {X : Cx}

/-- two expressions in a row -/
theorem bin {a b : Expr} {ta tb : TE} (ha : PE X a ta) (hb : PE X b tb) {pins : List (Addr × Obj)} {s : Shared} {σ : St} {H : Hp} {R : V → V → Hp → Prop} (I : Inv X pins σ H s) (h : ta σ H fun x H1 => tb σ H1 fun y H2 => R x y H2)
    {α : Type} {Q : α → Shared → Prop} {f : Value → Value → Sem α}
    (hf : ∀ v u s2 x y H2, Inv X pins σ H2 s2 → RelV x v → RelV y u → R x y H2 → wpAny (model X.prog X.w) X.A (f v u) Q X.xe s2) :
    wpAny (model X.prog X.w) X.A (eval a X.env) (fun v s₁ => wpAny (model X.prog X.w) X.A (eval b X.env) (fun u s₂ => wpAny (model X.prog X.w) X.A (f v u) Q X.xe s₂) X.xe s₁) X.xe s := by
  refine thn (ha pins s σ H _ I h) fun v s1 ⟨x, H1, I1, r1, q1⟩ => ?_
  refine thn (hb pins s1 σ H1 _ I1 q1) fun u s2 ⟨y, H2, I2, r2, q2⟩ => ?_
  exact hf v u s2 x y H2 I2 r1 r2 q2

/-! ### names and constants -/
def tVar (i : Nat) : TE := fun σ H Q => ∃ v, σ[i]? = some (some v) ∧ Q v H
def tC (v : V) : TE := fun _ H Q => Q v H
theorem pe_var {i : Nat} {x : Str} {pos : Pos} (hN : X.N[i]? = some x) (hv : Vis X.env.scope x) (hd : (x == ("__debug__" : Str)) = false := by decide) (hcd : (x == ("__classdict__" : Str)) = false := by decide) : PE X (.Name x pos) (tVar i) := by
  intro pins s σ H Q I h
  obtain ⟨v, e, h⟩ := h
  obtain ⟨m, hn, hl⟩ := I.loc
  obtain ⟨u, r, l⟩ := hl i x v hN e hv
  have fin : EP X pins σ Q u s := ⟨v, H, I, r, h⟩
  rcases l with ⟨hk, hm⟩ | ⟨hk, c, hc, hcell⟩
  · exact wpAny_Name (wpAny_loadName_local I.ok.kind hk hn hm fin) hd
  · rcases hk with hk | hk
    · exact wpAny_Name (wpAny_loadName_cell I.ok.kind hk hc hcell fin) hd
    · exact wpAny_Name (wpAny_loadName_free I.ok.kind hk hc hcell fin hcd) hd
theorem pe_int {i j pos} : PE X (.Constant (.int i) j pos) (tC (.int i)) := fun _ _ _ H _ I h => wpAny_Constant_int ⟨.int i, H, I.tok _, ⟨_, rfl⟩, h⟩
theorem pe_bl {b j pos} : PE X (.Constant (.bool b) j pos) (tC (.bl b)) := fun _ _ _ H _ I h => Constant_bool ⟨.bl b, H, I, rfl, h⟩
theorem pe_non {j pos} : PE X (.Constant .none j pos) (tC .non) := fun _ _ _ H _ I h => Constant_none ⟨.non, H, I, rfl, h⟩
theorem pe_str {x j pos} : PE X (.Constant (.str x) j pos) (tC (.str x)) := fun _ _ _ H _ I h => Calls.Constant_str ⟨.str x, H, I.tok _, ⟨_, rfl⟩, h⟩

/-- a global name of the def -/
def Gl (X : Cx) (x : Str) : Prop := X.env.kindOf x = some .globalImplicit
theorem ld_glob {E : Value → Shared → Prop} {pins : List (Addr × Obj)} {s : Shared} {σ : St} {H : Hp} {x : Str} {u : Value} {pos : Pos} {Q : Value → Shared → Prop} (I : Inv X pins σ H s) (hg : Gl X x) (hm : X.mg x = some u) (h : Q u s)
    (hd : (x == ("__debug__" : Str)) = false := by decide) : wpAny (model X.prog X.w) X.A (eval (.Name x pos) X.env) Q E s :=
  Calls.Name_function_global I.ok.kind hg (Calls.loadGlobal_global (by rw [I.ok.glob]; exact I.mod.glob.keeps I.bk) hm h) hd
theorem ld_blt {E : Value → Shared → Prop} {pins : List (Addr × Obj)} {s : Shared} {σ : St} {H : Hp} {x : Str} {u : Value} {pos : Pos} {Q : Value → Shared → Prop} (I : Inv X pins σ H s) (hg : Gl X x) (hm : X.mg x = none) (hv : bootBuiltins x = some u) (h : Q u s)
    (hn : x ≠ "__name__" := by decide) (hd : (x == ("__debug__" : Str)) = false := by decide) : wpAny (model X.prog X.w) X.A (eval (.Name x pos) X.env) Q E s := by
  obtain ⟨mb, h1, h2⟩ := I.mod.blt
  exact Calls.Name_function_global I.ok.kind hg (Calls.loadGlobal_builtin (by rw [I.ok.glob]; exact I.mod.glob.keeps I.bk) hm (by rw [I.ok.blt]; exact h1.keeps I.bk) ((h2 x hn).trans hv) h) hd
/-- a module's constant, a class, a function, as a value -/
theorem pe_glob {x : Str} {v : V} {u : Value} {pos : Pos} (hg : Gl X x) (hm : X.mg x = some u) (r : RelV v u) (hd : (x == ("__debug__" : Str)) = false := by decide) : PE X (.Name x pos) (tC v) :=
  fun _ _ _ H _ I h => ld_glob I hg hm ⟨v, H, I, r, h⟩ hd
theorem pe_bltn {x : Str} {v : V} {u : Value} {pos : Pos} (hg : Gl X x) (hm : X.mg x = none) (hv : bootBuiltins x = some u) (r : RelV v u) (hn : x ≠ "__name__" := by decide) (hd : (x == ("__debug__" : Str)) = false := by decide) : PE X (.Name x pos) (tC v) :=
  fun _ _ _ H _ I h => ld_blt I hg hm hv ⟨v, H, I, r, h⟩ hn hd

/-! ### arithmetic -/
/-- two ints -/
def t2I (ta tb : TE) (k : Int → Int → Hp → Prop) : St → Hp → Prop := fun σ H => ta σ H fun x H1 => tb σ H1 fun y H2 => ∃ i j, x = .int i ∧ y = .int j ∧ k i j H2
def tAdd (ta tb : TE) : TE := fun σ H Q => t2I ta tb (fun i j H2 => Q (.int (i + j)) H2) σ H
def tSub (ta tb : TE) : TE := fun σ H Q => t2I ta tb (fun i j H2 => Q (.int (i - j)) H2) σ H
/-- the left factor below 2^64 -/
def tMul (ta tb : TE) : TE := fun σ H Q => t2I ta tb (fun i j H2 => (-(2 ^ 64) < i ∧ i < 2 ^ 64) ∧ Q (.int (i * j)) H2) σ H
variable {a b : Expr} {ta tb : TE} {pos : Pos}
theorem pe_add (ha : PE X a ta) (hb : PE X b tb) : PE X (.BinOp a .Add b pos) (tAdd ta tb) := by
  intro pins s σ H Q I h
  refine wpAny_BinOp (bin ha hb I h fun v u s2 x y H2 I2 rx ry q => ?_)
  obtain ⟨i, j, rfl, rfl, q⟩ := q
  obtain ⟨t, rfl⟩ := rx
  obtain ⟨t', rfl⟩ := ry
  exact add_int ⟨.int _, H2, I2.tok _, ⟨_, rfl⟩, q⟩
theorem pe_sub (ha : PE X a ta) (hb : PE X b tb) : PE X (.BinOp a .Sub b pos) (tSub ta tb) := by
  intro pins s σ H Q I h
  refine wpAny_BinOp (bin ha hb I h fun v u s2 x y H2 I2 rx ry q => ?_)
  obtain ⟨i, j, rfl, rfl, q⟩ := q
  obtain ⟨t, rfl⟩ := rx
  obtain ⟨t', rfl⟩ := ry
  exact sub_int ⟨.int _, H2, I2.tok _, ⟨_, rfl⟩, q⟩
theorem pe_mul (ha : PE X a ta) (hb : PE X b tb) : PE X (.BinOp a .Mult b pos) (tMul ta tb) := by
  intro pins s σ H Q I h
  refine wpAny_BinOp (bin ha hb I h fun v u s2 x y H2 I2 rx ry q => ?_)
  obtain ⟨i, j, rfl, rfl, ⟨q1, q2⟩, q⟩ := q
  obtain ⟨t, rfl⟩ := rx
  obtain ⟨t', rfl⟩ := ry
  exact mul_int ⟨.int _, H2, I2.tok _, ⟨_, rfl⟩, q⟩ (.of_left (intBits_le_64 q1 q2))

/-! ### comparisons -/
def PC (X : Cx) (op : CmpOp) (a b : Expr) (t : TE) : Prop :=
  ∀ (pins : List (Addr × Obj)) (s : Shared) (σ : St) (H : Hp) (Q : VK), Inv X pins σ H s → t σ H Q →
    wpAny (model X.prog X.w) X.A (eval a X.env) (fun v s₁ => wpAny (model X.prog X.w) X.A (eval b X.env) (fun u s₂ => wpAny (model X.prog X.w) X.A (compareOp op v u) (EP X pins σ Q) X.xe s₂) X.xe s₁) X.xe s
theorem nobehind (b : Expr) {op : CmpOp} (h : op ≠ .In) (h2 : op ≠ .NotIn) : behindInMarks op b = false := by
  have e1 : (op == CmpOp.In) = false := by cases op <;> first | rfl | exact absurd rfl h
  have e2 : (op == CmpOp.NotIn) = false := by cases op <;> first | rfl | exact absurd rfl h2
  cases b <;> simp [behindInMarks, e1, e2]
def tCmp (p : Int → Int → Bool) (ta tb : TE) : TE := fun σ H Q => t2I ta tb (fun i j H2 => Q (.bl (p i j)) H2) σ H
abbrev tLt : TE → TE → TE := tCmp fun i j => decide (i < j)
abbrev tLe : TE → TE → TE := tCmp fun i j => decide (i ≤ j)
abbrev tGt : TE → TE → TE := tCmp fun i j => decide (j < i)
abbrev tGe : TE → TE → TE := tCmp fun i j => decide (j ≤ i)
abbrev tEqI : TE → TE → TE := tCmp fun i j => decide (i = j)
abbrev tNeI : TE → TE → TE := tCmp fun i j => !decide (i = j)
/-- a comparison of two ints, by its rule -/
theorem pc_int {op : CmpOp} {p : Int → Int → Bool} (ha : PE X a ta) (hb : PE X b tb)
    (rule : ∀ (i j : Int) (t u : Tok) (Q : Value → Shared → Prop) (s : Shared), Q (.bool (p i j)) s → wpAny (model X.prog X.w) X.A (compareOp op (.int i t) (.int j u)) Q X.xe s) : PC X op a b (tCmp p ta tb) := by
  intro pins s σ H Q I h
  refine bin ha hb I h fun v u s2 x y H2 I2 rx ry q => ?_
  obtain ⟨i, j, rfl, rfl, q⟩ := q
  obtain ⟨t, rfl⟩ := rx
  obtain ⟨t', rfl⟩ := ry
  exact rule i j t t' _ s2 ⟨.bl _, H2, I2, rfl, q⟩
theorem pc_lt (ha : PE X a ta) (hb : PE X b tb) : PC X .Lt a b (tLt ta tb) := pc_int ha hb fun _ _ _ _ _ _ h => lt_int h
theorem pc_le (ha : PE X a ta) (hb : PE X b tb) : PC X .LtE a b (tLe ta tb) := pc_int ha hb fun _ _ _ _ _ _ h => le_int h
theorem pc_gt (ha : PE X a ta) (hb : PE X b tb) : PC X .Gt a b (tGt ta tb) := pc_int ha hb fun _ _ _ _ _ _ h => gt_int h
theorem pc_ge (ha : PE X a ta) (hb : PE X b tb) : PC X .GtE a b (tGe ta tb) := pc_int ha hb fun _ _ _ _ _ _ h => ge_int h
theorem pc_eqI (ha : PE X a ta) (hb : PE X b tb) : PC X .Eq a b (tEqI ta tb) := pc_int ha hb fun _ _ _ _ _ _ h => eq_int (by rw [Bool.beq_eq_decide_eq]; exact h)
theorem pc_neI (ha : PE X a ta) (hb : PE X b tb) : PC X .NotEq a b (tNeI ta tb) := pc_int ha hb fun _ _ _ _ _ _ h => ne_int (by rw [bne, Bool.beq_eq_decide_eq]; exact h)
/-- is None -/
def tIsN (ta : TE) : TE := fun σ H Q => ta σ H fun x H1 => Q (.bl (decide (x = .non))) H1
def tNotN (ta : TE) : TE := fun σ H Q => ta σ H fun x H1 => Q (.bl (!decide (x = .non))) H1
theorem RelV.none_iff {x : V} {v : Value} (r : RelV x v) : (v == Value.none) = decide (x = .non) := by
  cases x with
  | non => cases r; rfl
  | bl _ => cases r; rfl
  | int _ => obtain ⟨t, rfl⟩ := r; rfl
  | str _ => obtain ⟨t, rfl⟩ := r; rfl
  | byt _ => obtain ⟨t, rfl⟩ := r; rfl
  | flt _ => obtain ⟨t, rfl⟩ := r; rfl
  | ref _ => cases r; rfl
  | ty _ => cases r; rfl
theorem pc_isN {j pos'} (ha : PE X a ta) : PC X .Is a (.Constant .none j pos') (tIsN ta) := by
  intro pins s σ H Q I h
  refine thn (ha pins s σ H _ I h) fun v s1 ⟨x, H1, I1, r1, q1⟩ => ?_
  exact Constant_none (is_none_gen ⟨.bl _, H1, I1, by rw [r1.none_iff]; rfl, q1⟩)
theorem pc_notN {j pos'} (ha : PE X a ta) : PC X .IsNot a (.Constant .none j pos') (tNotN ta) := by
  intro pins s σ H Q I h
  refine thn (ha pins s σ H _ I h) fun v s1 ⟨x, H1, I1, r1, q1⟩ => ?_
  exact Constant_none (isnot_none_gen ⟨.bl _, H1, I1, by rw [r1.none_iff]; rfl, q1⟩)
/-- a comparison as a value, as a test -/
def tB (t : TE) : TT := fun σ H Q => t σ H fun x H1 => ∃ c, x = .bl c ∧ Q c H1
theorem pe_cmp {op : CmpOp} {t : TE} (h : PC X op a b t) (h1 : behindInMarks op b = false := by first | exact nobehind _ (by decide) (by decide) | rfl) : PE X (.Compare a [op] [b] pos) t := fun pins s σ H Q I hw => wpAny_Compare1 (h pins s σ H Q I hw) h1
theorem pt_cmp {op : CmpOp} {t : TE} (h : PC X op a b t) (h1 : behindInMarks op b = false := by first | exact nobehind _ (by decide) (by decide) | rfl) : PT X (.Compare a [op] [b] pos) (tB t) := by
  intro pins s σ H Q I hw
  refine wpAny_isTrue_Compare1 (thn (h pins s σ H _ I hw) fun v s1 h1 => thn h1 fun u s2 h2 => thn h2 fun c s3 ⟨x, H1, I1, r1, q1⟩ => ?_) h1
  obtain ⟨d, rfl, q⟩ := q1
  cases r1
  exact wpAny_truthy_bool ⟨H1, I1, q⟩
/-- an expression whose value is a bool, as a test -/
theorem pt_val {e : Expr} {t : TE} (h : PE X e t) (he : ∀ whole, isTrue e X.env whole = (do let v ← whole; standAt e.pos; holding [v] (truthy v)) := by intro _; rfl) : PT X e (tB t) := by
  intro pins s σ H Q I hw
  refine isTrue_plain (thn (h pins s σ H _ I hw) fun v s1 ⟨x, H1, I1, r1, q1⟩ => ?_) (he _)
  obtain ⟨d, rfl, q⟩ := q1
  cases r1
  exact wpAny_truthy_bool ⟨H1, I1, q⟩

/-! ### and, or, not -/
variable {tA tB' : TT} {rest : List Expr}
def tAnd (t u : TT) : TT := fun σ H Q => t σ H fun c H1 => if c = true then u σ H1 Q else Q false H1
def tOr (t u : TT) : TT := fun σ H Q => t σ H fun c H1 => if c = true then Q true H1 else u σ H1 Q
def tNot (t : TT) : TT := fun σ H Q => t σ H fun c H1 => Q (!c) H1
theorem pw_and1 (ha : PT X a tA) : PW X (.BoolOp .And [a] pos) tA := by
  intro wh pins s σ H Q I h
  refine isTrue_and (thn (ha pins s σ H Q I h) fun c s1 e => ?_)
  cases c with
  | true => exact isTrue_and_nil e
  | false => exact e
theorem pw_or1 (ha : PT X a tA) : PW X (.BoolOp .Or [a] pos) tA := by
  intro wh pins s σ H Q I h
  refine isTrue_or (thn (ha pins s σ H Q I h) fun c s1 e => ?_)
  cases c with
  | false => exact isTrue_or_nil e
  | true => exact e
theorem pw_and (ha : PT X a tA) (hb : PW X (.BoolOp .And (b :: rest) pos) tB') : PW X (.BoolOp .And (a :: b :: rest) pos) (tAnd tA tB') := by
  intro wh pins s σ H Q I h
  refine isTrue_and (thn (ha pins s σ H _ I h) fun c s1 ⟨H1, I1, q1⟩ => ?_)
  cases c with
  | true => exact hb wh pins s1 σ H1 Q I1 q1
  | false => exact ⟨H1, I1, q1⟩
theorem pw_or (ha : PT X a tA) (hb : PW X (.BoolOp .Or (b :: rest) pos) tB') : PW X (.BoolOp .Or (a :: b :: rest) pos) (tOr tA tB') := by
  intro wh pins s σ H Q I h
  refine isTrue_or (thn (ha pins s σ H _ I h) fun c s1 ⟨H1, I1, q1⟩ => ?_)
  cases c with
  | true => exact ⟨H1, I1, q1⟩
  | false => exact hb wh pins s1 σ H1 Q I1 q1
theorem pt_not (ha : PT X a tA) : PT X (.UnaryOp .Not a pos) (tNot tA) := by
  intro pins s σ H Q I h
  exact isTrue_not (ha pins s σ H (fun c H1 => Q (!c) H1) I h)
/-- .. as values (bools) -/
def tAndV (ta tb : TE) : TE := fun σ H Q => ta σ H fun x H1 => ∃ c, x = .bl c ∧ if c = true then tb σ H1 Q else Q (.bl false) H1
def tOrV (ta tb : TE) : TE := fun σ H Q => ta σ H fun x H1 => ∃ c, x = .bl c ∧ if c = true then Q (.bl true) H1 else tb σ H1 Q
def tNotV (ta : TE) : TE := fun σ H Q => ta σ H fun x H1 => ∃ c, x = .bl c ∧ Q (.bl (!c)) H1
theorem pe_one {op} {t : TE} (h : PE X a t) : PE X (.BoolOp op [a] pos) t := fun pins s σ H Q I hw => BoolOp_one (h pins s σ H Q I hw)
theorem pe_and (ha : PE X a ta) (hb : PE X (.BoolOp .And (b :: rest) pos) tb) : PE X (.BoolOp .And (a :: b :: rest) pos) (tAndV ta tb) := by
  intro pins s σ H Q I h
  refine BoolOp_and (thn (ha pins s σ H _ I h) fun v s1 ⟨x, H1, I1, r1, q1⟩ => ?_)
  obtain ⟨c, rfl, q1⟩ := q1
  cases r1
  refine wpAny_truthy_bool ?_
  cases c with
  | true => exact hb pins s1 σ H1 Q I1 q1
  | false => exact ⟨.bl false, H1, I1, rfl, q1⟩
theorem pe_or (ha : PE X a ta) (hb : PE X (.BoolOp .Or (b :: rest) pos) tb) : PE X (.BoolOp .Or (a :: b :: rest) pos) (tOrV ta tb) := by
  intro pins s σ H Q I h
  refine BoolOp_or (thn (ha pins s σ H _ I h) fun v s1 ⟨x, H1, I1, r1, q1⟩ => ?_)
  obtain ⟨c, rfl, q1⟩ := q1
  cases r1
  refine wpAny_truthy_bool ?_
  cases c with
  | false => exact hb pins s1 σ H1 Q I1 q1
  | true => exact ⟨.bl true, H1, I1, rfl, q1⟩
theorem pe_not (ha : PE X a ta) : PE X (.UnaryOp .Not a pos) (tNotV ta) := by
  intro pins s σ H Q I h
  refine UnaryOp_ (thn (ha pins s σ H _ I h) fun v s1 ⟨x, H1, I1, r1, q1⟩ => ?_)
  obtain ⟨c, rfl, q1⟩ := q1
  cases r1
  exact not_of (wpAny_truthy_bool ⟨.bl (!c), H1, I1, rfl, q1⟩)
/-- a if t else b -/
def tIf (t : TT) (ta tb : TE) : TE := fun σ H Q => t σ H fun c H1 => if c = true then ta σ H1 Q else tb σ H1 Q
theorem pe_ifExp {c : Expr} (hc : PT X c tA) (ha : PE X a ta) (hb : PE X b tb) : PE X (.IfExp c a b pos) (tIf tA ta tb) := by
  intro pins s σ H Q I h
  refine wpAny_IfExp (thn (hc pins s σ H _ I h) fun d s1 ⟨H1, I1, q1⟩ => ?_)
  cases d with
  | true => exact ha pins s1 σ H1 Q I1 q1
  | false => exact hb pins s1 σ H1 Q I1 q1
end
end L2

namespace L2
open PySem PySem.Spec PyProof.Rows

/-! ### a list, a tuple that is read: tracked, frozen, or an object of the module -/
def SqL (K : PySem.W.Frag) (H : Hp) (a : Addr) (xs : List V) : Prop :=
  Rd H a (.lst xs) ∨
    ∃ (o : Obj) (its : Array Value) (n : Nat), K.lookup a = some o ∧ o.cls = .type "list" ∧ o.dict = none ∧ o.data = .seq its n ∧ its.size ≤ sizeLine ∧ Vals xs its.toList
def SqT (K : PySem.W.Frag) (H : Hp) (a : Addr) (xs : List V) : Prop :=
  Rd H a (.tup xs) ∨
    ∃ (o : Obj) (its : Array Value) (n : Nat), K.lookup a = some o ∧ o.cls = .type "tuple" ∧ o.data = .seq its n ∧ its.size ≤ sizeLine ∧ Vals xs its.toList
def absV : Value → Option V
  | .none => some .non
  | .bool b => some (.bl b)
  | .int i _ => some (.int i)
  | .str x _ => some (.str x)
  | .bytes b _ => some (.byt b)
  | .float b _ => some (.flt b)
  | .ref a => some (.ref a)
  | .type n => some (.ty n)
  | _ => none
theorem RelV.abs {x : V} {u : Value} (r : RelV x u) : absV u = some x := by
  cases x with
  | non => cases r; rfl
  | bl _ => cases r; rfl
  | int _ => obtain ⟨t, rfl⟩ := r; rfl
  | str _ => obtain ⟨t, rfl⟩ := r; rfl
  | byt _ => obtain ⟨t, rfl⟩ := r; rfl
  | flt _ => obtain ⟨t, rfl⟩ := r; rfl
  | ref _ => cases r; rfl
  | ty _ => cases r; rfl
theorem RelV.inj {x y : V} {u : Value} (r : RelV x u) (q : RelV y u) : x = y := Option.some.inj (r.abs.symm.trans q.abs)
theorem Vals.inj : ∀ {xs ys : List V} {us : List Value}, Vals xs us → Vals ys us → xs = ys
  | _, _, _, .nil, .nil => rfl
  | _, _, _, .cons r t, .cons r' t' => by rw [r.inj r', Vals.inj t t']
section
variable {X : Cx} {pins : List (Addr × Obj)} {σ : St} {H : Hp} {s : Shared} {a : Addr} {xs ys : List V}
theorem SqL.of {K : PySem.W.Frag} (h : H a = some (.lst xs)) : SqL K H a xs := .inl (.inl h)
theorem SqT.of {K : PySem.W.Frag} (h : H a = some (.tup xs)) : SqT K H a xs := .inl (.inl h)
theorem Inv.list (I : Inv X pins σ H s) (h : SqL X.K H a xs) : ∃ its : List Value, Vals xs its ∧ PlainL s.heap a its.toArray ∧ xs.length ≤ sizeLine := by
  rcases h with h | ⟨o, its, n, hk, hc, hd, hs, hz, r⟩
  · obtain ⟨z, its, n, r, e⟩ := h.ok I.hok
    exact ⟨its, r, ⟨_, n, e, rfl, rfl, rfl⟩, z⟩
  · refine ⟨its.toList, r, ⟨o, n, I.kIn a o hk, hc, hd, by simpa using hs⟩, ?_⟩
    have e := r.length
    simp only [Array.length_toList] at e
    omega
theorem Inv.tuple (I : Inv X pins σ H s) (h : SqT X.K H a xs) : ∃ its : List Value, Vals xs its ∧ IsTup s.heap a its.toArray ∧ xs.length ≤ sizeLine := by
  rcases h with h | ⟨o, its, n, hk, hc, hs, hz, r⟩
  · obtain ⟨z, its, r, p⟩ := h.ok I.hok
    exact ⟨its, r, p, z⟩
  · refine ⟨its.toList, r, ⟨o, I.kIn a o hk, hc, n, by simpa using hs⟩, ?_⟩
    have e := r.length
    simp only [Array.length_toList] at e
    omega
theorem Inv.list_inj (I : Inv X pins σ H s) (h : SqL X.K H a xs) (h' : SqL X.K H a ys) : xs = ys := by
  obtain ⟨its, r, ⟨o, n, e, _, _, d⟩, _⟩ := I.list h
  obtain ⟨its', r', ⟨o', n', e', _, _, d'⟩, _⟩ := I.list h'
  rw [e] at e'; cases e'
  rw [d] at d'
  injection d' with d1 _
  have : its = its' := by simpa using congrArg Array.toList d1
  subst this
  exact r.inj r'
theorem Inv.tuple_inj (I : Inv X pins σ H s) (h : SqT X.K H a xs) (h' : SqT X.K H a ys) : xs = ys := by
  obtain ⟨its, r, ⟨o, e, _, n, d⟩, _⟩ := I.tuple h
  obtain ⟨its', r', ⟨o', e', _, n', d'⟩, _⟩ := I.tuple h'
  rw [e] at e'; cases e'
  rw [d] at d'
  injection d' with d1 _
  have : its = its' := by simpa using congrArg Array.toList d1
  subst this
  exact r.inj r'
end

/-! ### another wish about exceptions -/
abbrev Cx.wish (X : Cx) (E : Value → Shared → Prop) : Cx := { X with xe := E }
/-- no exception leaves -/
abbrev Cx.nox (X : Cx) : Cx := X.wish fun _ _ => False
theorem Cx.Ok.wish {X : Cx} (ok : X.Ok) (E : Value → Shared → Prop) : (X.wish E).Ok :=
  ⟨ok.mod, ok.kind, ok.glob, ok.blt, ok.above, ok.inj, ok.has, ok.cab, ok.hd, ok.frames, ok.stk, ok.exf, ok.bs, ok.bsz, ok.noex, ok.exfs, ok.funs, ok.frf⟩
theorem Cx.Ok.unwish {X : Cx} {E : Value → Shared → Prop} (ok : (X.wish E).Ok) : X.Ok :=
  ⟨ok.mod, ok.kind, ok.glob, ok.blt, ok.above, ok.inj, ok.has, ok.cab, ok.hd, ok.frames, ok.stk, ok.exf, ok.bs, ok.bsz, ok.noex, ok.exfs, ok.funs, ok.frf⟩
section
variable {X : Cx} {pins : List (Addr × Obj)} {σ : St} {H : Hp} {s : Shared} {E : Value → Shared → Prop}
theorem Inv.wish (I : Inv X pins σ H s) (E : Value → Shared → Prop) : Inv (X.wish E) pins σ H s := ⟨I.ok.wish E, I.os, I.bare, I.base, I.loc, I.cell, I.free, I.freeC, I.pin, I.hok, I.len⟩
theorem Inv.unwish (I : Inv (X.wish E) pins σ H s) : Inv X pins σ H s := ⟨I.ok.unwish, I.os, I.bare, I.base, I.loc, I.cell, I.free, I.freeC, I.pin, I.hok, I.len⟩
theorem SP.unwish {D : Ends} {f : Flow} {s' : Shared} (h : SP (X.wish E) pins D f s') : SP X pins D f s' := by
  cases f with
  | next => obtain ⟨σ', H', I, q⟩ := h; exact ⟨σ', H', I.unwish, q⟩
  | brk => obtain ⟨σ', H', I, q⟩ := h; exact ⟨σ', H', I.unwish, q⟩
  | cont => obtain ⟨σ', H', I, q⟩ := h; exact ⟨σ', H', I.unwish, q⟩
  | ret u => obtain ⟨v, σ', H', I, r, q⟩ := h; exact ⟨v, σ', H', I.unwish, r, q⟩
theorem PE.nox {e : Expr} {t : TE} (h : PE X.nox e t) : PE X e t := fun pins s σ H Q I hw =>
  wpAny_mono (h pins s σ H Q (I.wish _) hw) (fun _ _ ⟨v, H', I', r, q⟩ => ⟨v, H', I'.unwish, r, q⟩) fun _ _ z => False.elim z
theorem PT.nox {e : Expr} {t : TT} (h : PT X.nox e t) : PT X e t := fun pins s σ H Q I hw =>
  wpAny_mono (h pins s σ H Q (I.wish _) hw) (fun _ _ ⟨H', I', q⟩ => ⟨H', I'.unwish, q⟩) fun _ _ z => False.elim z
theorem PSs.nox {st : List Stmt} {t : TS} (h : PSs X.nox st t) : PSs X st t := fun pins s σ H D I hw =>
  wpAny_mono (h pins s σ H D (I.wish _) hw) (fun _ _ q => q.unwish) fun _ _ z => False.elim z
end

/-! ### blocks and small statements -/
section
variable {X : Cx} {st : Stmt} {rest : List Stmt} {t u : TS} {e : Expr} {te : TE} {pos : Pos}
def tNext : TS := fun D σ H => D.nx σ H
def tSeq (t u : TS) : TS := fun D σ H => t { D with nx := u D } σ H
theorem pss_nil : PSs X [] tNext := fun _ _ σ H _ I h => wpAny_execs_nil ⟨σ, H, I, h⟩
theorem pss_cons (h1 : PS X st t) (h2 : PSs X rest u) : PSs X (st :: rest) (tSeq t u) := by
  intro pins s σ H D I h
  refine wpAny_execs_cons (thn (h1 pins s σ H { D with nx := u D } I h) fun f s1 q => ?_)
  cases f with
  | next =>
    obtain ⟨σ', H', I', q⟩ := q
    exact h2 pins s1 σ' H' D I' q
  | ret v => exact q
  | brk => exact q
  | cont => exact q
theorem pss_one (h1 : PS X st t) : PSs X [st] t := by
  intro pins s σ H D I h
  refine wpAny_execs_cons (thn (h1 pins s σ H D I h) fun f s1 q => ?_)
  cases f with
  | next => exact wpAny_execs_nil q
  | ret v => exact q
  | brk => exact q
  | cont => exact q
def tBreak : TS := fun D σ H => D.bk σ H
def tCont : TS := fun D σ H => D.ct σ H
theorem ps_pass : PS X (.Pass pos) tNext := fun _ _ σ H _ I h => wpAny_Pass ⟨σ, H, I, h⟩
theorem ps_break : PS X (.Break pos) tBreak := fun _ _ σ H _ I h => wpAny_Break ⟨σ, H, I, h⟩
theorem ps_continue : PS X (.Continue pos) tCont := fun _ _ σ H _ I h => wpAny_Continue ⟨σ, H, I, h⟩
/-- in a def's body nothing is shown -/
theorem Inv.quiet {pins : List (Addr × Obj)} {σ : St} {H : Hp} {s : Shared} (I : Inv X pins σ H s) : interactive X.env = false := by simp [interactive, I.ok.kind]
/-- a docstring -/
theorem ps_doc {x j pos pos'} : PS X (.Expr (.Constant (.str x) j pos) pos') tNext := fun _ s σ H _ I h => wpAny_Expr (Calls.Constant_str (show SP X _ _ .next { s with toks := s.toks + 1 } from ⟨σ, H, I.tok _, h⟩)) I.quiet
/-- an expression whose value is dropped -/
def tDrop (te : TE) : TS := fun D σ H => te σ H fun _ H1 => D.nx σ H1
theorem ps_expr (he : PE X e te) (hs : swapsWith e none pos.line X.env = pure false := by rfl) : PS X (.Expr e pos) (tDrop te) := by
  intro pins s σ H D I h
  exact wpAny_Expr_any (thn (he pins s σ H _ I h) fun v s1 ⟨x, H1, I1, r1, q1⟩ => ⟨σ, H1, I1, q1⟩) I.quiet hs
def tRet (te : TE) : TS := fun D σ H => te σ H D.rt
theorem ps_ret (he : PE X e te) : PS X (.Return (some e) pos) (tRet te) := by
  intro pins s σ H D I h
  exact wpAny_Return_some (thn (he pins s σ H _ I h) fun v s1 ⟨x, H1, I1, r1, q1⟩ => ⟨x, σ, H1, I1, r1, q1⟩)
def tRetN : TS := fun D _ H => D.rt .non H
theorem ps_retN : PS X (.Return none pos) tRetN := fun _ _ σ H _ I h => wpAny_Return_none ⟨.non, σ, H, I, rfl, h⟩
def tIfS (c : TT) (t u : TS) : TS := fun D σ H => c σ H fun b H1 => if b = true then t D σ H1 else u D σ H1
theorem ps_if {c : Expr} {a b : List Stmt} {tc : TT} (hc : PT X c tc) (ha : PSs X a t) (hb : PSs X b u) : PS X (.If c a b pos) (tIfS tc t u) := by
  intro pins s σ H D I h
  refine wpAny_If (thn (hc pins s σ H _ I h) fun d s1 ⟨H1, I1, q1⟩ => ?_)
  cases d with
  | true => exact ha pins s1 σ H1 D I1 q1
  | false => exact hb pins s1 σ H1 D I1 q1
/-- code that the proof never comes to -/
def tNever : TS := fun _ _ _ => False
theorem ps_never : PS X st tNever := fun _ _ _ _ _ _ h => h.elim
theorem pss_never {sts : List Stmt} : PSs X sts tNever := fun _ _ _ _ _ _ h => h.elim
end

/-! ### targets -/
abbrev TG := V → St → Hp → (St → Hp → Prop) → Prop
abbrev TGs := List V → St → Hp → (St → Hp → Prop) → Prop
def PG (X : Cx) (target : Expr) (t : TG) : Prop :=
  ∀ (pins : List (Addr × Obj)) (s : Shared) (σ : St) (H : Hp) (v : V) (u : Value) (Q : St → Hp → Prop), Inv X pins σ H s → RelV v u → t v σ H Q →
    wpAny (model X.prog X.w) X.A (assign target X.env u) (fun _ s' => ∃ σ' H', Inv X pins σ' H' s' ∧ Q σ' H') X.xe s
/-- several targets, one after another -/
def PGs (X : Cx) (ts : List Expr) (t : TGs) : Prop :=
  ∀ (pins : List (Addr × Obj)) (s : Shared) (σ : St) (H : Hp) (vs : List V) (us : List Value) (Q : St → Hp → Prop), Inv X pins σ H s → Vals vs us → t vs σ H Q →
    wpAny (model X.prog X.w) X.A (assignInOrder ((assignEach ts X.env).map (·.2)) us) (fun _ s' => ∃ σ' H', Inv X pins σ' H' s' ∧ Q σ' H') X.xe s
/-- o[i] = v, by values -/
abbrev TSet := V → V → V → Hp → (Hp → Prop) → Prop
def PSet (X : Cx) (t : TSet) : Prop :=
  ∀ (pins : List (Addr × Obj)) (s : Shared) (σ : St) (H : Hp) (o i v : V) (ov iv u : Value) (Q : Hp → Prop), Inv X pins σ H s → RelV o ov → RelV i iv → RelV v u → t o i v H Q →
    wpAny (model X.prog X.w) X.A (setItem ov iv u) (fun _ s' => ∃ H', Inv X pins σ H' s' ∧ Q H') X.xe s
/-- a op= b, by values -/
abbrev TIp := V → V → Hp → VK → Prop
def PIp (X : Cx) (op : Operator) (t : TIp) : Prop :=
  ∀ (pins : List (Addr × Obj)) (s : Shared) (σ : St) (H : Hp) (x y : V) (v u : Value) (Q : VK), Inv X pins σ H s → RelV x v → RelV y u → t x y H Q →
    wpAny (model X.prog X.w) X.A (inplaceOp op v u) (EP X pins σ Q) X.xe s
section
variable {X : Cx} {pos : Pos}
def gName (i : Nat) : TG := fun v σ H Q => Q (σ.set i (some v)) H
theorem pg_name {i : Nat} {x : Str} (hN : X.N.Nodup) (hi : X.N[i]? = some x) (hx : Loc X.env.scope x) (hf : X.fn x = true ∨ X.env.scope.names.lookup x = some .local := by first | exact .inl rfl | exact .inr rfl | assumption) : PG X (.Name x pos) (gName i) := by
  intro pins s σ H v u Q I r h
  exact wpAny_assign_Name (store_ok I hN hi hx r (fun s' I' => ⟨_, H, I', h⟩) hf)
def gNil : TGs := fun vs σ H Q => vs = [] ∧ Q σ H
def gCons (t : TG) (u : TGs) : TGs := fun vs σ H Q => ∃ v r, vs = v :: r ∧ t v σ H fun σ' H' => u r σ' H' Q
theorem pgs_nil : PGs X [] gNil := by
  intro pins s σ H vs us Q I r h
  obtain ⟨e, h⟩ := h
  subst e
  cases r
  exact assignInOrder_nil ⟨σ, H, I, h⟩
theorem pgs_cons {e : Expr} {es : List Expr} {t : TG} {u : TGs} (h1 : PG X e t) (h2 : PGs X es u)
    (hs : (assignEach (e :: es) X.env).map (·.2) = assign e X.env :: (assignEach es X.env).map (·.2) := by rfl) : PGs X (e :: es) (gCons t u) := by
  intro pins s σ H vs us Q I r h
  obtain ⟨v, vr, e1, h⟩ := h
  subst e1
  cases r with
  | cons r rr =>
    rw [hs]
    refine assignInOrder_cons (thn (h1 pins s σ H _ _ _ I r h) fun _ s1 ⟨σ1, H1, I1, q1⟩ => ?_)
    exact h2 pins s1 σ1 H1 _ _ Q I1 rr q1
/-- (a, b, ..) = a tuple of that length -/
def gTup (K : PySem.W.Frag) (n : Nat) (t : TGs) : TG := fun v σ H Q => ∃ a xs, v = .ref a ∧ SqT K H a xs ∧ xs.length = n ∧ t xs σ H Q
theorem pg_tup {es : List Expr} {k : Nat} {t : TGs} {n : Nat} (hc : X.calm = true) (h : PGs X es t)
    (hn : (assignEach es X.env).length = n := by rfl) (hst : (assignEach es X.env).findIdx? (·.1) = none := by rfl) : PG X (.Tuple es k pos) (gTup X.K n t) := by
  intro pins s σ H v u Q I r hw
  obtain ⟨a, xs, e1, hq, hl, hw⟩ := hw
  subst e1
  cases r
  obtain ⟨its, rv, ht, hz⟩ := I.tuple hq
  refine assign_Tuple_tuple (I.ok.hd hc) ht (by simp [hn, ← hl, rv.length]) hst fun h' hx => ?_
  have I1 : Inv X pins σ H { s with heap := h' } := I.kept (t' := s.toks) fun b o e => hx b o (Nat.ne_of_lt (Heap.lt_size e)) e
  exact h pins _ σ H xs _ Q I1 (by simpa using rv) hw
/-- o[i] = .. -/
def gSub (to ti : TE) (t : TSet) : TG := fun v σ H Q => to σ H fun o H1 => ti σ H1 fun i H2 => t o i v H2 fun H3 => Q σ H3
theorem pg_sub {o i : Expr} {to ti : TE} {t : TSet} (ho : PE X o to) (hi : PE X i ti) (hs : PSet X t)
    (ha : ∀ v, assign (.Subscript o i pos) X.env v = (do
      let ov ← holding [v] (eval o X.env)
      let iv ← holding [v, ov] (eval i X.env)
      standAt pos
      holding [v, ov, iv] (setItem ov iv v)
      release [v, ov, iv] []) := by intro _; rfl) : PG X (.Subscript o i pos) (gSub to ti t) := by
  intro pins s σ H v u Q I r h
  rw [ha]
  refine wpAny_bind (wpAny_holding (thn (ho pins s σ H _ I h) fun ov s1 ⟨x, H1, I1, r1, q1⟩ => ?_))
  refine wpAny_bind (wpAny_holding (thn (hi pins s1 σ H1 _ I1 q1) fun iv s2 ⟨y, H2, I2, r2, q2⟩ => ?_))
  refine wpAny_bind (wpAny_standAt (wpAny_bind (wpAny_holding (thn (hs pins s2 σ H2 x y v ov iv u _ I2 r1 r2 r q2) fun _ s3 ⟨H3, I3, q3⟩ => ?_))))
  exact wpAny_release ⟨σ, H3, I3, q3⟩
/-- target = value -/
def tAsg (te : TE) (g : TG) : TS := fun D σ H => te σ H fun x H1 => g x σ H1 D.nx
theorem ps_asg {tg e : Expr} {te : TE} {g : TG} (he : PE X e te) (hg : PG X tg g) (hs : swapsWithSole [tg] e pos.line X.env = pure false := by rfl) (hw : swappedStores [tg] e X.env = pure none := by rfl)
    (h1 : (assignEach [tg] X.env).map (·.2) = [assign tg X.env] := by rfl) : PS X (.Assign [tg] e pos) (tAsg te g) := by
  intro pins s σ H D I h
  refine wpAny_Assign_stores (thn (he pins s σ H _ I h) fun v s1 ⟨x, H1, I1, r1, q1⟩ => ?_) hs hw
  rw [h1]
  exact thn (hg pins s1 σ H1 x v _ I1 r1 q1) fun _ s2 q => q
/-- name = value -/
theorem ps_set {i : Nat} {x : Str} {e : Expr} {te : TE} {pos' : Pos} (hN : X.N.Nodup) (hi : X.N[i]? = some x) (hx : Loc X.env.scope x) (he : PE X e te) (hs : swapsWith e (some (.Name x pos')) pos.line X.env = pure false := by rfl) (hf : X.fn x = true ∨ X.env.scope.names.lookup x = some .local := by first | exact .inl rfl | exact .inr rfl | assumption) :
    PS X (.Assign [.Name x pos'] e pos) (tAsg te (gName i)) := by
  intro pins s σ H D I h
  refine wpAny_Assign_Name (thn (he pins s σ H _ I h) fun v s1 ⟨y, H1, I1, r1, q1⟩ => ?_) hs
  exact store_ok I1 hN hi hx r1 (fun s2 I2 => ⟨_, H1, I2, q1⟩) hf
/-- a, b = x, y with plain local names: stored from the right; the pair itself is not tracked (the opening rows as in PyProof/Rows/TupAssign.lean:23) -/
def tPar (i j : Nat) (ta : TA) : TS := fun D σ H => ta σ H fun vs H1 => ∃ v w, vs = [v, w] ∧ D.nx ((σ.set i (some v)).set j (some w)) H1
theorem ps_par {i j : Nat} {x y : Str} {a b : Expr} {ta : TA} {px py pt : Pos} {kt k2 pt2} (hc : X.calm = true) (hN : X.N.Nodup) (hi : X.N[i]? = some x) (hj : X.N[j]? = some y) (hij : i ≠ j)
    (hx : X.env.scope.names.lookup x = some .local) (hy : X.env.scope.names.lookup y = some .local) (ha : PA X [a, b] ta)
    (hw : swappedStores [.Tuple [.Name x px, .Name y py] kt pt] (.Tuple [a, b] k2 pt2) X.env = pure (some [x, y]))
    (hs : swapsWithSole [.Tuple [.Name x px, .Name y py] kt pt] (.Tuple [a, b] k2 pt2) pos.line X.env = pure false := by rfl) :
    PS X (.Assign [.Tuple [.Name x px, .Name y py] kt pt] (.Tuple [a, b] k2 pt2) pos) (tPar i j ta) := by
  intro pins s σ H D I h
  rw [exec_Assign_arm]
  refine wpAny_bind (wpAny_standAt ?_)
  rw [hs]
  refine wpAny_bind (wpAny_pure ?_)
  rw [if_neg (by decide)]
  refine wpAny_bind (Tuple_ (thn (ha _ pins s σ H _ I h) fun us s1 ⟨vs, H1, I1, r1, q1⟩ => ?_))
  obtain ⟨v, w, e1, q1⟩ := q1
  subst e1
  obtain ⟨u1, u2, rfl, rv, rw'⟩ : ∃ u1 u2, us = [u1, u2] ∧ RelV v u1 ∧ RelV w u2 := by
    cases r1 with
    | cons p q =>
      cases q with
      | cons p' q' =>
        cases q'
        exact ⟨_, _, rfl, p, p'⟩
  refine wpAny_newObj_type ?_ (by show 2 ≤ sizeLine; decide)
  have I2 : Inv X pins σ H1 { s1 with heap := s1.heap.push { cls := .type "tuple", data := .seq [u1, u2].toArray } } := I1.kept (t' := s1.toks) fun b o e => Heap.get?_push_of_some _ e
  rw [hw]
  refine wpAny_bind (wpAny_pure ?_)
  show wpAny (model X.prog X.w) X.A (do rule "assign.swapped-stores"; let items ← unpackItems (.ref s1.heap.objs.size) 2 none; assignInOrder [fun v => bindName X.env y v, fun v => bindName X.env x v] items.reverse; pure Flow.next) _ _ _
  refine wpAny_bind (wpAny_rule (wpAny_bind (unpackItems_tuple (items := #[u1, u2]) (I.ok.hd hc) (IsTup.new s1.heap _) fun h' hx' => ?_)))
  have I3 := I2.kept (h' := h') (t' := s1.toks) fun b o e => hx' b o (Nat.ne_of_lt (Heap.lt_size e)) e
  show wpAny _ _ (assignInOrder [fun v => bindName X.env y v, fun v => bindName X.env x v] [u2, u1] >>= fun _ => pure Flow.next) _ _ _
  refine wpAny_bind (assignInOrder_cons (wpAny_bindName (store_ok I3 hN hj (.inl hy) rw' (fun s2 I4 => ?_) (.inr hy))))
  refine assignInOrder_cons (wpAny_bindName (store_ok I4 hN hi (.inl hx) rv (fun s3 I5 => assignInOrder_nil (wpAny_pure ?_)) (.inr hx)))
  rw [List.set_comm _ _ (Ne.symm hij)] at I5
  exact ⟨_, H1, I5, q1⟩
/-- name op= e -/
def tAug (i : Nat) (te : TE) (ti : TIp) : TS := fun D σ H => ∃ x, σ[i]? = some (some x) ∧ te σ H fun y H1 => ti x y H1 fun z H2 => D.nx (σ.set i (some z)) H2
theorem ps_aug {i : Nat} {x : Str} {e : Expr} {te : TE} {op : Operator} {ti : TIp} {pos' : Pos} (hN : X.N.Nodup) (hi : X.N[i]? = some x) (hx : Loc X.env.scope x) (he : PE X e te) (ho : PIp X op ti) (hf : X.fn x = true ∨ X.env.scope.names.lookup x = some .local := by first | exact .inl rfl | exact .inr rfl | assumption) :
    PS X (.AugAssign (.Name x pos') op e pos) (tAug i te ti) := by
  intro pins s σ H D I h
  obtain ⟨v, e1, h⟩ := h
  obtain ⟨m, hn, hl⟩ := I.loc
  have vis : Vis X.env.scope x := by rcases hx with k | k; exact .inl k; exact .inr (.inl k)
  obtain ⟨u, r, l⟩ := hl i x v hi e1 vis
  refine wpAny_AugAssign_Name ?_
  have go : wpAny (model X.prog X.w) X.A (eval e X.env) (fun w s₂ => wpAny (model X.prog X.w) X.A (inplaceOp op u w) (fun r s₃ => wpAny (model X.prog X.w) X.A (storeName X.env x r) (fun _ => SP X pins D .next) X.xe s₃) X.xe s₂) X.xe s := by
    refine thn (he pins s σ H _ I h) fun w s1 ⟨y, H1, I1, r1, q1⟩ => ?_
    refine thn (ho pins s1 σ H1 v y u w _ I1 r r1 q1) fun z s2 ⟨zv, H2, I2, r2, q2⟩ => ?_
    exact store_ok I2 hN hi hx r2 (fun s3 I3 => ⟨_, H2, I3, q2⟩) hf
  rcases l with ⟨hk, hm⟩ | ⟨hk, c, hc, hcell⟩
  · exact wpAny_loadName_local I.ok.kind hk hn hm go
  · rcases hk with hk | hk
    · exact wpAny_loadName_cell I.ok.kind hk hc hcell go
    · rcases hx with k | k
      · have : X.env.scope.names.lookup x = some .free := hk
        rw [k] at this; cases this
      · have : X.env.scope.names.lookup x = some .free := hk
        rw [k] at this; cases this
/-- o[i] op= e -/
def tAugS (to ti te : TE) (tget : V → V → Hp → VK → Prop) (tip : TIp) (tset : TSet) : TS := fun D σ H => to σ H fun o H1 => ti σ H1 fun i H2 => tget o i H2 fun x H3 => te σ H3 fun y H4 => tip x y H4 fun z H5 => tset o i z H5 fun H6 => D.nx σ H6
/-- o[i], by values -/
def PGet (X : Cx) (t : V → V → Hp → VK → Prop) : Prop :=
  ∀ (pins : List (Addr × Obj)) (s : Shared) (σ : St) (H : Hp) (o i : V) (ov iv : Value) (Q : VK), Inv X pins σ H s → RelV o ov → RelV i iv → t o i H Q →
    wpAny (model X.prog X.w) X.A (getItem ov iv) (EP X pins σ Q) X.xe s
theorem ps_augS {o i e : Expr} {to ti te : TE} {tget : V → V → Hp → VK → Prop} {tip : TIp} {tset : TSet} {op : Operator} {tpos : Pos} (ho : PE X o to) (hi : PE X i ti) (hg : PGet X tget) (he : PE X e te) (hp : PIp X op tip) (hs : PSet X tset)
    (ha : ∀ ov iv new, augStore i ov iv new = (do holding [new, ov, iv] (setItem ov iv new); release [new, ov, iv] []; pure .next) := by intros; rfl) : PS X (.AugAssign (.Subscript o i tpos) op e pos) (tAugS to ti te tget tip tset) := by
  intro pins s σ H D I h
  refine wpAny_AugAssign_SubscriptAny (thn (ho pins s σ H _ I h) fun ov s1 ⟨x1, H1, I1, r1, q1⟩ => ?_) ha
  refine thn (hi pins s1 σ H1 _ I1 q1) fun iv s2 ⟨x2, H2, I2, r2, q2⟩ => ?_
  refine thn (hg pins s2 σ H2 x1 x2 ov iv _ I2 r1 r2 q2) fun old s3 ⟨x3, H3, I3, r3, q3⟩ => ?_
  refine thn (he pins s3 σ H3 _ I3 q3) fun v s4 ⟨x4, H4, I4, r4, q4⟩ => ?_
  refine thn (hp pins s4 σ H4 x3 x4 old v _ I4 r3 r4 q4) fun new s5 ⟨x5, H5, I5, r5, q5⟩ => ?_
  exact thn (hs pins s5 σ H5 x1 x2 x5 ov iv new _ I5 r1 r2 r5 q5) fun _ s6 ⟨H6, I6, q6⟩ => ⟨σ, H6, I6, q6⟩
/-- ints -/
def ipI (f : Int → Int → Int) : TIp := fun x y H Q => ∃ i j, x = .int i ∧ y = .int j ∧ Q (.int (f i j)) H
theorem ip_add : PIp X .Add (ipI fun i j => i + j) := by
  intro pins s σ H x y v u Q I r1 r2 h
  obtain ⟨i, j, e1, e2, q⟩ := h
  subst e1; subst e2
  obtain ⟨t, rfl⟩ := r1
  obtain ⟨t', rfl⟩ := r2
  exact iadd_int ⟨.int _, H, I.tok _, ⟨_, rfl⟩, q⟩
theorem ip_sub : PIp X .Sub (ipI fun i j => i - j) := by
  intro pins s σ H x y v u Q I r1 r2 h
  obtain ⟨i, j, e1, e2, q⟩ := h
  subst e1; subst e2
  obtain ⟨t, rfl⟩ := r1
  obtain ⟨t', rfl⟩ := r2
  exact isub_int ⟨.int _, H, I.tok _, ⟨_, rfl⟩, q⟩
end

/-! ### while -/
section
variable {X : Cx} {pos : Pos}
/-- the invariant W with its measure -/
def tWhile (c : TT) (tb : TS) : TS := fun D σ H => ∃ W : Nat → St → Hp → Prop, (∃ m, W m σ H) ∧ ∀ m σ H, W m σ H →
  c σ H fun b H1 => if b = true then ∃ N : St → Hp → Prop, (∀ σ' H', N σ' H' → ∃ m', m' < m ∧ W m' σ' H') ∧ tb { D with nx := N, ct := N, bk := D.nx } σ H1 else D.nx σ H1
theorem ps_while {c : Expr} {body : List Stmt} {tc : TT} {tb : TS} (hp : PassesOwn (model X.prog X.w) X.A X.env X.xe) (hc : PT X c tc) (hb : PSs X body tb) : PS X (.While c body [] pos) (tWhile tc tb) := by
  intro pins s σ H D I h
  obtain ⟨W, ⟨m0, w0⟩, turn⟩ := h
  refine wpAny_While (codeAny_whileLoop (fun n s' => ∃ σ' H', Inv X pins σ' H' s' ∧ W n σ' H') ?_ m0 ⟨σ, H, I, w0⟩)
  rintro n s1 ⟨σ1, H1, I1, w1⟩
  refine wpAny_passesOwn hp (thn (hc pins s1 σ1 H1 _ I1 (turn n σ1 H1 w1)) fun b s2 ⟨H2, I2, q2⟩ => ?_)
  cases b with
  | true =>
    obtain ⟨N, hN, q2⟩ := q2
    rw [if_pos rfl]
    refine wpAny_passesOwn hp (thn (hb pins s2 σ1 H2 _ I2 q2) fun f s3 q3 => ?_)
    cases f with
    | next =>
      obtain ⟨σ3, H3, I3, n3⟩ := q3
      obtain ⟨m', hm, w3⟩ := hN σ3 H3 n3
      exact ⟨m', hm, σ3, H3, I3, w3⟩
    | cont =>
      obtain ⟨σ3, H3, I3, n3⟩ := q3
      obtain ⟨m', hm, w3⟩ := hN σ3 H3 n3
      exact ⟨m', hm, σ3, H3, I3, w3⟩
    | brk => exact q3
    | ret v => exact q3
  | false =>
    rw [if_neg Bool.false_ne_true]
    exact wpAny_execs_nil ⟨σ1, H2, I2, q2⟩
end

/-! ### what a loop or a comprehension walks -/
/-- at turn i: it yields x (the heap may grow), or it stops -/
structure It where
  go : Nat → Hp → Prop
  yld : Nat → Hp → V → Hp → Prop
  stop : Nat → Hp → Prop
/-- the iterator's own objects may turn: they are not the frame's, not pinned, younger than the entry (or a comprehension's own) -/
def FpOk (X : Cx) (pins : List (Addr × Obj)) (H : Hp) (b : Addr) : Prop :=
  H b = none ∧ b ≠ X.env.locals ∧ b ∉ X.fs ∧ (b ∈ X.ex ∨ X.s₀.heap.objs.size ≤ b) ∧ (∀ x c, X.env.cells.lookup x = some c → c ≠ b) ∧ ∀ p ∈ X.pn ++ pins, p.1 ≠ b
theorem Inv.fpOk {X : Cx} {pins : List (Addr × Obj)} {σ : St} {H H' : Hp} {s : Shared} {b : Addr} (I : Inv X pins σ H s) (hb : s.heap.objs.size ≤ b) (hn : H' b = none) : FpOk X pins H' b := by
  refine ⟨hn, Nat.ne_of_gt (Nat.lt_of_lt_of_le I.lt hb), I.nofs hb, .inr (Nat.le_trans I.sz hb), fun x c e z => ?_, fun p hp z => ?_⟩
  · obtain ⟨v, q⟩ := I.cell x c e
    exact absurd (Nat.lt_of_lt_of_le q.lt (by rw [z]; exact hb)) (Nat.lt_irrefl _)
  · exact absurd (Nat.lt_of_lt_of_le (Heap.lt_size (I.pin p hp).1) (by rw [z]; exact hb)) (Nat.lt_irrefl _)
structure Turn (P : Program) (w : World) (K : PySem.W.Frag) (tg : Expr) (J : It) (fp : List Addr) (it : Addr) (tn : Nat → Heap → Prop) : Prop where
  mem : it ∈ fp
  obj : ∀ i h, tn i h → ∀ b ∈ fp, ∃ o, h.get? b = some o ∧ ∀ v, o.data ≠ .cell v
  keep : ∀ i h h', tn i h → (∀ b ∈ fp, ∀ o, h.get? b = some o → h'.get? b = some o) → tn i h'
  item : ∀ (X : Cx), X.prog = P → X.w = w → X.K = K → X.calm = true → ∀ (i : Nat) (pins : List (Addr × Obj)) (s : Shared) (σ : St) (H : Hp) (E : Value → Shared → Prop), Inv X pins σ H s → (∀ b ∈ fp, FpOk X pins H b) → tn i s.heap → J.go i H →
    wpAny (model P w) X.A (pyNext (.ref it)) (fun r s1 => ∃ u, r = some u ∧
      wpAny (model P w) X.A (letOwnedTupleGo tg (.ref it) u) (fun _ s2 => ∃ x H', Inv X pins σ H' s2 ∧ RelV x u ∧ J.yld i H x H' ∧ tn (i + 1) s2.heap ∧ ∀ b ∈ fp, H' b = none) E s1) E s
  done : ∀ (X : Cx), X.prog = P → X.w = w → X.K = K → X.calm = true → ∀ (i : Nat) (pins : List (Addr × Obj)) (s : Shared) (σ : St) (H : Hp) (E : Value → Shared → Prop), Inv X pins σ H s → (∀ b ∈ fp, FpOk X pins H b) → tn i s.heap → J.stop i H →
    wpAny (model P w) X.A (pyNext (.ref it)) (fun r s1 => r = none ∧ Inv X pins σ H s1) E s
  self : ∀ (A : Around) (i : Nat) (s : Shared) (Q : Value → Shared → Prop) (E : Value → Shared → Prop), tn i s.heap → Q (.ref it) s → wpAny (model P w) A (pyIter (.ref it)) Q E s
abbrev TI := St → Hp → (It → Hp → Prop) → Prop
/-- an iterator has come -/
def PIE (X : Cx) (pins : List (Addr × Obj)) (σ : St) (tg : Expr) (R : It → Hp → Prop) (itv : Value) (s2 : Shared) : Prop :=
  ∃ (it : Addr) (fp : List Addr) (tn : Nat → Heap → Prop) (J : It) (H' : Hp), itv = .ref it ∧ Inv X pins σ H' s2 ∧ Turn X.prog X.w X.K tg J fp it tn ∧ tn 0 s2.heap ∧ (∀ b ∈ fp, FpOk X pins H' b) ∧ R J H'
def PI (X : Cx) (tg iter : Expr) (wi : TI) : Prop :=
  ∀ (pins : List (Addr × Obj)) (s : Shared) (σ : St) (H : Hp) (R : It → Hp → Prop), Inv X pins σ H s → wi σ H R →
    wpAny (model X.prog X.w) X.A (eval iter X.env) (fun v s1 => wpAny (model X.prog X.w) X.A (pyIter v) (PIE X pins σ tg R) X.xe s1) X.xe s

/-- the step ahead of the store is nothing for an iterator that keeps no tuple -/
theorem go_of {M : Model} {A : Around} {E : Value → Shared → Prop} {s : Shared} {tg : Expr} {it : Addr} {u : Value} {o : Obj} {n : String} {vs : Array Value} {Q : Unit → Shared → Prop} (ho : s.heap.get? it = some o) (hc : o.cls = .type n) (hd : o.data = .fields vs)
    (hn : ["enumerate", "zip", "dict_itemiterator", "dict_reverseitemiterator", "odict_iterator", "itertools.zip_longest", "itertools.pairwise"].contains n = false) (hQ : Q () s) : wpAny M A (letOwnedTupleGo tg (.ref it) u) Q E s := by
  unfold letOwnedTupleGo
  cases tg <;> first
    | exact wpAny_pure hQ
    | (cases u <;> first
        | exact wpAny_pure hQ
        | (refine wpAny_bind (wpAny_load ho ?_)
           rw [hc, hd]
           show wpAny M A (if (["enumerate", "zip", "dict_itemiterator", "dict_reverseitemiterator", "odict_iterator", "itertools.zip_longest", "itertools.pairwise"].contains n && vs[0]? == some (rawInt _)) = true then _ else _) Q E s
           rw [if_neg (by intro h; rw [hn, Bool.false_and] at h; cases h)]
           exact wpAny_pure hQ))

/-- the list at a, as it stands at each turn (a loop may append to it) -/
def Itl (K : PySem.W.Frag) (a : Addr) : It :=
  ⟨fun i H => ∃ xs x, SqL K H a xs ∧ xs[i]? = some x, fun i H x H' => H' = H ∧ ∀ xs, SqL K H a xs → xs[i]? = some x, fun i H => ∃ xs, SqL K H a xs ∧ xs.length ≤ i⟩
def Itt (K : PySem.W.Frag) (a : Addr) : It :=
  ⟨fun i H => ∃ xs x, SqT K H a xs ∧ xs[i]? = some x, fun i H x H' => H' = H ∧ ∀ xs, SqT K H a xs → xs[i]? = some x, fun i H => ∃ xs, SqT K H a xs ∧ xs.length ≤ i⟩
/-- lo, lo + 1, .. (n of them) -/
def Itr (lo : Int) (n : Nat) : It := ⟨fun i _ => i < n, fun i H x H' => H' = H ∧ x = .int (lo + i), fun i _ => n ≤ i⟩
theorem turn_list {P : Program} {w : World} {K : PySem.W.Frag} {tg : Expr} (a it : Addr) : Turn P w K tg (Itl K a) [it] it (fun i h => h.IsListIter it a i) where
  mem := by simp
  obj := fun i h st b hb => by
    have e : b = it := by simpa using hb
    subst e
    obtain ⟨o, e, c, d⟩ := st
    exact ⟨o, e, fun v z => by rw [d] at z; cases z⟩
  keep := fun i h h' st k => st.at fun o e => k it (by simp) o e
  item := by
    intro X hP hw hK hc i pins s σ H E I hf st hg
    subst hP hw hK
    obtain ⟨xs, x, hq, hx⟩ := hg
    obtain ⟨its, rv, p, hz⟩ := I.list hq
    obtain ⟨u, hu, ru⟩ := rv.get hx
    obtain ⟨f0, f1, f2, f3, f4, f5⟩ := hf it (by simp)
    refine wpAny_pyNext_list_item st p.isList (x := u) (by simpa using hu) fun h' st' sb => ?_
    have I1 : Inv X pins σ H { s with heap := h' } := I.turned (t' := s.toks) (fun b o hb e => (sb.2 b hb).trans e) f0 f1 f3 f4 f5
    obtain ⟨o, e, c, d⟩ := id st'
    exact ⟨u, rfl, go_of (s := { s with heap := h' }) e c d (by decide) ⟨x, H, I1, ru, ⟨rfl, fun ys hy => by rw [I.list_inj hy hq]; exact hx⟩, st', fun b hb => (hf b hb).1⟩⟩
  done := by
    intro X hP hw hK hc i pins s σ H E I hf st hg
    subst hP hw hK
    obtain ⟨xs, hq, hx⟩ := hg
    obtain ⟨its, rv, p, hz⟩ := I.list hq
    obtain ⟨f0, f1, f2, f3, f4, f5⟩ := hf it (by simp)
    have hl := rv.length
    exact wpAny_pyNext_list_end (I.ok.hd hc) st p.isList (by simp; omega) fun h' eb => ⟨rfl, I.turned (t' := s.toks) (fun b o hb e => eb b o hb e) f0 f1 f3 f4 f5⟩
  self := fun _ _ _ _ _ st h => wpAny_pyIter_listiter st h
theorem turn_tuple {P : Program} {w : World} {K : PySem.W.Frag} {tg : Expr} (a it : Addr) : Turn P w K tg (Itt K a) [it] it (fun i h => h.IsTupleIter it a i) where
  mem := by simp
  obj := fun i h st b hb => by
    have e : b = it := by simpa using hb
    subst e
    obtain ⟨o, e, c, d⟩ := st
    exact ⟨o, e, fun v z => by rw [d] at z; cases z⟩
  keep := fun i h h' st k => st.at fun o e => k it (by simp) o e
  item := by
    intro X hP hw hK hc i pins s σ H E I hf st hg
    subst hP hw hK
    obtain ⟨xs, x, hq, hx⟩ := hg
    obtain ⟨its, rv, p, hz⟩ := I.tuple hq
    obtain ⟨u, hu, ru⟩ := rv.get hx
    obtain ⟨f0, f1, f2, f3, f4, f5⟩ := hf it (by simp)
    refine wpAny_pyNext_tuple_item st (show s.heap.IsTuple a its.toArray from p) (x := u) (by simpa using hu) fun h' st' sb => ?_
    have I1 : Inv X pins σ H { s with heap := h' } := I.turned (t' := s.toks) (fun b o hb e => (sb.2 b hb).trans e) f0 f1 f3 f4 f5
    obtain ⟨o, e, c, d⟩ := id st'
    exact ⟨u, rfl, go_of (s := { s with heap := h' }) e c d (by decide) ⟨x, H, I1, ru, ⟨rfl, fun ys hy => by rw [I.tuple_inj hy hq]; exact hx⟩, st', fun b hb => (hf b hb).1⟩⟩
  done := by
    intro X hP hw hK hc i pins s σ H E I hf st hg
    subst hP hw hK
    obtain ⟨xs, hq, hx⟩ := hg
    obtain ⟨its, rv, p, hz⟩ := I.tuple hq
    obtain ⟨f0, f1, f2, f3, f4, f5⟩ := hf it (by simp)
    have hl := rv.length
    exact wpAny_pyNext_tuple_end (I.ok.hd hc) st (show s.heap.IsTuple a its.toArray from p) (by simp; omega) fun h' eb => ⟨rfl, I.turned (t' := s.toks) (fun b o hb e => eb b o hb e) f0 f1 f3 f4 f5⟩
  self := fun _ _ _ _ _ st h => wpAny_pyIter_tupleiter st h
theorem turn_range {P : Program} {w : World} {K : PySem.W.Frag} {tg : Expr} (it : Addr) (lo : Int) (n : Nat) : Turn P w K tg (Itr lo n) [it] it (fun i h => IsRangeIter h it (lo + (i : Nat) * 1) ((n : Int) - (i : Nat)) 1) where
  mem := by simp
  obj := fun i h st b hb => by
    have e : b = it := by simpa using hb
    subst e
    exact ⟨_, st, fun v z => by
      have z' : Data.fields _ = Data.cell v := z
      cases z'⟩
  keep := fun i h h' st k => k it (by simp) _ st
  item := by
    intro X hP hw hK hc i pins s σ H E I hf st hg
    subst hP hw hK
    obtain ⟨f0, f1, f2, f3, f4, f5⟩ := hf it (by simp)
    have W := Walks.range (prog := X.prog) (w := X.w) (I.ok.hd hc) it lo 1 n
    refine W.item i s _ _ hg st fun v h' tk hv st' kk => ?_
    obtain ⟨t, rfl⟩ := hv
    have I1 : Inv X pins σ H { s with heap := h', toks := tk } := I.turned (fun b o hb e => kk b o (by simpa using hb) e) f0 f1 f3 f4 f5
    refine ⟨_, rfl, go_of (s := { s with heap := h', toks := tk }) (n := "range_iterator") st' rfl rfl (by decide) ⟨.int (lo + i), H, I1, ⟨t, ?_⟩, ⟨rfl, rfl⟩, st', fun b hb => (hf b hb).1⟩⟩
    rw [Int.mul_one]
  done := by
    intro X hP hw hK hc i pins s σ H E I hf st hg
    subst hP hw hK
    obtain ⟨f0, f1, f2, f3, f4, f5⟩ := hf it (by simp)
    exact wpAny_pyNext_range_end (I.ok.hd hc) st (by have : n ≤ i := hg; omega) fun h' eb => ⟨rfl, I.turned (t' := s.toks) (fun b o hb e => eb b o hb e) f0 f1 f3 f4 f5⟩
  self := fun _ _ _ _ _ st h => wpAny_pyIter_rangeiter st h
end L2

namespace L2
open PySem PySem.Spec PyProof.Rows
section
variable {X : Cx} {tg : Expr}
def iList (K : PySem.W.Frag) (tl : TE) : TI := fun σ H R => tl σ H fun x H1 => ∃ a, x = .ref a ∧ (∃ xs, SqL K H1 a xs) ∧ R (Itl K a) H1
def iTup (K : PySem.W.Frag) (tl : TE) : TI := fun σ H R => tl σ H fun x H1 => ∃ a, x = .ref a ∧ (∃ xs, SqT K H1 a xs) ∧ R (Itt K a) H1
theorem pi_list {l : Expr} {tl : TE} (hl : PE X l tl) : PI X tg l (iList X.K tl) := by
  intro pins s σ H R I h
  refine thn (hl pins s σ H _ I h) fun v s1 ⟨x, H1, I1, r1, q1⟩ => ?_
  obtain ⟨a, e, ⟨xs, hq⟩, q⟩ := q1
  subst e
  cases r1
  obtain ⟨its, rv, p, hz⟩ := I1.list hq
  refine wpAny_pyIter_list p.isList ?_
  refine ⟨s1.heap.objs.size, [s1.heap.objs.size], _, _, H1, rfl, I1.kept (t' := s1.toks) fun b o e => Heap.get?_push_of_some _ e, turn_list a _, ⟨_, Heap.get?_push_size _ rfl, rfl, rfl⟩, fun b hb => ?_, q⟩
  have e : b = s1.heap.objs.size := by simpa using hb
  subst e
  exact I1.fpOk (Nat.le_refl _) (I1.hok.fresh (Nat.le_refl _))
theorem pi_tup {l : Expr} {tl : TE} (hl : PE X l tl) : PI X tg l (iTup X.K tl) := by
  intro pins s σ H R I h
  refine thn (hl pins s σ H _ I h) fun v s1 ⟨x, H1, I1, r1, q1⟩ => ?_
  obtain ⟨a, e, ⟨xs, hq⟩, q⟩ := q1
  subst e
  cases r1
  obtain ⟨its, rv, p, hz⟩ := I1.tuple hq
  refine wpAny_pyIter_tuple (show s1.heap.IsTuple a its.toArray from p) ?_
  refine ⟨s1.heap.objs.size, [s1.heap.objs.size], _, _, H1, rfl, I1.kept (t' := s1.toks) fun b o e => Heap.get?_push_of_some _ e, turn_tuple a _, ⟨_, Heap.get?_push_size _ rfl, rfl, rfl⟩, fun b hb => ?_, q⟩
  have e : b = s1.heap.objs.size := by simpa using hb
  subst e
  exact I1.fpOk (Nat.le_refl _) (I1.hok.fresh (Nat.le_refl _))
/-- a range object just made, walked -/
theorem range_it {pins : List (Addr × Obj)} {σ : St} {H : Hp} {s : Shared} {R : It → Hp → Prop} {E : Value → Shared → Prop} {lo hi : Int} {t u v : Tok} {tk : Nat} (I : Inv X pins σ H s) (h1 : -(2 ^ 62) ≤ lo) (h2 : lo < 2 ^ 62) (h3 : -(2 ^ 62) ≤ hi) (h4 : hi < 2 ^ 62)
    (q : R (Itr lo (hi - lo).toNat) H) : wpAny (model X.prog X.w) X.A (pyIter (.ref s.heap.objs.size)) (PIE X pins σ tg R) E { s with heap := s.heap.push { cls := .type "range", data := .fields #[.int lo t, .int hi u, .int 1 v] }, toks := tk } := by
  refine wpAny_pyIter_range (IsRange.new ..) (small_one h1 h2 h3 h4) ?_
  have I1 : Inv X pins σ H { s with heap := s.heap.push { cls := .type "range", data := .fields #[.int lo t, .int hi u, .int 1 v] }, toks := tk } := I.kept fun b o e => Heap.get?_push_of_some _ e
  refine ⟨(s.heap.push { cls := .type "range", data := .fields #[.int lo t, .int hi u, .int 1 v] }).objs.size, [(s.heap.push { cls := .type "range", data := .fields #[.int lo t, .int hi u, .int 1 v] }).objs.size], _, _, H, rfl,
    I1.kept (t' := tk) fun b o e => Heap.get?_push_of_some _ e, turn_range _ lo (hi - lo).toNat, ?_, fun b hb => ?_, q⟩
  · have e1 : lo + ((0 : Nat) : Int) * 1 = lo := by simp
    have e2 : (((hi - lo).toNat : Nat) : Int) - ((0 : Nat) : Int) = Builtin.Range.rangeSize lo hi 1 := by rw [rangeSize_one]; split <;> omega
    show IsRangeIter _ _ (lo + ((0 : Nat) : Int) * 1) ((((hi - lo).toNat : Nat) : Int) - ((0 : Nat) : Int)) 1
    rw [e1, e2]
    exact Heap.get?_push_size _ rfl
  · have e : b = (s.heap.push { cls := .type "range", data := .fields #[.int lo t, .int hi u, .int 1 v] }).objs.size := by simpa using hb
    subst e
    exact I1.fpOk (Nat.le_refl _) (I1.hok.fresh (Nat.le_refl _))
def iRng1 (ta : TA) : TI := fun σ H R => ta σ H fun vs H1 => ∃ j : Int, vs = [.int j] ∧ -(2 ^ 62) ≤ j ∧ j < 2 ^ 62 ∧ R (Itr 0 j.toNat) H1
def iRng2 (ta : TA) : TI := fun σ H R => ta σ H fun vs H1 => ∃ i j : Int, vs = [.int i, .int j] ∧ (-(2 ^ 62) ≤ i ∧ i < 2 ^ 62 ∧ -(2 ^ 62) ≤ j ∧ j < 2 ^ 62) ∧ R (Itr i (j - i).toNat) H1
theorem pi_range1 {a : Expr} {ta : TA} {p pos : Pos} (hg : Gl X "range") (hm : X.mg "range" = none) (ha : PA X [a] ta) (hs : starEach [a] X.env = [(false, eval a X.env)] := by rfl) : PI X tg (.Call (.Name "range" p) [a] [] pos) (iRng1 ta) := by
  intro pins s σ H R I h
  refine Call_ (ld_blt I hg hm boot_range (PyProof.Rows.callWith_type1 (thn (ha pos pins s σ H _ I h) fun us s1 ⟨vs, H1, I1, r1, q1⟩ => ?_) hs rfl))
  obtain ⟨j, e, q1, q2, q⟩ := q1
  subst e
  cases r1 with
  | cons r rr =>
    cases rr
    obtain ⟨t, rfl⟩ := r
    exact call_range_1 (range_it I1 (by omega) (by omega) q1 q2 (by simpa using q))
theorem pi_range2 {a b : Expr} {ta : TA} {p pos : Pos} (hg : Gl X "range") (hm : X.mg "range" = none) (ha : PA X [a, b] ta) (hs : starEach [a, b] X.env = [(false, eval a X.env), (false, eval b X.env)] := by rfl) (hs2 : starEach [b] X.env = [(false, eval b X.env)] := by rfl) :
    PI X tg (.Call (.Name "range" p) [a, b] [] pos) (iRng2 ta) := by
  intro pins s σ H R I h
  refine Call_ (ld_blt I hg hm boot_range (PyProof.Rows.callWith_type1 (thn (ha pos pins s σ H _ I h) fun us s1 ⟨vs, H1, I1, r1, q1⟩ => ?_) (by rw [hs, hs2]) (by rw [hs2]; rfl)))
  obtain ⟨i, j, e, ⟨q1, q2, q3, q4⟩, q⟩ := q1
  subst e
  cases r1 with
  | cons r rr =>
    cases rr with
    | cons r' rr =>
      cases rr
      obtain ⟨t, rfl⟩ := r
      obtain ⟨t', rfl⟩ := r'
      exact call_range_2 (range_it I1 q1 q2 q3 q4 q)

/-! ### for -/
/-- W: the invariant by the turn and a measure; N: what the body is to reach -/
def tFor (wi : TI) (g : TG) (tb : TS) : TS := fun D σ H => wi σ H fun J H1 => ∃ W : Nat → Nat → St → Hp → Prop, (∃ m, W 0 m σ H1) ∧ ∀ i m σ H, W i m σ H →
  (J.stop i H ∧ D.nx σ H) ∨ (J.go i H ∧ ∃ N : St → Hp → Prop, (∀ σ' H', N σ' H' → ∃ m', m' < m ∧ W (i + 1) m' σ' H') ∧ ∀ x H', J.yld i H x H' → g x σ H' fun σ2 H2 => tb { D with nx := N, ct := N, bk := D.nx } σ2 H2)
/-- the records at fp as they stand -/
def pinsAt (fp : List Addr) (h : Heap) : List (Addr × Obj) := fp.filterMap fun b => (h.get? b).map fun o => (b, o)
theorem mem_pinsAt {fp : List Addr} {h : Heap} {b : Addr} {o : Obj} (hb : b ∈ fp) (e : h.get? b = some o) : (b, o) ∈ pinsAt fp h := List.mem_filterMap.mpr ⟨b, hb, by rw [e]; rfl⟩
theorem of_pinsAt {fp : List Addr} {h : Heap} {p : Addr × Obj} (hp : p ∈ pinsAt fp h) : p.1 ∈ fp ∧ h.get? p.1 = some p.2 := by
  obtain ⟨b, hb, e⟩ := List.mem_filterMap.mp hp
  cases q : h.get? b with
  | none => rw [q] at e; cases e
  | some o =>
    rw [q] at e
    have e' : (b, o) = p := Option.some.inj e
    subst e'
    exact ⟨hb, q⟩
theorem Inv.pinned {pins : List (Addr × Obj)} {σ : St} {H : Hp} {s : Shared} {fp : List Addr} (I : Inv X pins σ H s) (hf : ∀ b ∈ fp, FpOk X pins H b) (ho : ∀ b ∈ fp, ∃ o, s.heap.get? b = some o ∧ ∀ v, o.data ≠ .cell v) : Inv X (pins ++ pinsAt fp s.heap) σ H s :=
  I.pins_of fun p hp => (List.mem_append.mp hp).elim (fun z => I.pin p (List.mem_append_right _ z)) fun z => by
    obtain ⟨hb, e⟩ := of_pinsAt z
    obtain ⟨f0, f1, f2, _⟩ := hf p.1 hb
    obtain ⟨o, e', d⟩ := ho p.1 hb
    rw [e] at e'; cases e'
    exact ⟨e, f0, f1, f2, d⟩
theorem Inv.unpinned {pins pl : List (Addr × Obj)} {σ : St} {H : Hp} {s : Shared} (I : Inv X (pins ++ pl) σ H s) : Inv X pins σ H s := I.pins_of fun p hp => I.pin p (List.mem_append_right _ (List.mem_append_left _ hp))
theorem ps_for {iter : Expr} {body : List Stmt} {wi : TI} {g : TG} {tb : TS} {pos : Pos} (hp : PassesOwn (model X.prog X.w) X.A X.env X.xe) (hc : X.calm = true) (hi : PI X tg iter wi) (hg : PG X tg g) (hb : PSs X body tb)
    (hs : ∀ x, foldedSetIterable iter X.env x = pure x := by intro _; rfl) : PS X (.For tg iter body [] pos) (tFor wi g tb) := by
  intro pins s σ H D I h
  refine wpAny_For (thn (hi pins s σ H _ I h) fun v s1 h1 => thn h1 fun itv s2 h2 => ?_) hs
  obtain ⟨it, fp, tn, J, H2, e, I2, T, st2, f2, W, ⟨m0, w0⟩, turn⟩ := h2
  subst e
  -- what stays true of the iterator's objects through the loop
  have stat : ∀ {H' : Hp}, (∀ b ∈ fp, H' b = none) → ∀ b ∈ fp, FpOk X pins H' b := fun hn b hb => ⟨hn b hb, (f2 b hb).2⟩
  refine codeAny_forLoop_any (fun n s' => ∃ i σ' H', Inv X pins σ' H' s' ∧ tn i s'.heap ∧ (∀ b ∈ fp, H' b = none) ∧ W i n σ' H') ?_ m0 ⟨0, σ, H2, I2, st2, fun b hb => (f2 b hb).1, w0⟩
  rintro n s3 ⟨i, σ3, H3, I3, st3, fr3, w3⟩
  rcases turn i n σ3 H3 w3 with ⟨stop, qn⟩ | ⟨go, N, hN, step⟩
  · refine wpAny_passesOwn hp (thn (T.done X rfl rfl rfl hc i pins s3 σ3 H3 X.xe I3 (stat fr3) st3 stop) fun r s4 ⟨hr, I4⟩ => ?_)
    subst hr
    exact wpAny_execs_nil ⟨σ3, H3, I4, qn⟩
  · refine wpAny_passesOwn hp (thn (T.item X rfl rfl rfl hc i pins s3 σ3 H3 X.xe I3 (stat fr3) st3 go) fun r s4 ⟨u, hr, h4⟩ => ?_)
    subst hr
    refine wpAny_passesOwn hp (thn h4 fun _ s5 ⟨x, H5, I5, r5, y5, st5, fr5⟩ => ?_)
    have I5' := I5.pinned (stat fr5) (T.obj _ _ st5)
    refine wpAny_passesOwn hp (thn (hg _ s5 σ3 H5 x u _ I5' r5 (step x H5 y5)) fun _ s6 ⟨σ6, H6, I6, q6⟩ => ?_)
    refine wpAny_passesOwn hp (thn (hb _ s6 σ6 H6 _ I6 q6) fun f s7 q7 => ?_)
    have again : ∀ {σ7 : St} {H7 : Hp}, Inv X (pins ++ pinsAt fp s5.heap) σ7 H7 s7 → N σ7 H7 → ∃ m, m < n ∧ ∃ i σ' H', Inv X pins σ' H' s7 ∧ tn i s7.heap ∧ (∀ b ∈ fp, H' b = none) ∧ W i m σ' H' := fun {σ7 H7} I7 n7 => by
      obtain ⟨m', hm, w7⟩ := hN σ7 H7 n7
      refine ⟨m', hm, i + 1, σ7, H7, I7.unpinned, T.keep _ _ _ st5 fun b hb o e => (I7.pin (b, o) (List.mem_append_right _ (List.mem_append_right _ (mem_pinsAt hb e)))).1, fun b hb => ?_, w7⟩
      obtain ⟨o, e, d⟩ := T.obj _ _ st5 b hb
      exact (I7.pin (b, o) (List.mem_append_right _ (List.mem_append_right _ (mem_pinsAt hb e)))).2.1
    cases f with
    | next => obtain ⟨σ7, H7, I7, n7⟩ := q7; exact again I7 n7
    | cont => obtain ⟨σ7, H7, I7, n7⟩ := q7; exact again I7 n7
    | brk => obtain ⟨σ7, H7, I7, q7⟩ := q7; exact ⟨σ7, H7, I7.unpinned, q7⟩
    | ret v => obtain ⟨x7, σ7, H7, I7, r7, q7⟩ := q7; exact ⟨x7, σ7, H7, I7.unpinned, r7, q7⟩
end

/-! ### the forms one uses -/
/-- over a list that the body leaves as it is -/
theorem for_list {K : PySem.W.Frag} {a : Addr} {xs : List V} {g : TG} {tb : TS} {D : Ends} {σ : St} {H : Hp} (Pv : Nat → St → Hp → Prop) (h0 : Pv 0 σ H) (hl : ∀ i σ H, i ≤ xs.length → Pv i σ H → SqL K H a xs)
    (hs : ∀ i x σ H, xs[i]? = some x → Pv i σ H → g x σ H fun σ2 H2 => tb { D with nx := Pv (i + 1), ct := Pv (i + 1), bk := D.nx } σ2 H2) (hd : ∀ σ H, Pv xs.length σ H → D.nx σ H) :
    ∃ W : Nat → Nat → St → Hp → Prop, (∃ m, W 0 m σ H) ∧ ∀ i m σ H, W i m σ H →
      ((Itl K a).stop i H ∧ D.nx σ H) ∨ ((Itl K a).go i H ∧ ∃ N : St → Hp → Prop, (∀ σ' H', N σ' H' → ∃ m', m' < m ∧ W (i + 1) m' σ' H') ∧ ∀ x H', (Itl K a).yld i H x H' → g x σ H' fun σ2 H2 => tb { D with nx := N, ct := N, bk := D.nx } σ2 H2) := by
  refine ⟨fun i m σ H => m = xs.length - i ∧ i ≤ xs.length ∧ Pv i σ H, ⟨xs.length, by simp, Nat.zero_le _, h0⟩, ?_⟩
  rintro i m σ H ⟨rfl, hi, p⟩
  have q := hl i σ H hi p
  by_cases hlt : i < xs.length
  · refine .inr ⟨⟨xs, xs[i], q, by simp [hlt]⟩, Pv (i + 1), fun σ' H' p' => ⟨xs.length - (i + 1), by omega, rfl, hlt, p'⟩, fun x H' y => ?_⟩
    obtain ⟨e, y⟩ := y
    subst e
    exact hs i x σ _ (y xs q) p
  · have e : i = xs.length := by omega
    subst e
    exact .inl ⟨⟨xs, q, Nat.le_refl _⟩, hd σ H p⟩
theorem for_tup {K : PySem.W.Frag} {a : Addr} {xs : List V} {g : TG} {tb : TS} {D : Ends} {σ : St} {H : Hp} (Pv : Nat → St → Hp → Prop) (h0 : Pv 0 σ H) (hl : ∀ i σ H, i ≤ xs.length → Pv i σ H → SqT K H a xs)
    (hs : ∀ i x σ H, xs[i]? = some x → Pv i σ H → g x σ H fun σ2 H2 => tb { D with nx := Pv (i + 1), ct := Pv (i + 1), bk := D.nx } σ2 H2) (hd : ∀ σ H, Pv xs.length σ H → D.nx σ H) :
    ∃ W : Nat → Nat → St → Hp → Prop, (∃ m, W 0 m σ H) ∧ ∀ i m σ H, W i m σ H →
      ((Itt K a).stop i H ∧ D.nx σ H) ∨ ((Itt K a).go i H ∧ ∃ N : St → Hp → Prop, (∀ σ' H', N σ' H' → ∃ m', m' < m ∧ W (i + 1) m' σ' H') ∧ ∀ x H', (Itt K a).yld i H x H' → g x σ H' fun σ2 H2 => tb { D with nx := N, ct := N, bk := D.nx } σ2 H2) := by
  refine ⟨fun i m σ H => m = xs.length - i ∧ i ≤ xs.length ∧ Pv i σ H, ⟨xs.length, by simp, Nat.zero_le _, h0⟩, ?_⟩
  rintro i m σ H ⟨rfl, hi, p⟩
  have q := hl i σ H hi p
  by_cases hlt : i < xs.length
  · refine .inr ⟨⟨xs, xs[i], q, by simp [hlt]⟩, Pv (i + 1), fun σ' H' p' => ⟨xs.length - (i + 1), by omega, rfl, hlt, p'⟩, fun x H' y => ?_⟩
    obtain ⟨e, y⟩ := y
    subst e
    exact hs i x σ _ (y xs q) p
  · have e : i = xs.length := by omega
    subst e
    exact .inl ⟨⟨xs, q, Nat.le_refl _⟩, hd σ H p⟩
theorem for_range {lo : Int} {n : Nat} {g : TG} {tb : TS} {D : Ends} {σ : St} {H : Hp} (Pv : Nat → St → Hp → Prop) (h0 : Pv 0 σ H)
    (hs : ∀ i σ H, i < n → Pv i σ H → g (.int (lo + i)) σ H fun σ2 H2 => tb { D with nx := Pv (i + 1), ct := Pv (i + 1), bk := D.nx } σ2 H2) (hd : ∀ σ H, Pv n σ H → D.nx σ H) :
    ∃ W : Nat → Nat → St → Hp → Prop, (∃ m, W 0 m σ H) ∧ ∀ i m σ H, W i m σ H →
      ((Itr lo n).stop i H ∧ D.nx σ H) ∨ ((Itr lo n).go i H ∧ ∃ N : St → Hp → Prop, (∀ σ' H', N σ' H' → ∃ m', m' < m ∧ W (i + 1) m' σ' H') ∧ ∀ x H', (Itr lo n).yld i H x H' → g x σ H' fun σ2 H2 => tb { D with nx := N, ct := N, bk := D.nx } σ2 H2) := by
  refine ⟨fun i m σ H => m = n - i ∧ i ≤ n ∧ Pv i σ H, ⟨n, by simp, Nat.zero_le _, h0⟩, ?_⟩
  rintro i m σ H ⟨rfl, hi, p⟩
  by_cases hlt : i < n
  · refine .inr ⟨hlt, Pv (i + 1), fun σ' H' p' => ⟨n - (i + 1), by omega, rfl, hlt, p'⟩, fun x H' y => ?_⟩
    obtain ⟨e, y⟩ := y
    subst e y
    exact hs i σ _ hlt p
  · have e : i = n := by omega
    subst e
    exact .inl ⟨Nat.le_refl _, hd σ H p⟩
/-- while, by a word and a measure of the state -/
theorem while_by {c : TT} {tb : TS} {D : Ends} {σ : St} {H : Hp} (Pv : St → Hp → Prop) (μ : St → Hp → Nat) (h0 : Pv σ H)
    (hs : ∀ σ H, Pv σ H → c σ H fun b H1 => if b = true then tb { D with nx := fun σ' H' => Pv σ' H' ∧ μ σ' H' < μ σ H, ct := fun σ' H' => Pv σ' H' ∧ μ σ' H' < μ σ H, bk := D.nx } σ H1 else D.nx σ H1)
    (mono : ∀ σ H Q Q', (∀ b H1, Q b H1 → Q' b H1) → c σ H Q → c σ H Q') : tWhile c tb D σ H := by
  refine ⟨fun m σ H => m = μ σ H ∧ Pv σ H, ⟨_, rfl, h0⟩, ?_⟩
  rintro m σ H ⟨rfl, p⟩
  refine mono σ H _ _ (fun b H1 q => ?_) (hs σ H p)
  cases b with
  | true => exact ⟨_, fun σ' H' ⟨p', l⟩ => ⟨_, l, rfl, p'⟩, q⟩
  | false => exact q
end L2

namespace L2
open PySem PySem.Spec PyProof.Rows

abbrev R2 := V → V → Hp → VK → Prop
/-- a two-place operation on values: f is binaryOp op, inplaceOp op or compareOp op -/
def OpR (X : Cx) (f : Value → Value → Sem Value) (r : R2) : Prop :=
  ∀ (pins : List (Addr × Obj)) (s : Shared) (σ : St) (H : Hp) (x y : V) (v u : Value) (Q : VK), Inv X pins σ H s → RelV x v → RelV y u → r x y H Q →
    wpAny (model X.prog X.w) X.A (f v u) (EP X pins σ Q) X.xe s
/-- a one-place operation -/
def UnR (X : Cx) (f : Value → Sem Value) (r : V → Hp → VK → Prop) : Prop :=
  ∀ (pins : List (Addr × Obj)) (s : Shared) (σ : St) (H : Hp) (x : V) (v : Value) (Q : VK), Inv X pins σ H s → RelV x v → r x H Q →
    wpAny (model X.prog X.w) X.A (f v) (EP X pins σ Q) X.xe s
/-- a call of a value that is known (a builtin, a type) with values -/
def CallR (X : Cx) (f : Value) (r : List V → Hp → VK → Prop) : Prop :=
  ∀ (pins : List (Addr × Obj)) (s : Shared) (σ : St) (H : Hp) (xs : List V) (us : List Value) (Q : VK), Inv X pins σ H s → Vals xs us → r xs H Q →
    wpAny (model X.prog X.w) X.A (call f us) (EP X pins σ Q) X.xe s
/-- a value's truth -/
def TruR (X : Cx) (r : V → Hp → (Bool → Hp → Prop) → Prop) : Prop :=
  ∀ (pins : List (Addr × Obj)) (s : Shared) (σ : St) (H : Hp) (x : V) (v : Value) (Q : Bool → Hp → Prop), Inv X pins σ H s → RelV x v → r x H Q →
    wpAny (model X.prog X.w) X.A (truthy v) (TP X pins σ Q) X.xe s

def tOp (r : R2) (ta tb : TE) : TE := fun σ H Q => ta σ H fun x H1 => tb σ H1 fun y H2 => r x y H2 Q
def tUn (r : V → Hp → VK → Prop) (ta : TE) : TE := fun σ H Q => ta σ H fun x H1 => r x H1 Q
/-- ints in, under C, and a value out -/
def rI (C : Int → Int → Prop) (g : Int → Int → V) : R2 := fun x y H Q => ∃ i j, x = .int i ∧ y = .int j ∧ C i j ∧ Q (g i j) H
def rI0 (g : Int → Int → V) : R2 := fun x y H Q => ∃ i j, x = .int i ∧ y = .int j ∧ Q (g i j) H
def rU (g : Int → V) : V → Hp → VK → Prop := fun x H Q => ∃ i, x = .int i ∧ Q (g i) H

section
variable {X : Cx} {a b c : Expr} {ta tb tc : TE} {pos : Pos}

theorem binT (ha : PE X a ta) (hb : PE X b tb) {pins : List (Addr × Obj)} {s : Shared} {σ : St} {H : Hp} {R : V → V → Hp → Prop} (I : Inv X pins σ H s)
    (h : ta σ H fun x H1 => tb σ H1 fun y H2 => R x y H2) {Q : Value → Shared → Prop} {f : Value → Value → Sem Value}
    (hf : ∀ v u s2 x y H2, Inv X pins σ H2 s2 → RelV x v → RelV y u → R x y H2 → wpAny (model X.prog X.w) X.A (f v u) Q X.xe s2) :
    wpAny (model X.prog X.w) X.A (eval a X.env) (fun v s₁ => wpAny (model X.prog X.w) X.A (eval b X.env) (fun u s₂ => wpAny (model X.prog X.w) X.A (f v u) Q X.xe s₂) X.xe s₁) X.xe s := by
  refine thn (ha pins s σ H _ I h) fun v s1 ⟨x, H1, I1, r1, q1⟩ => ?_
  refine thn (hb pins s1 σ H1 _ I1 q1) fun u s2 ⟨y, H2, I2, r2, q2⟩ => ?_
  exact hf v u s2 x y H2 I2 r1 r2 q2

theorem pe_op {op : Operator} {r : R2} (ho : OpR X (binaryOp op) r) (ha : PE X a ta) (hb : PE X b tb) : PE X (.BinOp a op b pos) (tOp r ta tb) := by
  intro pins s σ H Q I h
  exact wpAny_BinOp (binT ha hb I h fun v u s2 x y H2 I2 rx ry q => ho pins s2 σ H2 x y v u Q I2 rx ry q)
theorem pe_un {op : UnaryOp} {r : V → Hp → VK → Prop} (ho : UnR X (unaryOp op) r) (ha : PE X a ta) : PE X (.UnaryOp op a pos) (tUn r ta) := by
  intro pins s σ H Q I h
  exact UnaryOp_ (thn (ha pins s σ H _ I h) fun v s1 ⟨x, H1, I1, r1, q1⟩ => ho pins s1 σ H1 x v Q I1 r1 q1)
/-- a op= e at a name: the name's slot i -/
theorem augR {op : Operator} {r : R2} (ho : OpR X (inplaceOp op) r) {pins : List (Addr × Obj)} {s : Shared} {σ : St} {H : Hp} {x y : V} {v u : Value} {Q : VK} (I : Inv X pins σ H s)
    (rx : RelV x v) (ry : RelV y u) (q : r x y H Q) : wpAny (model X.prog X.w) X.A (inplaceOp op v u) (EP X pins σ Q) X.xe s := ho pins s σ H x y v u Q I rx ry q

/-! ### ints -/
theorem opI {f : Value → Value → Sem Value} {C : Int → Int → Prop} {g : Int → Int → Int}
    (rule : ∀ (i j : Int) (t u : Tok) (s : Shared) (Q : Value → Shared → Prop) (E : Value → Shared → Prop), C i j → Q (.int (g i j) s.toks) { s with toks := s.toks + 1 } → wpAny (model X.prog X.w) X.A (f (.int i t) (.int j u)) Q E s) :
    OpR X f (rI C fun i j => .int (g i j)) := by
  intro pins s σ H x y v u Q I rx ry h
  obtain ⟨i, j, rfl, rfl, hc, q⟩ := h
  obtain ⟨t, rfl⟩ := rx
  obtain ⟨t', rfl⟩ := ry
  exact rule i j t t' s _ _ hc ⟨.int (g i j), H, I.tok _, ⟨_, rfl⟩, q⟩
theorem opI0 {f : Value → Value → Sem Value} {g : Int → Int → Int}
    (rule : ∀ (i j : Int) (t u : Tok) (s : Shared) (Q : Value → Shared → Prop) (E : Value → Shared → Prop), Q (.int (g i j) s.toks) { s with toks := s.toks + 1 } → wpAny (model X.prog X.w) X.A (f (.int i t) (.int j u)) Q E s) :
    OpR X f (rI0 fun i j => .int (g i j)) := by
  intro pins s σ H x y v u Q I rx ry h
  obtain ⟨i, j, rfl, rfl, q⟩ := h
  obtain ⟨t, rfl⟩ := rx
  obtain ⟨t', rfl⟩ := ry
  exact rule i j t t' s _ _ ⟨.int (g i j), H, I.tok _, ⟨_, rfl⟩, q⟩
theorem opB0 {f : Value → Value → Sem Value} {g : Int → Int → Bool}
    (rule : ∀ (i j : Int) (t u : Tok) (s : Shared) (Q : Value → Shared → Prop) (E : Value → Shared → Prop), Q (.bool (g i j)) s → wpAny (model X.prog X.w) X.A (f (.int i t) (.int j u)) Q E s) :
    OpR X f (rI0 fun i j => .bl (g i j)) := by
  intro pins s σ H x y v u Q I rx ry h
  obtain ⟨i, j, rfl, rfl, q⟩ := h
  obtain ⟨t, rfl⟩ := rx
  obtain ⟨t', rfl⟩ := ry
  exact rule i j t t' s _ _ ⟨.bl (g i j), H, I, rfl, q⟩

def CDiv (i j : Int) : Prop := 0 < j ∧ j < 1073741824
def CDivN (i j : Int) : Prop := j ≠ 0 ∧ j.natAbs < 1073741824
def CPow (i j : Int) : Prop := 0 ≤ j ∧ j ≤ 1000000 ∧ i.natAbs < 2 ^ 64
def CMul (i j : Int) : Prop := (-(2 ^ 64) < i ∧ i < 2 ^ 64) ∨ (-(2 ^ 64) < j ∧ j < 2 ^ 64)
theorem CMul.ok {i j : Int} (h : CMul i j) : IntMulOk i j := by
  rcases h with ⟨h1, h2⟩ | ⟨h1, h2⟩
  · exact .of_left (intBits_le_64 h1 h2)
  · exact .of_right (intBits_le_64 h1 h2)
theorem two_pow_nn (k : Nat) : (0 : Int) ≤ 2 ^ k := by
  rw [two_pow_cast]
  exact Int.natCast_nonneg _

theorem op_add : OpR X (binaryOp .Add) (rI0 fun i j => .int (i + j)) := opI0 fun _ _ _ _ _ _ _ q => add_int q
theorem op_sub : OpR X (binaryOp .Sub) (rI0 fun i j => .int (i - j)) := opI0 fun _ _ _ _ _ _ _ q => sub_int q
theorem op_mul : OpR X (binaryOp .Mult) (rI CMul fun i j => .int (i * j)) := opI fun _ _ _ _ _ _ _ hc q => mul_int q hc.ok
/-- // by a positive divisor -/
theorem op_fdiv : OpR X (binaryOp .FloorDiv) (rI CDiv fun i j => .int (i / j)) := opI fun i j _ _ _ _ _ hc q => by
  have h1 : (0 : Int) < j := hc.1
  have h2 : j < 1073741824 := hc.2
  exact floordiv_int (by omega) (by rw [Int.fdiv_eq_ediv_of_nonneg i (by omega)]; exact q) (.inl (PyProof.noPylong_small (by omega)))
theorem op_fdivN : OpR X (binaryOp .FloorDiv) (rI CDivN fun i j => .int (i.fdiv j)) := opI fun _ _ _ _ _ _ _ hc q => floordiv_int hc.1 q (.inl (PyProof.noPylong_small hc.2))
/-- % by a positive divisor of any size -/
theorem op_mod : OpR X (binaryOp .Mod) (rI (fun _ j => 0 < j) fun i j => .int (i % j)) := opI fun i j _ _ _ _ _ hc q => by
  have h1 : (0 : Int) < j := hc
  exact mod_int' (by omega) (by rw [Int.fmod_eq_emod_of_nonneg i (by omega)]; exact q)
theorem op_modN : OpR X (binaryOp .Mod) (rI (fun _ j => j ≠ 0) fun i j => .int (i.fmod j)) := opI fun _ _ _ _ _ _ _ hc q => mod_int' hc q
theorem op_pow : OpR X (binaryOp .Pow) (rI CPow fun i j => .int (i ^ j.toNat)) := opI fun _ _ _ _ _ _ _ hc q => pow_int_small hc.1 hc.2.1 hc.2.2 q
theorem op_shl : OpR X (binaryOp .LShift) (rI CPow fun i j => .int (i * 2 ^ j.toNat)) := opI fun _ _ _ _ _ _ _ hc q => lshift_int_small hc.1 hc.2.1 hc.2.2 q
theorem op_shr : OpR X (binaryOp .RShift) (rI (fun _ j => 0 ≤ j) fun i j => .int (i / 2 ^ j.toNat)) := opI fun i j _ _ _ _ _ hc q =>
  rshift_int hc (by rw [Int.fdiv_eq_ediv_of_nonneg i (two_pow_nn _)]; exact q)
theorem op_and : OpR X (binaryOp .BitAnd) (rI0 fun i j => .int (Builtin.bitAnd i j)) := opI0 fun _ _ _ _ _ _ _ q => and_int q
theorem op_or : OpR X (binaryOp .BitOr) (rI0 fun i j => .int (Builtin.bitOr i j)) := opI0 fun _ _ _ _ _ _ _ q => or_int q
theorem op_xor : OpR X (binaryOp .BitXor) (rI0 fun i j => .int (Builtin.bitXor i j)) := opI0 fun _ _ _ _ _ _ _ q => xor_int q

theorem iop_add : OpR X (inplaceOp .Add) (rI0 fun i j => .int (i + j)) := opI0 fun _ _ _ _ _ _ _ q => iadd_int q
theorem iop_sub : OpR X (inplaceOp .Sub) (rI0 fun i j => .int (i - j)) := opI0 fun _ _ _ _ _ _ _ q => isub_int q
theorem iop_mul : OpR X (inplaceOp .Mult) (rI CMul fun i j => .int (i * j)) := opI fun _ _ _ _ _ _ _ hc q => imul_int q hc.ok
theorem iop_fdiv : OpR X (inplaceOp .FloorDiv) (rI CDiv fun i j => .int (i / j)) := opI fun i j _ _ _ _ _ hc q => by
  have h1 : (0 : Int) < j := hc.1
  have h2 : j < 1073741824 := hc.2
  exact ifloordiv_int (by omega) (by rw [Int.fdiv_eq_ediv_of_nonneg i (by omega)]; exact q) (.inl (PyProof.noPylong_small (by omega)))
theorem iop_mod : OpR X (inplaceOp .Mod) (rI (fun _ j => 0 < j) fun i j => .int (i % j)) := opI fun i j _ _ _ _ _ hc q => by
  have h1 : (0 : Int) < j := hc
  exact imod_int (by omega) (by rw [Int.fmod_eq_emod_of_nonneg i (by omega)]; exact q)
theorem iop_shl : OpR X (inplaceOp .LShift) (rI CPow fun i j => .int (i * 2 ^ j.toNat)) := opI fun _ _ _ _ _ _ _ hc q => ilshift_int_small hc.1 hc.2.1 hc.2.2 q
theorem iop_shr : OpR X (inplaceOp .RShift) (rI (fun _ j => 0 ≤ j) fun i j => .int (i / 2 ^ j.toNat)) := opI fun i j _ _ _ _ _ hc q =>
  irshift_int hc (by rw [Int.fdiv_eq_ediv_of_nonneg i (two_pow_nn _)]; exact q)
theorem iop_and : OpR X (inplaceOp .BitAnd) (rI0 fun i j => .int (Builtin.bitAnd i j)) := opI0 fun _ _ _ _ _ _ _ q => iand_int q
theorem iop_or : OpR X (inplaceOp .BitOr) (rI0 fun i j => .int (Builtin.bitOr i j)) := opI0 fun _ _ _ _ _ _ _ q => ior_int q
theorem iop_xor : OpR X (inplaceOp .BitXor) (rI0 fun i j => .int (Builtin.bitXor i j)) := opI0 fun _ _ _ _ _ _ _ q => ixor_int q

theorem unI {f : Value → Sem Value} {g : Int → Int}
    (rule : ∀ (i : Int) (t : Tok) (s : Shared) (Q : Value → Shared → Prop) (E : Value → Shared → Prop), Q (.int (g i) s.toks) { s with toks := s.toks + 1 } → wpAny (model X.prog X.w) X.A (f (.int i t)) Q E s) :
    UnR X f (rU fun i => .int (g i)) := by
  intro pins s σ H x v Q I rx h
  obtain ⟨i, rfl, q⟩ := h
  obtain ⟨t, rfl⟩ := rx
  exact rule i t s _ _ ⟨.int (g i), H, I.tok _, ⟨_, rfl⟩, q⟩
theorem un_neg : UnR X (unaryOp .USub) (rU fun i => .int (-i)) := unI fun _ _ _ _ _ q => neg_int q
theorem un_inv : UnR X (unaryOp .Invert) (rU fun i => .int (Builtin.bitNot i)) := unI fun _ _ _ _ _ q => invert_int q

/-! ### bools among ints: n += (a < b) -/
theorem op_add_ib : OpR X (binaryOp .Add) (fun x y H Q => ∃ i k, x = .int i ∧ y = .bl k ∧ Q (.int (i + b2i k)) H) := by
  intro pins s σ H x y v u Q I rx ry h
  obtain ⟨i, k, rfl, rfl, q⟩ := h
  obtain ⟨t, rfl⟩ := rx
  cases ry
  exact add_int_bool ⟨.int (i + b2i k), H, I.tok _, ⟨_, rfl⟩, q⟩
end

/-! ### comparisons -/
/-- the scalars that == tells apart as data does -/
def scal : V → V → Bool
  | .non, .non => true | .non, .int _ => true | .int _, .non => true | .non, .bl _ => true | .bl _, .non => true | .non, .str _ => true | .str _, .non => true
  | .int _, .int _ => true | .bl _, .bl _ => true | .str _, .str _ => true | .byt _, .byt _ => true
  | .int _, .str _ => true | .str _, .int _ => true | .bl _, .str _ => true | .str _, .bl _ => true
  | _, _ => false
def rEq : R2 := fun x y H Q => scal x y = true ∧ Q (.bl (decide (x = y))) H
def rNe : R2 := fun x y H Q => scal x y = true ∧ Q (.bl (!decide (x = y))) H

theorem dec_int {i j : Int} : decide (V.int i = V.int j) = (i == j) := by
  rw [Bool.eq_iff_iff]
  simp
theorem dec_bl {i j : Bool} : decide (V.bl i = V.bl j) = (i == j) := by
  rw [Bool.eq_iff_iff]
  simp
theorem dec_str {i j : Str} : decide (V.str i = V.str j) = (i == j) := by
  rw [Bool.eq_iff_iff]
  simp
theorem dec_byt {i j : Array UInt8} : decide (V.byt i = V.byt j) = (i.toList == j.toList) := by
  rw [Bool.eq_iff_iff]
  cases i
  cases j
  simp

section
variable {X : Cx} {a b c : Expr} {ta tb tc : TE} {pos : Pos}
theorem fin_bl {pins : List (Addr × Obj)} {σ : St} {H : Hp} {s : Shared} {Q : VK} {k k' : Bool} (I : Inv X pins σ H s) (q : Q (.bl k) H) (e : k = k') : EP X pins σ Q (.bool k') s := by
  subst e
  exact ⟨.bl k, H, I, rfl, q⟩
theorem op_eq : OpR X (compareOp .Eq) rEq := by
  intro pins s σ H x y v u Q I rx ry h
  obtain ⟨hs, q⟩ := h
  cases x with
  | non =>
    cases rx
    cases y with
    | non => cases ry; exact PySem.EqNone.eq_none_none (fin_bl I q (by simp))
    | bl j => cases ry; exact PySem.EqNone.eq_none_bool (fin_bl I q (by simp))
    | int j => obtain ⟨t', rfl⟩ := ry; exact PySem.EqNone.eq_none_int (fin_bl I q (by simp))
    | str j => obtain ⟨t', rfl⟩ := ry; exact PySem.EqNone.eq_none_str (fin_bl I q (by simp))
    | _ => exact absurd (show false = true from hs) Bool.false_ne_true
  | bl i =>
    cases rx
    cases y with
    | non => cases ry; exact PySem.EqNone.eq_bool_none (fin_bl I q (by simp))
    | bl j => cases ry; exact eq_bool (fin_bl I q dec_bl)
    | str j => obtain ⟨t', rfl⟩ := ry; exact PySem.EqMixed.eq_bool_str (fin_bl I q (by simp))
    | _ => exact absurd (show false = true from hs) Bool.false_ne_true
  | int i =>
    obtain ⟨t, rfl⟩ := rx
    cases y with
    | non => cases ry; exact PySem.EqNone.eq_int_none (fin_bl I q (by simp))
    | int j => obtain ⟨t', rfl⟩ := ry; exact eq_int (fin_bl I q dec_int)
    | str j => obtain ⟨t', rfl⟩ := ry; exact PySem.EqMixed.eq_int_str (fin_bl I q (by simp))
    | _ => exact absurd (show false = true from hs) Bool.false_ne_true
  | str i =>
    obtain ⟨t, rfl⟩ := rx
    cases y with
    | non => cases ry; exact PySem.EqNone.eq_str_none (fin_bl I q (by simp))
    | bl j => cases ry; exact PySem.EqMixed.eq_str_bool (fin_bl I q (by simp))
    | int j => obtain ⟨t', rfl⟩ := ry; exact PySem.EqMixed.eq_str_int (fin_bl I q (by simp))
    | str j => obtain ⟨t', rfl⟩ := ry; exact eq_str (fin_bl I q dec_str)
    | _ => exact absurd (show false = true from hs) Bool.false_ne_true
  | byt i =>
    obtain ⟨t, rfl⟩ := rx
    cases y with
    | byt j => obtain ⟨t', rfl⟩ := ry; exact PySem.W.eq_bytes (fin_bl I q dec_byt)
    | _ => exact absurd (show false = true from hs) Bool.false_ne_true
  | _ => cases y <;> exact absurd (show false = true from hs) Bool.false_ne_true
theorem op_ne : OpR X (compareOp .NotEq) rNe := by
  intro pins s σ H x y v u Q I rx ry h
  obtain ⟨hs, q⟩ := h
  cases x with
  | non =>
    cases rx
    cases y with
    | non => cases ry; exact PySem.EqNone.ne_none_none (fin_bl I q (by simp))
    | bl j => cases ry; exact PySem.EqNone.ne_none_bool (fin_bl I q (by simp))
    | int j => obtain ⟨t', rfl⟩ := ry; exact PySem.EqNone.ne_none_int (fin_bl I q (by simp))
    | str j => obtain ⟨t', rfl⟩ := ry; exact PySem.EqNone.ne_none_str (fin_bl I q (by simp))
    | _ => exact absurd (show false = true from hs) Bool.false_ne_true
  | bl i =>
    cases rx
    cases y with
    | non => cases ry; exact PySem.EqNone.ne_bool_none (fin_bl I q (by simp))
    | bl j => cases ry; exact ne_bool (fin_bl I q (congrArg not dec_bl))
    | str j => obtain ⟨t', rfl⟩ := ry; exact PySem.EqMixed.ne_bool_str (fin_bl I q (by simp))
    | _ => exact absurd (show false = true from hs) Bool.false_ne_true
  | int i =>
    obtain ⟨t, rfl⟩ := rx
    cases y with
    | non => cases ry; exact PySem.EqNone.ne_int_none (fin_bl I q (by simp))
    | int j => obtain ⟨t', rfl⟩ := ry; exact ne_int (fin_bl I q (congrArg not dec_int))
    | str j => obtain ⟨t', rfl⟩ := ry; exact PySem.EqMixed.ne_int_str (fin_bl I q (by simp))
    | _ => exact absurd (show false = true from hs) Bool.false_ne_true
  | str i =>
    obtain ⟨t, rfl⟩ := rx
    cases y with
    | non => cases ry; exact PySem.EqNone.ne_str_none (fin_bl I q (by simp))
    | bl j => cases ry; exact PySem.EqMixed.ne_str_bool (fin_bl I q (by simp))
    | int j => obtain ⟨t', rfl⟩ := ry; exact PySem.EqMixed.ne_str_int (fin_bl I q (by simp))
    | str j => obtain ⟨t', rfl⟩ := ry; exact ne_str (fin_bl I q (congrArg not dec_str))
    | _ => exact absurd (show false = true from hs) Bool.false_ne_true
  | byt i =>
    obtain ⟨t, rfl⟩ := rx
    cases y with
    | byt j => obtain ⟨t', rfl⟩ := ry; exact PySem.W.ne_bytes (fin_bl I q (congrArg not dec_byt))
    | _ => exact absurd (show false = true from hs) Bool.false_ne_true
  | _ => cases y <;> exact absurd (show false = true from hs) Bool.false_ne_true

theorem op_lt : OpR X (compareOp .Lt) (rI0 fun i j => .bl (decide (i < j))) := opB0 fun _ _ _ _ _ _ _ q => lt_int q
theorem op_le : OpR X (compareOp .LtE) (rI0 fun i j => .bl (decide (i ≤ j))) := opB0 fun _ _ _ _ _ _ _ q => le_int q
theorem op_gt : OpR X (compareOp .Gt) (rI0 fun i j => .bl (decide (j < i))) := opB0 fun _ _ _ _ _ _ _ q => gt_int q
theorem op_ge : OpR X (compareOp .GtE) (rI0 fun i j => .bl (decide (j ≤ i))) := opB0 fun _ _ _ _ _ _ _ q => ge_int q
theorem op_lt_str : OpR X (compareOp .Lt) (fun x y H Q => ∃ i j, x = .str i ∧ y = .str j ∧ Q (.bl (decide (i.cps.toList < j.cps.toList))) H) := by
  intro pins s σ H x y v u Q I rx ry h
  obtain ⟨i, j, rfl, rfl, q⟩ := h
  obtain ⟨t, rfl⟩ := rx
  obtain ⟨t', rfl⟩ := ry
  exact lt_str (fin_bl I q rfl)
/-- the one string within the other -/
theorem op_in_str : OpR X (compareOp .In) (fun x y H Q => ∃ i j, x = .str i ∧ y = .str j ∧ Q (.bl (!(Builtin.Str.occurrences j i 0 j.length 1).isEmpty)) H) := by
  intro pins s σ H x y v u Q I rx ry h
  obtain ⟨i, j, rfl, rfl, q⟩ := h
  obtain ⟨t, rfl⟩ := rx
  obtain ⟨t', rfl⟩ := ry
  exact in_str (fin_bl I q rfl)

/-- is None, is not None: the right side a value none -/
theorem op_isN : OpR X (compareOp .Is) (fun x y H Q => y = .non ∧ Q (.bl (decide (x = .non))) H) := by
  intro pins s σ H x y v u Q I rx ry h
  obtain ⟨rfl, q⟩ := h
  cases ry
  refine is_none_gen (fin_bl I q ?_)
  cases x <;> first
    | (cases rx; rfl)
    | (obtain ⟨t, rfl⟩ := rx; rfl)
theorem op_notN : OpR X (compareOp .IsNot) (fun x y H Q => y = .non ∧ Q (.bl (!decide (x = .non))) H) := by
  intro pins s σ H x y v u Q I rx ry h
  obtain ⟨rfl, q⟩ := h
  cases ry
  refine isnot_none_gen (fin_bl I q ?_)
  cases x <;> first
    | (cases rx; rfl)
    | (obtain ⟨t, rfl⟩ := rx; rfl)

theorem op_notin_str : OpR X (compareOp .NotIn) (fun x y H Q => ∃ i j, x = .str i ∧ y = .str j ∧ Q (.bl (!(!(Builtin.Str.occurrences j i 0 j.length 1).isEmpty))) H) := by
  intro pins s σ H x y v u Q I rx ry h
  obtain ⟨i, j, rfl, rfl, q⟩ := h
  obtain ⟨t, rfl⟩ := rx
  obtain ⟨t', rfl⟩ := ry
  exact notIn_str (fin_bl I q rfl)
/-- is, is not of two objects that are tracked lists or instances -/
def isObj : HO → Bool
  | .lst _ => true
  | .ins _ _ _ => true
  | _ => false
theorem obj_there {pins : List (Addr × Obj)} {s : Shared} {σ : St} {H : Hp} {a : Addr} {o : HO} (I : Inv X pins σ H s) (h : H a = some o) (p : isObj o = true) : ∃ ob, s.heap.get? a = some ob ∧ ob.cls ≠ .type "tuple" := by
  cases o with
  | lst xs =>
    obtain ⟨_, its, n, _, e⟩ : xs.length ≤ sizeLine ∧ ∃ (its : List Value) (n : Nat), Vals xs its ∧ s.heap.get? a = some { cls := .type "list", data := .seq its.toArray n } := I.hok a _ h
    exact ⟨_, e, (by show Value.type "list" ≠ .type "tuple"; decide +kernel)⟩
  | ins C dx fs =>
    have x := I.hok a _ h
    obtain ⟨_, _, _, e, _⟩ := x
    exact ⟨_, e, (by show Value.ref C ≠ .type "tuple"; exact fun z => by cases z)⟩
  | _ => exact absurd (show false = true from p) Bool.false_ne_true
theorem op_is_ref : OpR X (compareOp .Is) (fun x y H Q => ∃ a b oa ob, x = .ref a ∧ y = .ref b ∧ H a = some oa ∧ isObj oa = true ∧ H b = some ob ∧ isObj ob = true ∧ Q (.bl (decide (a = b))) H) := by
  intro pins s σ H x y v u Q I rx ry h
  obtain ⟨a, b, oa, ob, rfl, rfl, ha, pa, hb, pb, q⟩ := h
  cases rx
  cases ry
  obtain ⟨o1, e1, n1⟩ := obj_there I ha pa
  obtain ⟨o2, e2, _⟩ := obj_there I hb pb
  by_cases z : a = b
  · subst z
    exact wpAny_is_ref_self (fin_bl I q (by simp))
  · exact wpAny_is_ref_other z e1 e2 n1 (fin_bl I q (by simp [z]))
theorem op_isnot_ref : OpR X (compareOp .IsNot) (fun x y H Q => ∃ a b oa ob, x = .ref a ∧ y = .ref b ∧ H a = some oa ∧ isObj oa = true ∧ H b = some ob ∧ isObj ob = true ∧ Q (.bl (!decide (a = b))) H) := by
  intro pins s σ H x y v u Q I rx ry h
  obtain ⟨a, b, oa, ob, rfl, rfl, ha, pa, hb, pb, q⟩ := h
  cases rx
  cases ry
  obtain ⟨o1, e1, n1⟩ := obj_there I ha pa
  obtain ⟨o2, e2, _⟩ := obj_there I hb pb
  by_cases z : a = b
  · subst z
    exact wpAny_isNot_ref_self (fin_bl I q (by simp))
  · exact wpAny_isNot_ref_other z e1 e2 n1 (fin_bl I q (by simp [z]))

/-- two rules for one operation: by cases -/
theorem OpR.or {f : Value → Value → Sem Value} {r r' : R2} (h : OpR X f r) (h' : OpR X f r') : OpR X f (fun x y H Q => r x y H Q ∨ r' x y H Q) := by
  intro pins s σ H x y v u Q I rx ry q
  rcases q with q | q
  · exact h pins s σ H x y v u Q I rx ry q
  · exact h' pins s σ H x y v u Q I rx ry q

theorem nomark (b : Expr) {op : CmpOp} (h : op ≠ .In := by decide) (h2 : op ≠ .NotIn := by decide) : behindInMarks op b = false := by
  have e1 : (op == CmpOp.In) = false := by cases op <;> first | rfl | exact absurd rfl h
  have e2 : (op == CmpOp.NotIn) = false := by cases op <;> first | rfl | exact absurd rfl h2
  cases b <;> simp [behindInMarks, e1, e2]
/-- a comparison as a value; hm: nomark b, or (for in, not in) by with_unfolding_all rfl -/
theorem pe_cmpR {op : CmpOp} {r : R2} (ho : OpR X (compareOp op) r) (ha : PE X a ta) (hb : PE X b tb) (hm : behindInMarks op b = false) : PE X (.Compare a [op] [b] pos) (tOp r ta tb) := by
  intro pins s σ H Q I h
  exact wpAny_Compare1 (binT ha hb I h fun v u s2 x y H2 I2 rx ry q => ho pins s2 σ H2 x y v u Q I2 rx ry q) hm
/-- a reading of a value as a test -/
def tTest (t : TE) : TT := fun σ H Q => t σ H fun x H' => ∃ k, x = .bl k ∧ Q k H'
theorem pt_cmpR {op : CmpOp} {r : R2} (ho : OpR X (compareOp op) r) (ha : PE X a ta) (hb : PE X b tb) (hm : behindInMarks op b = false) : PT X (.Compare a [op] [b] pos) (tTest (tOp r ta tb)) := by
  intro pins s σ H Q I h
  refine wpAny_isTrue_Compare1 (thn (ha pins s σ H _ I h) fun v s1 ⟨x, H1, I1, r1, q1⟩ => thn (hb pins s1 σ H1 _ I1 q1) fun u s2 ⟨y, H2, I2, r2, q2⟩ =>
    thn (ho pins s2 σ H2 x y v u _ I2 r1 r2 q2) fun c s3 ⟨z, H3, I3, r3, k, e, q3⟩ => ?_) hm
  subst e
  cases r3
  exact wpAny_truthy_bool ⟨H3, I3, q3⟩
/-- a op1 b op2 c -/
def tChain (r r' : R2) (ta tb tc : TE) : TE := fun σ H Q => ta σ H fun x H1 => tb σ H1 fun y H2 => r x y H2 fun z H3 => ∃ k, z = .bl k ∧
  (if k = true then tc σ H3 fun w' H4 => r' y w' H4 Q else Q (.bl false) H3)
theorem pe_chain {op op' : CmpOp} {r r' : R2} (ho : OpR X (compareOp op) r) (ho' : OpR X (compareOp op') r') (ha : PE X a ta) (hb : PE X b tb) (hc : PE X c tc)
    (hm : lastMarks [op, op'] [b, c] = false := by with_unfolding_all rfl) : PE X (.Compare a [op, op'] [b, c] pos) (tChain r r' ta tb tc) := by
  intro pins s σ H Q I h
  refine Compare_chain (thn (ha pins s σ H _ I h) fun v s1 ⟨x, H1, I1, r1, q1⟩ => chain_link (thn (hb pins s1 σ H1 _ I1 q1) fun u s2 ⟨y, H2, I2, r2, q2⟩ =>
    thn (ho pins s2 σ H2 x y v u _ I2 r1 r2 q2) fun d s3 ⟨z, H3, I3, r3, k, e, q3⟩ => ?_)) hm
  subst e
  cases r3
  refine wpAny_truthy_bool ?_
  cases k with
  | false => exact ite_ff ⟨.bl false, H3, I3, rfl, q3⟩
  | true => exact ite_tt (chain_last (thn (hc pins s3 σ H3 _ I3 q3) fun w' s4 ⟨z', H4, I4, r4, q4⟩ => ho' pins s4 σ H4 y z' u w' Q I4 r2 r4 q4))
theorem pt_chain {op op' : CmpOp} {r r' : R2} (ho : OpR X (compareOp op) r) (ho' : OpR X (compareOp op') r') (ha : PE X a ta) (hb : PE X b tb) (hc : PE X c tc)
    (hm : lastMarks [op, op'] [b, c] = false := by with_unfolding_all rfl) : PT X (.Compare a [op, op'] [b, c] pos) (tTest (tChain r r' ta tb tc)) := by
  intro pins s σ H Q I h
  refine isTrue_chain (thn (ha pins s σ H _ I h) fun v s1 ⟨x, H1, I1, r1, q1⟩ => test_link (thn (hb pins s1 σ H1 _ I1 q1) fun u s2 ⟨y, H2, I2, r2, q2⟩ =>
    thn (ho pins s2 σ H2 x y v u _ I2 r1 r2 q2) fun d s3 ⟨z, H3, I3, r3, k, e, q3⟩ => ?_)) hm
  subst e
  cases r3
  refine wpAny_truthy_bool ?_
  cases k with
  | false =>
    obtain ⟨k', e', q'⟩ := q3
    cases e'
    exact ite_ff ⟨H3, I3, q'⟩
  | true =>
    refine ite_tt (test_last (thn (hc pins s3 σ H3 _ I3 q3) fun w' s4 ⟨z', H4, I4, r4, q4⟩ => thn (ho' pins s4 σ H4 y z' u w' _ I4 r2 r4 q4) fun d' s5 ⟨z2, H5, I5, r5, k2, e2, q5⟩ => ?_))
    subst e2
    cases r5
    exact wpAny_truthy_bool ⟨H5, I5, q5⟩

/-! ### truth -/
/-- a value's truth by the abstract heap -/
def TruV (K : PySem.W.Frag) (x : V) (H : Hp) (k : Bool) : Prop :=
  match x with
  | .non => k = false
  | .bl b => k = b
  | .int i => k = (i != 0)
  | .str y => y.length ≤ sizeLine ∧ k = ((y.length : Int) != 0)
  | .byt y => y.size ≤ sizeLine ∧ k = ((y.size : Int) != 0)
  | .ref p => (∃ xs, SqL K H p xs ∧ k = !xs.isEmpty) ∨ (∃ xs, SqT K H p xs ∧ k = !xs.isEmpty) ∨ ∃ kvs, H p = some (.dK kvs) ∧ k = !kvs.isEmpty
  | _ => False
theorem isEmpty_kv {κ : Type} {kvs : List (κ × V)} {vs : List (κ × Value)} (r : KV kvs vs) : (!vs.isEmpty) = !kvs.isEmpty := by
  cases r <;> rfl
theorem isEmpty_of {xs : List V} {its : List Value} (r : Vals xs its) : (!its.toArray.isEmpty) = !xs.isEmpty := by
  cases r <;> simp
theorem line63 : (sizeLine : Nat) < 2 ^ 63 := by rw [sizeLine_eq]; decide
theorem tru_ok : TruR X (fun x H Q => ∃ k, TruV X.K x H k ∧ Q k H) := by
  intro pins s σ H x v Q I rx h
  obtain ⟨k, e, q⟩ := h
  have hl := line63
  have hs : sizeLine = 16777216 := sizeLine_eq
  cases x with
  | non =>
    cases rx
    have e' : k = false := e
    subst e'
    exact truthy_none ⟨H, I, q⟩
  | bl b =>
    cases rx
    have e' : k = b := e
    subst e'
    exact wpAny_truthy_bool ⟨H, I, q⟩
  | int i =>
    obtain ⟨t, rfl⟩ := rx
    have e' : k = (i != 0) := e
    subst e'
    exact PySem.P.truthy_int ⟨H, I, q⟩
  | str y =>
    obtain ⟨t, rfl⟩ := rx
    obtain ⟨hy, e'⟩ : y.length ≤ sizeLine ∧ k = ((y.length : Int) != 0) := e
    subst e'
    exact PySem.P.truthy_str (by omega) ⟨H, I.tok _, q⟩
  | byt y =>
    obtain ⟨t, rfl⟩ := rx
    obtain ⟨hy, e'⟩ : y.size ≤ sizeLine ∧ k = ((y.size : Int) != 0) := e
    subst e'
    exact PySem.W.truthy_bytes (by omega) ⟨H, I.tok _, q⟩
  | ref p =>
    cases rx
    have e' : (∃ xs, SqL X.K H p xs ∧ k = !xs.isEmpty) ∨ (∃ xs, SqT X.K H p xs ∧ k = !xs.isEmpty) ∨ ∃ kvs, H p = some (.dK kvs) ∧ k = !kvs.isEmpty := e
    rcases e' with ⟨xs, hx, e'⟩ | ⟨xs, hx, e'⟩ | ⟨kvs, hx, e'⟩
    · subst e'
      obtain ⟨its, r, pl, hz⟩ := I.list hx
      have hlen := r.length
      exact wpAny_truthy_list pl.isList (by simp only [List.size_toArray]; omega) ⟨H, I.tok _, by rw [isEmpty_of r]; exact q⟩
    · subst e'
      obtain ⟨its, r, pl, hz⟩ := I.tuple hx
      have hlen := r.length
      exact truthy_tuple pl (by simp only [List.size_toArray]; omega) ⟨H, I.tok _, by rw [isEmpty_of r]; exact q⟩
    · subst e'
      obtain ⟨hz, hS, vs, r, m⟩ : kvs.length ≤ sizeLine ∧ (p == sysModules) = false ∧ ∃ vs, KV kvs vs ∧ s.heap.DictOf (mixKind X.prog X.w) p vs := I.hok p _ hx
      have hlen : kvs.length = vs.length := Paired.length r
      exact wpAny_truthy_dict hS m (by omega) ⟨H, I.tok _, by rw [isEmpty_kv r]; exact q⟩
  | _ => exact (show False from e).elim
/-- any expression whose test is its value's truth (a name, a call, a subscript, a field ..: he by fun _ => rfl) -/
theorem pt_truth (ha : PE X a ta) (he : ∀ whole, isTrue a X.env whole = (do let v ← whole; standAt a.pos; holding [v] (truthy v))) :
    PT X a (fun σ H Q => ta σ H fun x H' => ∃ k, TruV X.K x H' k ∧ Q k H') := by
  intro pins s σ H Q I h
  exact isTrue_plain (thn (ha pins s σ H _ I h) fun v s1 ⟨x, H1, I1, r1, q1⟩ => tru_ok pins s1 σ H1 x v Q I1 r1 q1) (he _)

/-! ### strs and bytes -/
theorem pe_byt {x : List UInt8} {k : Nat} : PE X (.Constant (.bytes x) k pos) (fun _ H Q => Q (.byt x.toArray) H) := fun _ _ _ H _ I h => PySem.W.Constant_bytes ⟨.byt x.toArray, H, I.tok _, ⟨_, rfl⟩, h⟩
theorem op_add_str : OpR X (binaryOp .Add) (fun x y H Q => ∃ i j, x = .str i ∧ y = .str j ∧ i.length + j.length ≤ sizeLine ∧ Q (.str (i ++ j)) H) := by
  intro pins s σ H x y v u Q I rx ry h
  obtain ⟨i, j, rfl, rfl, hz, q⟩ := h
  obtain ⟨t, rfl⟩ := rx
  obtain ⟨t', rfl⟩ := ry
  exact add_str (fun t' tk => ⟨.str (i ++ j), H, I.tok _, ⟨_, rfl⟩, q⟩) hz
theorem iop_add_str : OpR X (inplaceOp .Add) (fun x y H Q => ∃ i j, x = .str i ∧ y = .str j ∧ i.length + j.length ≤ sizeLine ∧ Q (.str (i ++ j)) H) := by
  intro pins s σ H x y v u Q I rx ry h
  obtain ⟨i, j, rfl, rfl, hz, q⟩ := h
  obtain ⟨t, rfl⟩ := rx
  obtain ⟨t', rfl⟩ := ry
  exact iadd_str (fun t' tk => ⟨.str (i ++ j), H, I.tok _, ⟨_, rfl⟩, q⟩) hz
theorem op_add_byt : OpR X (binaryOp .Add) (fun x y H Q => ∃ i j, x = .byt i ∧ y = .byt j ∧ i.size + j.size ≤ 16777216 ∧ Q (.byt (i ++ j)) H) := by
  intro pins s σ H x y v u Q I rx ry h
  obtain ⟨i, j, rfl, rfl, hz, q⟩ := h
  obtain ⟨t, rfl⟩ := rx
  obtain ⟨t', rfl⟩ := ry
  exact PySem.W.KBy.add_bytes hz (fun t' tk => ⟨.byt (i ++ j), H, I.tok _, ⟨_, rfl⟩, q⟩)

def PlainIxT (b : Expr) : Prop := ∀ o i, subscripted b false o i = operate [o, i] (getItem o i)
/-- s[i], 0 ≤ i < len -/
theorem pe_item_str (ha : PE X a ta) (hb : PE X b tb) (hs : PlainIxT b) :
    PE X (.Subscript a b pos) (tOp (fun x y H Q => ∃ z i c, x = .str z ∧ y = .int i ∧ 0 ≤ i ∧ i < 2 ^ 63 ∧ i < z.length ∧ z.cps[i.toNat]? = some c ∧ Q (.str ⟨#[c]⟩) H) ta tb) := by
  intro pins s σ H Q I h
  refine Subscript_ (binT ha hb I h fun v u s2 x y H2 I2 rx ry q => ?_)
  obtain ⟨z, i, c, rfl, rfl, h0, h63, h1, hc, q⟩ := q
  obtain ⟨t, rfl⟩ := rx
  obtain ⟨t', rfl⟩ := ry
  have e : seqIndex? i z.length = some i.toNat := PySem.StrLaws.seqIndex_nonneg h0 h1
  exact tail_any (typeIs_str s2 z t) slot_str_getitem.lookup (getItem_str (c := c) (by
    have e1 : decide (i < -(2 ^ 63 : Int)) = false := decide_eq_false (by omega)
    have e2 : decide (i ≥ 2 ^ 63) = false := decide_eq_false (by omega)
    rw [e1, e2] <;> rfl) (by rw [e]; exact hc) ⟨.str ⟨#[c]⟩, H2, I2.tok _, ⟨_, rfl⟩, q⟩) (hs _ _)
/-- b[i], 0 ≤ i < len -/
theorem pe_item_byt (ha : PE X a ta) (hb : PE X b tb) (hs : PlainIxT b) :
    PE X (.Subscript a b pos) (tOp (fun x y H Q => ∃ (z : List UInt8) (i : Int), x = .byt z.toArray ∧ y = .int i ∧ z.length ≤ sizeLine ∧ 0 ≤ i ∧ i < z.length ∧ Q (.int ((z.getD i.toNat 0).toNat : Nat)) H) ta tb) := by
  intro pins s σ H Q I h
  refine Subscript_ (binT ha hb I h fun v u s2 x y H2 I2 rx ry q => ?_)
  obtain ⟨z, i, rfl, rfl, hz, h0, h1, q⟩ := q
  obtain ⟨t, rfl⟩ := rx
  obtain ⟨t', rfl⟩ := ry
  have hl : sizeLine = 16777216 := sizeLine_eq
  exact tail_any (PySem.W.typeIs_bytes s2 z.toArray t) PySem.W.FB.slot_bytes_getitem.lookup (PySem.W.getItem_bytes (by omega) h0 h1 ⟨.int ((z.getD i.toNat 0).toNat : Nat), H2, I2.tok _, ⟨_, rfl⟩, q⟩) (hs _ _)

/-! ### scalar builtins, by CallR -/
theorem vals1 {x : V} {us : List Value} (r : Vals [x] us) : ∃ u, us = [u] ∧ RelV x u := by
  cases r with
  | cons r1 r2 => cases r2; exact ⟨_, rfl, r1⟩
theorem vals2 {x y : V} {us : List Value} (r : Vals [x, y] us) : ∃ u w', us = [u, w'] ∧ RelV x u ∧ RelV y w' := by
  cases r with
  | cons r1 r2 =>
    cases r2 with
    | cons r3 r4 => cases r4; exact ⟨_, _, rfl, r1, r3⟩
theorem call_abs : CallR X (.builtin "abs") (fun xs H Q => ∃ i, xs = [.int i] ∧ Q (.int (if i < 0 then -i else i)) H) := by
  intro pins s σ H xs us Q I r h
  obtain ⟨i, rfl, q⟩ := h
  obtain ⟨u, rfl, t, rfl⟩ := vals1 r
  exact call_abs_int fun u tk => ⟨.int (if i < 0 then -i else i), H, I.tok _, ⟨_, rfl⟩, q⟩
theorem call_max2 (hc : X.calm = true) : CallR X (.builtin "max") (fun xs H Q => ∃ i j, xs = [.int i, .int j] ∧ Q (.int (if j > i then j else i)) H) := by
  intro pins s σ H xs us Q I r h
  obtain ⟨i, j, rfl, q⟩ := h
  obtain ⟨u, w', rfl, ⟨t, rfl⟩, ⟨t', rfl⟩⟩ := vals2 r
  refine max_two_ints (I.ok.hd hc) fun h' tk k => ⟨_, H, I.kept k, ?_, q⟩
  by_cases hj : j > i
  · rw [if_pos hj, if_pos hj]; exact ⟨_, rfl⟩
  · rw [if_neg hj, if_neg hj]; exact ⟨_, rfl⟩
theorem call_min2 (hc : X.calm = true) : CallR X (.builtin "min") (fun xs H Q => ∃ i j, xs = [.int i, .int j] ∧ Q (.int (if j < i then j else i)) H) := by
  intro pins s σ H xs us Q I r h
  obtain ⟨i, j, rfl, q⟩ := h
  obtain ⟨u, w', rfl, ⟨t, rfl⟩, ⟨t', rfl⟩⟩ := vals2 r
  refine min_two_ints (I.ok.hd hc) fun h' tk k => ⟨_, H, I.kept k, ?_, q⟩
  by_cases hj : j < i
  · rw [if_pos hj, if_pos hj]; exact ⟨_, rfl⟩
  · rw [if_neg hj, if_neg hj]; exact ⟨_, rfl⟩
theorem call_int1 : CallR X (.type "int") (fun xs H Q => (∃ i, xs = [.int i] ∧ Q (.int i) H) ∨ ∃ k, xs = [.bl k] ∧ Q (.int (if k then 1 else 0)) H) := by
  intro pins s σ H xs us Q I r h
  rcases h with ⟨i, rfl, q⟩ | ⟨k, rfl, q⟩
  · obtain ⟨u, rfl, t, rfl⟩ := vals1 r
    exact call_int_int ⟨.int i, H, I, ⟨_, rfl⟩, q⟩
  · obtain ⟨u, rfl, r1⟩ := vals1 r
    cases r1
    exact call_int_bool ⟨.int (if k then 1 else 0), H, I.tok _, ⟨_, rfl⟩, q⟩
theorem call_bool1 : CallR X (.type "bool") (fun xs H Q => (∃ i, xs = [.int i] ∧ Q (.bl (i != 0)) H) ∨ ∃ k, xs = [.bl k] ∧ Q (.bl k) H) := by
  intro pins s σ H xs us Q I r h
  rcases h with ⟨i, rfl, q⟩ | ⟨k, rfl, q⟩
  · obtain ⟨u, rfl, t, rfl⟩ := vals1 r
    exact call_bool_int ⟨.bl (i != 0), H, I, rfl, q⟩
  · obtain ⟨u, rfl, r1⟩ := vals1 r
    cases r1
    exact call_bool_bool ⟨.bl k, H, I, rfl, q⟩
theorem call_str_int : CallR X (.type "str") (fun xs H Q => ∃ i, xs = [.int i] ∧ i.natAbs.log2 < 1920 ∧ Q (.str (toString i)) H) := by
  intro pins s σ H xs us Q I r h
  obtain ⟨i, rfl, hz, q⟩ := h
  obtain ⟨u, rfl, t, rfl⟩ := vals1 r
  exact PySem.P.str_of_int hz ⟨.str _, H, I.tok _, ⟨_, rfl⟩, q⟩
theorem call_ord : CallR X (.builtin "ord") (fun xs H Q => ∃ x, xs = [.str x] ∧ x.length = 1 ∧ Q (.int (x.cps.getD 0 0 : Nat)) H) := by
  intro pins s σ H xs us Q I r h
  obtain ⟨x, rfl, hz, q⟩ := h
  obtain ⟨u, rfl, t, rfl⟩ := vals1 r
  exact ord_of_one hz ⟨.int _, H, I.tok _, ⟨_, rfl⟩, q⟩
theorem call_chr : CallR X (.builtin "chr") (fun xs H Q => ∃ i, xs = [.int i] ∧ 0 ≤ i ∧ i ≤ 1114111 ∧ Q (.str ⟨#[i.toNat]⟩) H) := by
  intro pins s σ H xs us Q I r h
  obtain ⟨i, rfl, h0, h1, q⟩ := h
  obtain ⟨u, rfl, t, rfl⟩ := vals1 r
  exact chr_of_range h0 h1 ⟨.str _, H, I.tok _, ⟨_, rfl⟩, q⟩
/-- len of a str, a bytes, a list, a tuple -/
def LenV (K : PySem.W.Frag) (x : V) (H : Hp) (n : Nat) : Prop :=
  match x with
  | .str y => y.length ≤ sizeLine ∧ n = y.length
  | .byt y => y.size ≤ sizeLine ∧ n = y.size
  | .ref p => (∃ xs, SqL K H p xs ∧ n = xs.length) ∨ ∃ xs, SqT K H p xs ∧ n = xs.length
  | _ => False
theorem call_len : CallR X (.builtin "len") (fun xs H Q => ∃ x n, xs = [x] ∧ LenV X.K x H n ∧ Q (.int n) H) := by
  intro pins s σ H xs us Q I r h
  obtain ⟨x, n, rfl, e, q⟩ := h
  obtain ⟨u, rfl, rx⟩ := vals1 r
  have hl := line63
  have hs : sizeLine = 16777216 := sizeLine_eq
  cases x with
  | str y =>
    obtain ⟨t, rfl⟩ := rx
    obtain ⟨hy, e'⟩ : y.length ≤ sizeLine ∧ n = y.length := e
    subst e'
    exact len_str (by omega) ⟨.int _, H, I.tok _, ⟨_, rfl⟩, q⟩
  | byt y =>
    obtain ⟨t, rfl⟩ := rx
    obtain ⟨hy, e'⟩ : y.size ≤ sizeLine ∧ n = y.size := e
    subst e'
    exact PySem.W.len_bytes (by omega) ⟨.int _, H, I.tok _, ⟨_, rfl⟩, q⟩
  | ref p =>
    cases rx
    have e' : (∃ xs, SqL X.K H p xs ∧ n = xs.length) ∨ ∃ xs, SqT X.K H p xs ∧ n = xs.length := e
    rcases e' with ⟨xs, hx, e'⟩ | ⟨xs, hx, e'⟩
    · subst e'
      obtain ⟨its, r', pl, hz⟩ := I.list hx
      have hlen := r'.length
      exact Calls.call_len_list pl.isList (by simp only [List.size_toArray]; omega) ⟨.int xs.length, H, I.tok _, ⟨_, by simp only [List.size_toArray]; rw [hlen]⟩, q⟩
    · subst e'
      obtain ⟨its, r', pl, hz⟩ := I.tuple hx
      have hlen := r'.length
      exact len_tuple pl (by simp only [List.size_toArray]; omega) ⟨.int xs.length, H, I.tok _, ⟨_, by simp only [List.size_toArray]; rw [hlen]⟩, q⟩
  | _ => exact (show False from e).elim
/-- divmod: a new tuple -/
theorem call_divmod : CallR X (.builtin "divmod") (fun xs H Q => ∃ i j, xs = [.int i, .int j] ∧ CDiv i j ∧ ∀ p, H p = none → Q (.ref p) (upd H p (.tup [.int (i / j), .int (i % j)]))) := by
  intro pins s σ H xs us Q I r h
  obtain ⟨i, j, rfl, ⟨h1, h2⟩, q⟩ := h
  obtain ⟨u, w', rfl, ⟨t, rfl⟩, ⟨t', rfl⟩⟩ := vals2 r
  refine divmod_int (by omega) ?_ (.inl (PyProof.noPylong_small (by omega)))
  rw [Int.fdiv_eq_ediv_of_nonneg i (by omega), Int.fmod_eq_emod_of_nonneg i (by omega)]
  have hn : H s.heap.objs.size = none := I.hok.fresh (Nat.le_refl _)
  refine ⟨.ref s.heap.objs.size, _, ?_, rfl, q _ hn⟩
  refine I.laid (fun b o e => Heap.get?_push_of_some _ e) (Nat.le_refl _) ⟨by simp only [List.length_cons, List.length_nil]; rw [sizeLine_eq]; decide, [.int (i / j) s.toks, .int (i % j) (s.toks + 1)], .cons ⟨_, rfl⟩ (.cons ⟨_, rfl⟩ .nil), ?_⟩
  exact ⟨_, Heap.get?_push_size s.heap rfl, rfl, 0, rfl⟩
end
end L2

namespace L2
open PySem PySem.Spec PyProof.Rows

/-! ### an instance, its attributes a map -/
structure ObjM (h : Heap) (x dx C : Addr) (mA : Str → Option Value) : Prop where
  obj : h.get? x = some (PySem.W.instObj C dx)
  ns : h.Ns1 dx mA
  ne : dx ≠ x

theorem lookIn_ns {h : Heap} {dx : Addr} {mA : Str → Option Value} (n : h.Ns1 dx mA) : ∃ od, h.get? dx = some od ∧ ∀ name, PySem.W.lookIn name od = some (mA name) := by
  obtain ⟨o, es, ep, ho, hd, hk, _, hm⟩ := n
  refine ⟨o, ho, fun name => ?_⟩
  have e := hm name
  unfold nsFind findBy at e
  rw [← Array.find?_toList] at e
  unfold PySem.W.lookIn
  rw [hd]
  dsimp only
  split
  · rename_i y q
    rw [q] at e
    exact congrArg some e
  · rename_i q
    rw [q] at e
    have a : es.toList.any (·.refKey) = false := by
      rw [List.any_eq_false]
      intro y hy
      obtain ⟨z, t, hkey⟩ := hk y (Array.mem_toList_iff.mp hy)
      simp [DictEntry.refKey, hkey]
    have a' : ¬ es.toList.any (·.refKey) = true := by rw [a]; exact Bool.false_ne_true
    rw [if_neg a']
    exact congrArg some e

theorem ObjM.look {h : Heap} {x dx C : Addr} {mA : Str → Option Value} (I : ObjM h x dx C mA) : ∃ od, PySem.W.InstAt h x (PySem.W.instObj C dx) C (some od) ∧ ∀ name, PySem.W.lookIn name od = some (mA name) :=
  let ⟨od, ho, hl⟩ := lookIn_ns I.ns
  ⟨od, ⟨I.obj, rfl, rfl, ho⟩, hl⟩

section
variable {prog : Program} {w : World} {A : Around} {E : Value → Shared → Prop} {s : Shared} {K : PySem.W.Frag} {x dx C f : Addr} {mA : Str → Option Value} {name : Str} {v : Value}

theorem get_map {expr : Bool} {Q : Value → Shared → Prop} (X : K.In s.heap) (I : ObjM s.heap x dx C mA) (hg : PySem.W.plainGet K C name = true) (hh : PySem.W.hasDictIn K C = true)
    (ha : PySem.W.findIn K (.ref C) name = some none) (hv : mA name = some v) (hv' : PySem.W.handedIn v = true) (h : Q v { s with toks := s.toks + 1 }) :
    wpAny (model prog w) A (getAttr (.ref x) name expr) Q E s := by
  obtain ⟨od, J, hl⟩ := I.look
  exact PySem.W.get_value X J (PySem.W.plainGet_of hg).1 (PySem.W.findObj_own hh ha rfl (by rw [hl, hv])) hv' h

theorem get_const {expr : Bool} {a : Value} {Q : Value → Shared → Prop} (X : K.In s.heap) (I : ObjM s.heap x dx C mA) (hg : PySem.W.plainGet K C name = true) (hh : PySem.W.hasDictIn K C = true)
    (ha : PySem.W.findIn K (.ref C) name = some (some a)) (hn : PySem.W.specialIn K a "__get__" = some none) (hc : PySem.W.copiedNames.contains name = false) (hv : mA name = none) (hv' : PySem.W.handedIn a = true)
    (h : Q a { s with toks := s.toks + 1 }) : wpAny (model prog w) A (getAttr (.ref x) name expr) Q E s := by
  obtain ⟨od, J, hl⟩ := I.look
  exact PySem.W.get_value X J (PySem.W.plainGet_of hg).1 (PySem.W.findObj_cls hh ha hn hv' hc (by rw [hl, hv])) hv' h

theorem get_meth {pl : Sem Bool} {Q : Value × List Value → Shared → Prop} (X : K.In s.heap) (I : ObjM s.heap x dx C mA) (hg : PySem.W.plainGet K C name = true)
    (hf : PySem.W.findIn K (.ref C) name = some (some (.ref f))) (ht : PySem.W.isFn K (.ref f) = true) (hv : mA name = none) (h : Q (.ref f, [.ref x]) s) :
    wpAny (model prog w) A (getMethod (.ref x) name pl) Q E s := by
  obtain ⟨od, J, hl⟩ := I.look
  exact PySem.W.method_fn X J (PySem.W.plainGet_of hg).1 (PySem.W.plainGet_of hg).2 hf (beq_iff_eq.mp ht) (by show (PySem.W.lookIn name od).map (·.isSome) = some false; rw [hl, hv]; rfl) h

theorem set_map {ns : List Str} {Q : Unit → Shared → Prop} (X : K.In s.heap) (I : ObjM s.heap x dx C mA)
    (hs : PySem.W.findIn K (.ref C) "__setattr__" = some (some (.builtin "object.__setattr__"))) (hp : PySem.W.plainOver K C = true) (ht : PySem.W.takerIn K C name = some none) (hh : PySem.W.hasDictIn K C = true)
    (hw : PySem.Within mA ns) (hsz : ns.length ≤ sizeLine)
    (h : ∀ h', ObjM h' x dx C (fun y => if y = name then some v else mA y) → Heap.SameBut dx s.heap h' → Q () { s with heap := h', toks := s.toks + 2 }) :
    wpAny (model prog w) A (setAttr (.ref x) name v) Q E s := by
  obtain ⟨od, J, hl⟩ := I.look
  refine PySem.W.set_plain X J hs (PySem.W.osa_open (s := { s with toks := s.toks + 1 }) (r := none) X J hp ht fun b => ?_)
  obtain ⟨cd, hc, hd'⟩ := PySem.W.any_some hh
  have hx : s.heap.get? x = some ⟨.ref C, some dx, .plain, #[]⟩ := I.obj
  refine wpAny_bind (wpAny_pure (wpAny_bind (wpAny_bind (wpAny_loadPart hx (wpAny_bind (PySem.W.Looks.here (s := { s with toks := s.toks + 1 }) (PySem.W.looks_clsIn X hc) ?_))))))
  rw [hd']
  refine wpAny_pure (a := some dx) (wpAny_bind (wpAny_pure (wpAny_bind ?_)))
  refine wpAny_nsSet1 (s := { s with toks := s.toks + 1 }) I.ns fun h' hn2 hs2 => ?_
  obtain ⟨oD, esD, epD, hoD, hdD, hcD⟩ := hn2.count (PySem.Within.cons name v hw)
  refine wpAny_bind (wpAny_lookBehind hoD (by rw [hdD]; exact pastItsLine_dict (Nat.le_trans hcD (by rw [List.length_cons]; omega))) ?_)
  exact wpAny_pure (h _ ⟨(hs2.2 _ (Ne.symm I.ne)).trans I.obj, hn2, I.ne⟩ hs2)

/-- C(..): the dict at the heap's end, the instance behind it; then its __init__ -/
theorem make_map {R : Result → Shared → Prop} {vs : List Value} {kw : List (Str × Value)} (X : K.In s.heap) (hm : PySem.W.makesIn K C = true)
    (hi : PySem.W.findIn K (.ref C) "__init__" = some (some (.ref f))) (hf : PySem.W.typeIn K (.ref f) = some (.type "function"))
    (h : codeAny (model prog w) (A.under (.builtin "type.__call__" ⟨.ref C :: vs, kw⟩)) (.call (.ref f) ⟨.ref (s.heap.objs.size + 1) :: vs, kw⟩) (PySem.W.InitBack (s.heap.objs.size + 1) R)
      { s with heap := (s.heap.push PySem.W.emptyDict).push (PySem.W.instObj C s.heap.objs.size) }) :
    codeAny (model prog w) A (.call (.ref C) ⟨vs, kw⟩) R s := by
  obtain ⟨hh, g, d, t, os⟩ := s
  exact PySem.W.make_core (PySem.W.makes_of X hm) (PySem.W.looks_findIn X hi) (fun self => PySem.W.bind_fn X self hf) (.inl rfl) h
/-- C() where there is no __init__ but object's -/
theorem make_map0 {R : Result → Shared → Prop} (X : K.In s.heap) (hm : PySem.W.makesIn K C = true)
    (hi : PySem.W.findIn K (.ref C) "__init__" = some (some (.builtin "object.__init__")))
    (hb : ∀ self, PySem.W.Looks (model prog w) s.heap (bindSpecial (.builtin "object.__init__") self) (.builtin "object.__init__", [self]))
    (h : codeAny (model prog w) (A.under (.builtin "type.__call__" ⟨[.ref C], []⟩)) (.call (.builtin "object.__init__") ⟨[.ref (s.heap.objs.size + 1)], []⟩) (PySem.W.InitBack (s.heap.objs.size + 1) R)
      { s with heap := (s.heap.push PySem.W.emptyDict).push (PySem.W.instObj C s.heap.objs.size) }) :
    codeAny (model prog w) A (.call (.ref C) ⟨[], []⟩) R s := by
  obtain ⟨hh, g, d, t, os⟩ := s
  exact PySem.W.make_core (PySem.W.makes_of X hm) (PySem.W.looks_findIn X hi) hb (.inr ⟨rfl, rfl⟩) h
end

/-! ### the attributes as a list of pairs -/
def putF (f : Str) (v : V) : List (Str × V) → List (Str × V)
  | [] => [(f, v)]
  | (g, x) :: r => if g = f then (g, v) :: r else (g, x) :: putF f v r
theorem lookup_putF (f g : Str) (v : V) : ∀ fs : List (Str × V), (putF f v fs).lookup g = if g = f then some v else fs.lookup g
  | [] => by
    show List.lookup g [(f, v)] = _
    by_cases h : g = f
    · have hb : (g == f) = true := beq_iff_eq.mpr h
      simp only [List.lookup, hb, if_pos h]
    · have hb : (g == f) = false := beq_eq_false_iff_ne.mpr h
      simp only [List.lookup, hb, if_neg h]
  | (k, x) :: r => by
    have ih := lookup_putF f g v r
    rw [show putF f v ((k, x) :: r) = (if k = f then (k, v) :: r else (k, x) :: putF f v r) from rfl]
    by_cases hk : k = f
    · rw [if_pos hk]
      by_cases h : g = k
      · have hb : (g == k) = true := beq_iff_eq.mpr h
        simp only [List.lookup, hb, if_pos (h.trans hk)]
      · have hb : (g == k) = false := beq_eq_false_iff_ne.mpr h
        simp only [List.lookup, hb, if_neg (fun e : g = f => h (e.trans hk.symm))]
    · rw [if_neg hk]
      by_cases h : g = k
      · have hb : (g == k) = true := beq_iff_eq.mpr h
        simp only [List.lookup, hb, if_neg (fun e : g = f => hk (h.symm.trans e))]
      · have hb : (g == k) = false := beq_eq_false_iff_ne.mpr h
        simp only [List.lookup, hb]
        exact ih
theorem keys_putF (f : Str) (v : V) : ∀ fs : List (Str × V), f ∈ (putF f v fs).map (·.1) ∧ ∀ g, g ∈ fs.map (·.1) → g ∈ (putF f v fs).map (·.1)
  | [] => ⟨by simp [putF], fun g h => by simp at h⟩
  | (k, x) :: r => by
    obtain ⟨i1, i2⟩ := keys_putF f v r
    rw [show putF f v ((k, x) :: r) = (if k = f then (k, v) :: r else (k, x) :: putF f v r) from rfl]
    by_cases hk : k = f
    · rw [if_pos hk]
      subst hk
      exact ⟨by simp, fun g h => by simpa using h⟩
    · rw [if_neg hk]
      refine ⟨?_, fun g h => ?_⟩
      · rw [List.map_cons]
        exact List.mem_cons_of_mem _ i1
      · rw [List.map_cons] at h ⊢
        rcases List.mem_cons.mp h with e | e
        · exact List.mem_cons.mpr (.inl e)
        · exact List.mem_cons_of_mem _ (i2 g e)
theorem length_putF (f : Str) (v : V) : ∀ fs : List (Str × V), (putF f v fs).length ≤ fs.length + 1
  | [] => by simp [putF]
  | (k, x) :: r => by
    have ih := length_putF f v r
    rw [show putF f v ((k, x) :: r) = (if k = f then (k, v) :: r else (k, x) :: putF f v r) from rfl]
    by_cases hk : k = f
    · rw [if_pos hk, List.length_cons, List.length_cons]; omega
    · rw [if_neg hk, List.length_cons, List.length_cons]; omega

theorem RelO.some_of {v : V} {o : Option Value} (r : RelO (some v) o) : ∃ u, o = some u ∧ RelV v u := by
  cases o with
  | none => exact (show False from r).elim
  | some u => exact ⟨u, rfl, r⟩
theorem RelO.none_of {o : Option Value} (r : RelO none o) : o = none := by
  cases o with
  | none => rfl
  | some u => exact (show False from r).elim
theorem handed_of {v : V} {u : Value} (r : RelV v u) : PySem.W.handedIn u = true := by
  cases v with
  | non => cases (show u = Value.none from r); rfl
  | bl b => cases (show u = Value.bool b from r); rfl
  | int i => obtain ⟨t, e⟩ := (show ∃ t, u = Value.int i t from r); cases e; rfl
  | str x => obtain ⟨t, e⟩ := (show ∃ t, u = Value.str x t from r); cases e; rfl
  | byt b => obtain ⟨t, e⟩ := (show ∃ t, u = Value.bytes b t from r); cases e; rfl
  | flt b => obtain ⟨t, e⟩ := (show ∃ t, u = Value.float b t from r); cases e; rfl
  | ref a => cases (show u = Value.ref a from r); rfl
  | ty n => cases (show u = Value.type n from r); rfl

section
variable {P : Program} {w : World} {H H' : Hp} {h h' : Heap} {a C dx : Addr} {fs fs' : List (Str × V)}
theorem ins_get (hok : HOk P w H h) (e : H a = some (.ins C dx fs)) : ∃ mA, ObjM h a dx C mA ∧ (∀ f, RelO (fs.lookup f) (mA f)) ∧ PySem.Within mA (fs.map (·.1)) ∧ fs.length ≤ 1000 ∧ H dx = some (.own a) := by
  obtain ⟨d, z, ne, ob, mA, n, r, q⟩ := (show ObjOk P w H h a (.ins C dx fs) from hok a _ e)
  exact ⟨mA, ⟨ob, n, ne⟩, r, q, z, d⟩
end

/-! ### what of the text a class must have -/
structure Cls (K : PySem.W.Frag) (C : Addr) : Prop where
  pg : PySem.W.plainGet K C Str.empty = true
  hd : PySem.W.hasDictIn K C = true
  po : PySem.W.plainOver K C = true
  sa : PySem.W.findIn K (.ref C) "__setattr__" = some (some (.builtin "object.__setattr__"))
theorem Cls.get {K : PySem.W.Frag} {C : Addr} (c : Cls K C) (f : Str) : PySem.W.plainGet K C f = true := c.pg
/-- no class of it has the name -/
def NoAttr (K : PySem.W.Frag) (C : Addr) (f : Str) : Prop := PySem.W.findIn K (.ref C) f = some none
theorem NoAttr.taker {K : PySem.W.Frag} {C : Addr} {f : Str} (n : NoAttr K C f) : PySem.W.takerIn K C f = some none := by
  unfold PySem.W.takerIn
  rw [show PySem.W.findIn K (.ref C) f = some none from n]
  rfl
/-- a constant of the class -/
structure Con (K : PySem.W.Frag) (C : Addr) (f : Str) (v : V) (u : Value) : Prop where
  at_ : PySem.W.findIn K (.ref C) f = some (some u)
  rel : RelV v u
  get : PySem.W.specialIn K u "__get__" = some none
  cp : PySem.W.copiedNames.contains f = false
/-- a method: a plain def of the class or of one above it -/
structure Meth (K : PySem.W.Frag) (C : Addr) (m : Str) (f : Addr) : Prop where
  at_ : PySem.W.findIn K (.ref C) m = some (some (.ref f))
  fn : PySem.W.isFn K (.ref f) = true
  kp : PySem.W.keepIn K (.ref f) = true

section
variable {X : Cx} {pins : List (Addr × Obj)} {σ : St} {H : Hp} {s : Shared} {a C dx : Addr} {fs : List (Str × V)} {f : Str} {v : V} {A : Around} {E : Value → Shared → Prop}

theorem getattr_ok {b : Bool} {Q : Value → Shared → Prop} (I : Inv X pins σ H s) (e : H a = some (.ins C dx fs)) (c : Cls X.K C) (n : NoAttr X.K C f) (l : fs.lookup f = some v)
    (h : ∀ u s', Inv X pins σ H s' → RelV v u → Q u s') : wpAny (model X.prog X.w) A (getAttr (.ref a) f b) Q E s := by
  obtain ⟨mA, O, r, _, _, _⟩ := ins_get I.hok e
  obtain ⟨u, hu, ru⟩ := RelO.some_of (v := v) (o := mA f) (by rw [← l]; exact r f)
  exact get_map I.kIn O (c.get f) c.hd n hu (handed_of ru) (h u _ (I.tok _) ru)

theorem getcon_ok {b : Bool} {u : Value} {Q : Value → Shared → Prop} (I : Inv X pins σ H s) (e : H a = some (.ins C dx fs)) (c : Cls X.K C) (k : Con X.K C f v u) (l : fs.lookup f = none)
    (h : ∀ s', Inv X pins σ H s' → Q u s') : wpAny (model X.prog X.w) A (getAttr (.ref a) f b) Q E s := by
  obtain ⟨mA, O, r, _, _, _⟩ := ins_get I.hok e
  have hn : mA f = none := RelO.none_of (by rw [← l]; exact r f)
  exact get_const I.kIn O (c.get f) c.hd k.at_ k.get k.cp hn (handed_of k.rel) (h _ (I.tok _))

theorem getmeth_ok {m : Str} {g : Addr} {pl : Sem Bool} {Q : Value × List Value → Shared → Prop} (I : Inv X pins σ H s) (e : H a = some (.ins C dx fs)) (c : Cls X.K C) (k : Meth X.K C m g) (l : fs.lookup m = none)
    (h : Q (.ref g, [.ref a]) s) : wpAny (model X.prog X.w) A (getMethod (.ref a) m pl) Q E s := by
  obtain ⟨mA, O, r, _, _, _⟩ := ins_get I.hok e
  have hn : mA m = none := RelO.none_of (by rw [← l]; exact r m)
  exact get_meth I.kIn O (c.get m) k.at_ k.fn hn h

theorem setattr_ok {y : V} {u : Value} {Q : Unit → Shared → Prop} (I : Inv X pins σ H s) (e : H a = some (.ins C dx fs)) (c : Cls X.K C) (n : NoAttr X.K C f) (hl : fs.length < 1000) (ry : RelV y u)
    (h : ∀ s', Inv X pins σ (upd H a (.ins C dx (putF f y fs))) s' → Q () s') : wpAny (model X.prog X.w) A (setAttr (.ref a) f u) Q E s := by
  obtain ⟨mA, O, r, wi, _, ho⟩ := ins_get I.hok e
  have hz : (fs.map (·.1)).length ≤ sizeLine := by rw [List.length_map, sizeLine_eq]; omega
  refine set_map I.kIn O c.sa c.po n.taker c.hd wi hz fun h' O' sb => h _ ?_
  have hd : ∃ o, h'.get? dx = some o := let ⟨o, _, _, e', _⟩ := O'.ns; ⟨o, e'⟩
  refine I.write (x := a) (e := dx) (by rw [e]; exact True.intro) (.inr ho) (fun b q hb z => (sb.2 b hb).trans z) hd ?_
  refine ⟨by rw [upd_ne O.ne]; exact ho, ?_, O.ne, O'.obj, _, O'.ns, fun g => ?_, fun g hg => ?_⟩
  · have := length_putF f y fs; omega
  · show RelO ((putF f y fs).lookup g) (if g = f then some u else mA g)
    rw [lookup_putF]
    by_cases q : g = f
    · rw [if_pos q, if_pos q]; exact ry
    · rw [if_neg q, if_neg q]; exact r g
  · by_cases q : g = f
    · rw [q]; exact (keys_putF f y fs).1
    · refine (keys_putF f y fs).2 g (wi g fun z => hg ?_)
      show (if g = f then some u else mA g) = none
      rw [if_neg q]; exact z

/-- a new instance, tracked, without attributes -/
theorem Inv.made (I : Inv X pins σ H s) : Inv X pins σ (upd (upd H s.heap.objs.size (.own (s.heap.objs.size + 1))) (s.heap.objs.size + 1) (.ins C s.heap.objs.size []))
    { s with heap := (s.heap.push PySem.W.emptyDict).push (PySem.W.instObj C s.heap.objs.size) } := by
  have e1 : (s.heap.push PySem.W.emptyDict).get? s.heap.objs.size = some PySem.W.emptyDict := Heap.get?_push_size s.heap rfl
  have e2 : ((s.heap.push PySem.W.emptyDict).push (PySem.W.instObj C s.heap.objs.size)).get? (s.heap.objs.size + 1) = some (PySem.W.instObj C s.heap.objs.size) := by
    have := Heap.get?_push_size (s.heap.push PySem.W.emptyDict) (o := PySem.W.instObj C s.heap.objs.size) rfl
    rwa [Heap.size_push] at this
  have e3 : (s.heap.push PySem.W.emptyDict).Ns s.heap.objs.size (fun _ => none) := ⟨PySem.W.emptyDict, #[], _, e1, rfl, (fun e he => absurd he (by simp)), fun _ => rfl⟩
  have I1 := I.laid (a := s.heap.objs.size) (o := .own (s.heap.objs.size + 1)) (h' := s.heap.push PySem.W.emptyDict) (t' := s.toks) (fun b u q => Heap.get?_push_of_some _ q) (Nat.le_refl _) ⟨_, e1⟩
  refine I1.laid (a := s.heap.objs.size + 1) (o := .ins C s.heap.objs.size []) (t' := s.toks) (fun b u q => Heap.get?_push_of_some _ q) (Nat.le_of_eq (Heap.size_push _ _)) ?_
  have ne : s.heap.objs.size ≠ s.heap.objs.size + 1 := Nat.ne_of_lt (Nat.lt_succ_self _)
  refine ⟨by rw [upd_ne ne, upd_same], Nat.zero_le _, ne, e2, fun _ => none, (Heap.Ns1.of_empty e3).at fun o q => Heap.get?_push_of_some _ q, fun _ => True.intro, fun y hy => absurd rfl hy⟩

/-- e.f where nothing but the object is asked: through attributeBase (super) and the last hold -/
theorem attr_of {prog : Program} {w : World} {env : Env} {e : Expr} {f : Str} {pos : Pos} {s : Shared} {Q : Value → Shared → Prop} (hb : attributeBase e f env (eval e env) = eval e env)
    (h : wpAny (model prog w) A (eval e env) (fun o s₁ => wpAny (model prog w) A (getAttr o f true) Q E s₁) E s) : wpAny (model prog w) A (eval (.Attribute e f pos) env) Q E s :=
  Attribute_any_ h (by rw [arm_eval_Attribute, hb])
end

/-! ### readings and rules -/
/-- e.f, an attribute of the instance -/
def tFld (K : PySem.W.Frag) (ta : TE) (f : Str) : TE := fun σ H Q => ta σ H fun x H1 => ∃ a C dx fs v, x = .ref a ∧ H1 a = some (.ins C dx fs) ∧ Cls K C ∧ NoAttr K C f ∧ fs.lookup f = some v ∧ Q v H1
/-- e.f, a constant of the class -/
def tCon (K : PySem.W.Frag) (ta : TE) (f : Str) : TE := fun σ H Q => ta σ H fun x H1 => ∃ a C dx fs v u, x = .ref a ∧ H1 a = some (.ins C dx fs) ∧ Cls K C ∧ Con K C f v u ∧ fs.lookup f = none ∧ Q v H1
/-- e.f = value -/
def sFld (K : PySem.W.Frag) (ta tv : TE) (f : Str) : TS := fun D σ H => tv σ H fun y H1 => ta σ H1 fun x H2 => ∃ a C dx fs, x = .ref a ∧ H2 a = some (.ins C dx fs) ∧ Cls K C ∧ NoAttr K C f ∧ fs.length < 1000 ∧
  D.nx σ (upd H2 a (.ins C dx (putF f y fs)))
/-- an augmented operator on two values -/
def InOp (X : Cx) (op : Operator) (rd : V → V → Hp → VK → Prop) : Prop :=
  ∀ (pins : List (Addr × Obj)) (s : Shared) (σ : St) (H : Hp) (x y : V) (u v : Value) (Q : VK), Inv X pins σ H s → RelV x u → RelV y v → rd x y H Q → wpAny (model X.prog X.w) X.A (inplaceOp op u v) (EP X pins σ Q) X.xe s
/-- e.f op= value -/
def sFldAug (K : PySem.W.Frag) (ta tv : TE) (rd : V → V → Hp → VK → Prop) (f : Str) : TS := fun D σ H => ta σ H fun x H1 => ∃ a C dx fs v, x = .ref a ∧ H1 a = some (.ins C dx fs) ∧ Cls K C ∧ NoAttr K C f ∧ fs.lookup f = some v ∧
  tv σ H1 fun y H2 => rd v y H2 fun z H3 => ∃ dx' fs', H3 a = some (.ins C dx' fs') ∧ fs'.length < 1000 ∧ D.nx σ (upd H3 a (.ins C dx' (putF f z fs')))

section
variable {X : Cx} {o e value : Expr} {f : Str} {pos pos' tpos : Pos} {ta tv : TE}
theorem pe_fld (he : PE X e ta) (hb : attributeBase e f X.env (eval e X.env) = eval e X.env) : PE X (.Attribute e f pos) (tFld X.K ta f) := by
  intro pins s σ H Q I h
  refine attr_of hb (thn (he pins s σ H _ I h) fun u s1 ⟨x, H1, I1, rx, a, C, dx, fs, v, ex, ea, c, n, l, q⟩ => ?_)
  subst ex
  obtain rfl : u = Value.ref a := rx
  exact getattr_ok I1 ea c n l fun u' s2 I2 ru => ⟨v, H1, I2, ru, q⟩
theorem pe_con (he : PE X e ta) (hb : attributeBase e f X.env (eval e X.env) = eval e X.env) : PE X (.Attribute e f pos) (tCon X.K ta f) := by
  intro pins s σ H Q I h
  refine attr_of hb (thn (he pins s σ H _ I h) fun u s1 ⟨x, H1, I1, rx, a, C, dx, fs, v, u0, ex, ea, c, k, l, q⟩ => ?_)
  subst ex
  obtain rfl : u = Value.ref a := rx
  exact getcon_ok I1 ea c k l fun s2 I2 => ⟨v, H1, I2, k.rel, q⟩
theorem ps_fld (ha : PE X o ta) (hv : PE X value tv) (hs : swapsWith value (some (.Attribute o f pos')) pos.line X.env = pure false) : PS X (.Assign [.Attribute o f pos'] value pos) (sFld X.K ta tv f) := by
  intro pins s σ H D I h
  refine plainObj_wpAny_Assign_Attribute (thn (hv pins s σ H _ I h) fun u s1 ⟨y, H1, I1, ry, q⟩ => thn (ha pins s1 σ H1 _ I1 q) fun ov s2 ⟨x, H2, I2, rx, a, C, dx, fs, ex, ea, c, n, l, q2⟩ => ?_) hs
  subst ex
  obtain rfl : ov = Value.ref a := rx
  exact setattr_ok I2 ea c n l ry fun s3 I3 => ⟨σ, _, I3, q2⟩
theorem ps_fldaug {op : Operator} {rd : V → V → Hp → VK → Prop} (ha : PE X o ta) (hv : PE X value tv) (hop : InOp X op rd) : PS X (.AugAssign (.Attribute o f tpos) op value pos) (sFldAug X.K ta tv rd f) := by
  intro pins s σ H D I h
  refine wpAny_AugAssign_AttributeAny (thn (ha pins s σ H _ I h) fun ov s1 ⟨x, H1, I1, rx, a, C, dx, fs, v, ex, ea, c, n, l, q⟩ => ?_)
  subst ex
  obtain rfl : ov = Value.ref a := rx
  refine getattr_ok I1 ea c n l fun u s2 I2 ru => thn (hv pins s2 σ H1 _ I2 q) fun w3 s3 ⟨y, H2, I3, ry, q3⟩ => thn (hop pins s3 σ H2 v y u w3 _ I3 ru ry q3) fun w4 s4 ⟨z, H3, I4, rz, dx', fs', ea', l', q4⟩ => ?_
  exact setattr_ok I4 ea' c n l' rz fun s5 I5 => ⟨σ, _, I5, q4⟩
def rAdd : V → V → Hp → VK → Prop := fun x y H Q => ∃ i j, x = .int i ∧ y = .int j ∧ Q (.int (i + j)) H
def rSub : V → V → Hp → VK → Prop := fun x y H Q => ∃ i j, x = .int i ∧ y = .int j ∧ Q (.int (i - j)) H
theorem in_add : InOp X .Add rAdd := by
  rintro pins s σ H x y u v Q I rx ry ⟨i, j, rfl, rfl, q⟩
  obtain ⟨t, rfl⟩ := (show ∃ t, u = Value.int i t from rx)
  obtain ⟨t', rfl⟩ := (show ∃ t', v = Value.int j t' from ry)
  exact PyProof.Rows.iadd_int ⟨.int (i + j), H, I.tok _, ⟨_, rfl⟩, q⟩
theorem in_sub : InOp X .Sub rSub := by
  rintro pins s σ H x y u v Q I rx ry ⟨i, j, rfl, rfl, q⟩
  obtain ⟨t, rfl⟩ := (show ∃ t, u = Value.int i t from rx)
  obtain ⟨t', rfl⟩ := (show ∃ t', v = Value.int j t' from ry)
  exact PyProof.Rows.isub_int ⟨.int (i - j), H, I.tok _, ⟨_, rfl⟩, q⟩

/-- what is between an instance and its method: the tree of a method call -/
theorem methcall_of {pl : Sem Bool} {m : Str} {apos : Pos} {args : List Expr} {pins : List (Addr × Obj)} {s : Shared} {σ : St} {H : Hp} {Q : Value → Shared → Prop} {te : TE} (he : PE X e te) (I : Inv X pins σ H s)
    (h : te σ H fun x H1 => ∃ a C dx fs g, x = .ref a ∧ H1 a = some (.ins C dx fs) ∧ Cls X.K C ∧ Meth X.K C m g ∧ fs.lookup m = none ∧
      ∀ s1, Inv X pins σ H1 s1 → wpAny (model X.prog X.w) X.A (callWith pos (.ref g) [.ref a] (backTo pos (starEach args X.env)) (backToKw pos (keywordEach [] X.env))) Q X.xe s1)
    (ht : eval (.Call (.Attribute e m apos) args [] pos) X.env = (do
      let ov ← eval e X.env
      standAt apos.atName
      let (f, first) ← holding [ov] (getMethod ov m pl)
      callWith pos f first (backTo pos (starEach args X.env)) (backToKw pos (keywordEach [] X.env)))) :
    wpAny (model X.prog X.w) X.A (eval (.Call (.Attribute e m apos) args [] pos) X.env) Q X.xe s := by
  refine PySem.W.methodCall_KW (pl := pl) (thn (he pins s σ H _ I h) fun u s1 ⟨x, H1, I1, rx, a, C, dx, fs, g, ex, ea, c, k, l, q⟩ => ?_) ht
  subst ex
  obtain rfl : u = Value.ref a := rx
  exact getmeth_ok I1 ea c k l (q s1 I1)
end

/-! ### isinstance -/
section
variable {X : Cx} {pins : List (Addr × Obj)} {σ : St} {H : Hp} {s : Shared} {A : Around} {E : Value → Shared → Prop} {Q : Value → Shared → Prop} {c : Value} {b : Bool}
/-- the type of a value, as the fragment's deciders take it; for an instance its class -/
inductive TyOf (K : PySem.W.Frag) (H : Hp) : V → Value → Prop where
  | non : TyOf K H .non (.type "NoneType")
  | bl (x : Bool) : TyOf K H (.bl x) (.type "bool")
  | int (i : Int) : TyOf K H (.int i) (.type "int")
  | str (x : Str) : TyOf K H (.str x) (.type "str")
  | flt (x : UInt64) : TyOf K H (.flt x) (.type "float")
  | lst {a : Addr} {xs : List V} (e : H a = some (.lst xs)) : TyOf K H (.ref a) (.type "list")
  | frz {a : Addr} {o : Obj} {xs : List V} (e : H a = some (.frz o (.lst xs))) : TyOf K H (.ref a) (.type "list")
  | tup {a : Addr} {xs : List V} (e : H a = some (.tup xs)) : TyOf K H (.ref a) (.type "tuple")
  | dK {a : Addr} {kvs : List (Key × V)} (e : H a = some (.dK kvs)) : TyOf K H (.ref a) (.type "dict")
  | dT {a : Addr} {kvs : List (List Key × V)} (e : H a = some (.dT kvs)) : TyOf K H (.ref a) (.type "dict")
  | ins {a C dx : Addr} {fs : List (Str × V)} (e : H a = some (.ins C dx fs)) (cl : Cls K C) (ha : PySem.W.findIn K (.ref C) "__class__" = some (some (.builtin "object.__class__")))
      (hn : PySem.W.specialIn K (.builtin "object.__class__") "__get__" = some (some (.builtin "getset_descriptor.__get__"))) (htk : PySem.W.takesIn K (.builtin "object.__class__") = some true)
      (hm : PySem.W.mroIn K C (.type "object") = some true) : TyOf K H (.ref a) (.ref C)
/-- isinstance(x, c) for one class c, a built-in or an own one: kitOne's answer -/
theorem isinst_ok {x : V} {u t : Value} (I : Inv X pins σ H s) (rx : RelV x u) (ty : TyOf X.K H x t) (e : PySem.W.kitOne X.K t c = some b) (h : ∀ tk, Q (.bool b) { s with toks := tk }) :
    wpAny (model X.prog X.w) A (call (.builtin "isinstance") [u, c]) Q E s := by
  cases ty with
  | non => cases (show u = Value.none from rx); exact PySem.W.kia_one PySem.W.kitx_none I.kIn True.intro e (fun z => nomatch z) h
  | bl y => cases (show u = Value.bool y from rx); exact PySem.W.kia_one PySem.W.kitx_bool I.kIn True.intro e (fun z => nomatch z) h
  | int i => obtain ⟨t, q⟩ := (show ∃ t, u = Value.int i t from rx); cases q; exact PySem.W.kia_one PySem.W.kitx_int I.kIn True.intro e (fun z => nomatch z) h
  | str y => obtain ⟨t, q⟩ := (show ∃ t, u = Value.str y t from rx); cases q; exact PySem.W.kia_one PySem.W.kitx_str I.kIn True.intro e (fun z => nomatch z) h
  | flt y => obtain ⟨t, q⟩ := (show ∃ t, u = Value.float y t from rx); cases q; exact PySem.W.kia_one PySem.W.kitx_float I.kIn True.intro e (fun z => nomatch z) h
  | @lst a xs ea =>
    cases (show u = Value.ref a from rx)
    obtain ⟨_, _, n, _, h1⟩ := (show ObjOk X.prog X.w H s.heap a (.lst xs) from I.hok a _ ea)
    exact PySem.W.kia_one PySem.W.kitx_list I.kIn ⟨_, h1, rfl⟩ e (fun z => nomatch z) h
  | @frz a ob xs ea =>
    cases (show u = Value.ref a from rx)
    obtain ⟨_, _, _, n, _, h1⟩ := (show ObjOk X.prog X.w H s.heap a (.frz ob (.lst xs)) from I.hok a _ ea)
    exact PySem.W.kia_one PySem.W.kitx_list I.kIn ⟨_, h1, rfl⟩ e (fun z => nomatch z) h
  | @tup a xs ea =>
    cases (show u = Value.ref a from rx)
    obtain ⟨_, _, _, p⟩ := (show ObjOk X.prog X.w H s.heap a (.tup xs) from I.hok a _ ea)
    obtain ⟨o, h1, h2, _⟩ := p
    exact PySem.W.kia_one PySem.W.kitx_tuple I.kIn ⟨o, h1, h2⟩ e (fun z => nomatch z) h
  | @dK a kvs ea =>
    cases (show u = Value.ref a from rx)
    obtain ⟨_, _, vs, _, p⟩ := (show ObjOk X.prog X.w H s.heap a (.dK kvs) from I.hok a _ ea)
    obtain ⟨o, es, ep, h1, h2, _⟩ := p
    exact PySem.W.kia_one PySem.W.kitx_dict I.kIn ⟨o, h1, h2.1⟩ e (fun z => nomatch z) h
  | @dT a kvs ea =>
    cases (show u = Value.ref a from rx)
    obtain ⟨_, _, xs, _, o, es, ep, h1, h2, _⟩ := (show ObjOk X.prog X.w H s.heap a (.dT kvs) from I.hok a _ ea)
    exact PySem.W.kia_one PySem.W.kitx_dict I.kIn ⟨o, h1, h2.1⟩ e (fun z => nomatch z) h
  | @ins a C dx fs ea cl ha hn htk hm =>
    cases (show u = Value.ref a from rx)
    obtain ⟨mA, O, _⟩ := ins_get I.hok ea
    obtain ⟨od, J, _⟩ := O.look
    exact PySem.W.kia_one (PySem.W.kitx_own (cl.get _) cl.hd ha hn htk hm) I.kIn J e (fun z => nomatch z) h
end
end L2

namespace L2
open PySem PySem.Spec PyProof.Rows

/-! ### room -/
structure Room (k : Nat) (A : Around) : Prop where
  hd : A.handled = none
  dp : A.depth + 3 * k + 5 < recursionLimit
  un : A.units + 16 * k + 200 < cLine
theorem Room.mono {j k : Nat} {A : Around} (r : Room k A) (h : j ≤ k) : Room j A := ⟨r.hd, by have := r.dp; omega, by have := r.un; omega⟩
theorem Room.deeper {k : Nat} {A : Around} (r : Room (k + 1) A) (env : Env) : Room k (A.deeper env) :=
  ⟨r.hd, by have := r.dp; show A.depth + 1 + 3 * k + 5 < _; omega, by have := r.un; show A.units + 3 + 16 * k + 200 < _; omega⟩
theorem Room.in1 {k : Nat} {A : Around} (r : Room (k + 1) A) : Room k A.in1 :=
  ⟨r.hd, by have := r.dp; show A.depth + 3 * k + 5 < _; omega, by have := r.un; show A.units + 1 + 16 * k + 200 < _; omega⟩
theorem make_depth {A : Around} {C : Addr} {us : List Value} {kw : List (Str × Value)} : (A.under (.builtin "type.__call__" ⟨.ref C :: us, kw⟩)).depth = A.depth + 1 := by
  first | rfl | simp [Around.under, Code.weight, Code.isCreation, Code.isGuard, Code.isCaller, Code.frames, Code.isFrame, guardIds]
theorem make_units {A : Around} {C : Addr} {us : List Value} {kw : List (Str × Value)} : (A.under (.builtin "type.__call__" ⟨.ref C :: us, kw⟩)).units = A.units + 1 := by
  first | rfl | simp [Around.under, Code.cUnits, Code.frames, Code.isFrame]
theorem Room.make {k : Nat} {A : Around} (r : Room (k + 1) A) (C : Addr) (us : List Value) (kw : List (Str × Value)) : Room k (A.under (.builtin "type.__call__" ⟨.ref C :: us, kw⟩)) :=
  ⟨r.hd, by have := r.dp; rw [make_depth]; omega, by have := r.un; rw [make_units]; omega⟩
theorem Room.depth {k : Nat} {A : Around} (r : Room k A) : A.depth < recursionLimit := by have := r.dp; omega
theorem Room.units {k : Nat} {A : Around} (r : Room k A) : A.units + 64 < cLine := by have := r.un; omega
theorem Room.units0 {k : Nat} {A : Around} (r : Room k A) : A.units < cLine := by have := r.un; omega

/-! ### argument lists and displays -/
def tNil : TA := fun _ H Q => Q [] H
def tCons (ta : TE) (tr : TA) : TA := fun σ H Q => ta σ H fun x H1 => tr σ H1 fun xs H2 => Q (x :: xs) H2
section
variable {X : Cx} {e : Expr} {es : List Expr} {te : TE} {t : TA} {pos : Pos}
theorem pa_nil : PA X [] tNil := fun _ _ _ _ H Q I h => Calls.spliced_nil ⟨[], H, I, .nil, h⟩
theorem pa_cons (ha : PE X e te) (hr : PA X es t) (hs : starEach (e :: es) X.env = (false, eval e X.env) :: starEach es X.env := by rfl) : PA X (e :: es) (tCons te t) := by
  intro pos pins s σ H Q I h
  rw [hs]
  show wpAny _ _ (spliced ((false, eval e X.env) :: backTo pos (starEach es X.env))) _ _ s
  refine Calls.spliced_cons (thn (ha pins s σ H _ I h) fun u s1 ⟨x, H1, I1, r1, q1⟩ => ?_)
  exact thn (hr pos pins s1 σ H1 _ I1 q1) fun us s2 ⟨xs, H2, I2, r2, q2⟩ => ⟨x :: xs, H2, I2, .cons r1 r2, q2⟩

/-- a tuple, a list of written items -/
def tTup (t : TA) : TE := fun σ H Q => t σ H fun xs H1 => xs.length ≤ sizeLine ∧ ∀ p, H1 p = none → Q (.ref p) (upd H1 p (.tup xs))
def tLst (t : TA) : TE := fun σ H Q => t σ H fun xs H1 => xs.length ≤ sizeLine ∧ ∀ p, H1 p = none → Q (.ref p) (upd H1 p (.lst xs))
theorem pe_tup {x1} (h : PA X es t) : PE X (.Tuple es x1 pos) (tTup t) := by
  intro pins s σ H Q I hq
  refine wpAny_Tuple_spliced (thn (h pos pins s σ H _ I hq) fun us s1 ⟨xs, H1, I1, r, z, q⟩ => ⟨by rw [← r.length]; exact z, ?_⟩)
  have hf : H1 s1.heap.objs.size = none := I1.hok.fresh (Nat.le_refl _)
  refine ⟨.ref s1.heap.objs.size, upd H1 s1.heap.objs.size (.tup xs), I1.laid (t' := s1.toks) (fun b u e => Heap.get?_push_of_some _ e) (Nat.le_refl _) ?_, rfl, q _ hf⟩
  exact ⟨z, us, r, ⟨_, Heap.get?_push_size _ rfl, rfl, _, rfl⟩⟩
theorem pe_lst (h : PA X es t) : PE X (.List es pos) (tLst t) := by
  intro pins s σ H Q I hq
  refine wpAny_List_spliced (thn (h pos pins s σ H _ I hq) fun us s1 ⟨xs, H1, I1, r, z, q⟩ => ⟨by rw [← r.length]; exact z, ?_⟩)
  have hf : H1 s1.heap.objs.size = none := I1.hok.fresh (Nat.le_refl _)
  refine ⟨.ref s1.heap.objs.size, upd H1 s1.heap.objs.size (.lst xs), I1.laid (t' := s1.toks) (fun b u e => Heap.get?_push_of_some _ e) (Nat.le_refl _) ?_, rfl, q _ hf⟩
  exact ⟨z, us, 0, r, Heap.get?_push_size _ rfl⟩
end

/-! ### what a def promises -/
/-- a def's promise: the bound arguments in the parameters' order, the heap, the wanted end, the wanted exception -/
abbrev Sp := List V → Hp → VK → XK → Prop
/-- how an exception lies behind a call (file 08 gives it): the callers' frames, abstract heap and state ahead of the call, the wish, the exception, the state -/
abbrev CXT := List Env → Hp → Shared → XK → Value → Shared → Prop

/-- the state at a call -/
structure Env0 (P : Program) (w : World) (K : PySem.W.Frag) (mg : Str → Option Value) (base : Heap) (A : Around) (outer : List Env) (s : Shared) (H : Hp) : Prop where
  frames : A.frames = some outer
  mod : Mod K mg base
  bs : ∀ b o, base.get? b = some o → s.heap.get? b = some o ∧ H b = none
  bsz : base.objs.size ≤ s.heap.objs.size
  funs : s.heap.FunFrames base outer
  frf : ∀ b ∈ frs outer, H b = none
  hok : HOk P w H s.heap
  bare : AllBare s.gens
/-- a call's end -/
def CE (outer : List Env) (P : Program) (w : World) (H : Hp) (s : Shared) (Q : VK) (u : Value) (s' : Shared) : Prop :=
  ∃ v H', s'.os = s.os ∧ AllBare s'.gens ∧ Un (frs outer) [] H H' s.heap s'.heap ∧ HOk P w H' s'.heap ∧ RelV v u ∧ Q v H'
def CR (CX : CXT) (outer : List Env) (P : Program) (w : World) (H : Hp) (s : Shared) (Q : VK) (E : XK) (r : Result) (s' : Shared) : Prop :=
  match r with
  | .ok (.ret u) => CE outer P w H s Q u s'
  | .ok _ => False
  | .error e => CX outer H s E e s'
structure FnOk (P : Program) (w : World) (K : PySem.W.Frag) (mg : Str → Option Value) (base : Heap) (CX : CXT) (k : Nat) (f : Addr) (fd : FuncData) (ps : List Str) (sp : Sp) : Prop where
  len : ∀ vs H Q E, sp vs H Q E → vs.length = ps.length
  run : ∀ (A : Around) (outer : List Env) (s : Shared) (H : Hp) (args : Args) (us : List Value) (vs : List V) (Q : VK) (E : XK), Room k A → Env0 P w K mg base A outer s H → BindsTo s fd args (ps.zip us) → Vals vs us → sp vs H Q E →
    codeAny (model P w) A (.call (.ref f) args) (CR CX outer P w H s Q E) s
theorem FnOk.mono {P : Program} {w : World} {K : PySem.W.Frag} {mg : Str → Option Value} {base : Heap} {CX : CXT} {j k : Nat} {f : Addr} {fd : FuncData} {ps : List Str} {sp : Sp} (F : FnOk P w K mg base CX j f fd ps sp) (h : j ≤ k) :
    FnOk P w K mg base CX k f fd ps sp := ⟨F.len, fun A outer s H args us vs Q E hr => F.run A outer s H args us vs Q E (hr.mono h)⟩
/-- a weaker promise -/
theorem FnOk.imp {P : Program} {w : World} {K : PySem.W.Frag} {mg : Str → Option Value} {base : Heap} {CX : CXT} {k : Nat} {f : Addr} {fd : FuncData} {ps : List Str} {sp sp' : Sp} (F : FnOk P w K mg base CX k f fd ps sp)
    (h : ∀ vs H Q E, sp' vs H Q E → sp vs H Q E) : FnOk P w K mg base CX k f fd ps sp' :=
  ⟨fun vs H Q E q => F.len vs H Q E (h _ _ _ _ q), fun A outer s H args us vs Q E hr he hb hv hs => F.run A outer s H args us vs Q E hr he hb hv (h _ _ _ _ hs)⟩

theorem Env0.make {P : Program} {w : World} {K : PySem.W.Frag} {mg : Str → Option Value} {base : Heap} {A : Around} {outer : List Env} {s : Shared} {H : Hp} (e : Env0 P w K mg base A outer s H) (C : Addr) (us : List Value) (kw : List (Str × Value)) :
    Env0 P w K mg base (A.under (.builtin "type.__call__" ⟨.ref C :: us, kw⟩)) outer s H := ⟨by first | exact e.frames | (simpa [Around.under, Code.envs, Code.isFrame, pushEnvs] using e.frames), e.mod, e.bs, e.bsz, e.funs, e.frf, e.hok, e.bare⟩
theorem Env0.in1 {P : Program} {w : World} {K : PySem.W.Frag} {mg : Str → Option Value} {base : Heap} {A : Around} {outer : List Env} {s : Shared} {H : Hp} (e : Env0 P w K mg base A outer s H) :
    Env0 P w K mg base A.in1 outer s H := ⟨e.frames, e.mod, e.bs, e.bsz, e.funs, e.frf, e.hok, e.bare⟩

section
variable {X : Cx} {pins : List (Addr × Obj)} {σ : St} {H : Hp} {s s' : Shared}
/-- from a body: what a callee wants -/
theorem Inv.env0 (I : Inv X pins σ H s) : Env0 X.prog X.w X.K X.mg X.base X.A X.stack s H :=
  ⟨I.ok.frames, I.ok.mod, I.bs, Nat.le_trans I.ok.bsz I.sz, I.stack, I.stkFree, I.hok, I.bare⟩
/-- behind a call -/
theorem Inv.after {Q : VK} {u : Value} (I : Inv X pins σ H s) (h : CE X.stack X.prog X.w H s Q u s') : EP X pins σ Q u s' := by
  obtain ⟨v, H', os, bare, un, hok, r, q⟩ := h
  obtain ⟨hh, g, d, t, os'⟩ := s'
  obtain rfl : os' = s.os := os
  exact ⟨v, H', I.call (h' := hh) (g' := g) (d' := d) (t' := t) (ch := []) un hok bare (fun b z => absurd z (by simp)), r, q⟩
end

/-! ### calls -/
/-- f(..): the written arguments, then the defaults dvs; E: what is wanted of an exception -/
def tCall (sp : Sp) (dvs : List V) (E : XK) (t : TA) : TE := fun σ H Q => t σ H fun vs H1 => sp (vs ++ dvs) H1 Q E
/-- o.m(..) of an instance of the class at C -/
def tMeth (C : Addr) (m : Str) (sp : Sp) (dvs : List V) (E : XK) (ta : TE) (t : TA) : TE := fun σ H Q => ta σ H fun x H1 => ∃ a dx fs, x = .ref a ∧ H1 a = some (.ins C dx fs) ∧ fs.lookup m = none ∧
  t σ H1 fun vs H2 => sp (x :: (vs ++ dvs)) H2 Q E
/-- C(..): a new instance and its dict, then __init__ -/
def tMake (C : Addr) (sp : Sp) (dvs : List V) (E : XK) (t : TA) : TE := fun σ H Q => t σ H fun vs H1 => ∀ x dx, H1 x = none → H1 dx = none → dx ≠ x →
  sp (.ref x :: (vs ++ dvs)) (upd (upd H1 dx (.own x)) x (.ins C dx [])) (fun v H2 => v = .non ∧ Q (.ref x) H2) E

/-- how the parameters are bound: us the positional arguments, kw the keywords' values by name, ds the defaults that fill up -/
def Binds (K : PySem.W.Frag) (fd : FuncData) (ps : List Str) (ds : List Value) : Prop :=
  ∀ (s : Shared) (us : List Value), K.In s.heap → (us ++ ds).length = ps.length → BindsTo s fd ⟨us, []⟩ (ps.zip (us ++ ds))
/-- every parameter is given -/
theorem Binds.all {K : PySem.W.Frag} {fd : FuncData} {ps : List Str} (h : ∀ us : List Value, us.length = ps.length → bindArgs fd ⟨us, []⟩ = pure (ps.zip us)) : Binds K fd ps [] := fun s us _ hl => by
  rw [List.append_nil] at hl ⊢
  exact .of_eq (h us hl)

/-- an exception of a callee reaches what this body wants of exceptions -/
def Passes (CX : CXT) (X : Cx) (E : XK) : Prop := ∀ (pins : List (Addr × Obj)) (σ : St) (H : Hp) (s : Shared) (e : Value) (s' : Shared), Inv X pins σ H s → CX X.stack H s E e s' → X.xe e s'

section
variable {X : Cx} {CX : CXT} {k : Nat} {f C : Addr} {fd : FuncData} {ps : List Str} {sp : Sp} {dvs : List V} {ds : List Value} {E : XK} {x m : Str} {p pos apos : Pos} {e o : Expr} {es : List Expr} {ta : TE} {t : TA}

/-- the callee runs -/
theorem run_fn {pins : List (Addr × Obj)} {σ : St} {H : Hp} {s : Shared} {Q : VK} {us : List Value} {vs : List V} (F : FnOk X.prog X.w X.K X.mg X.base CX k f fd ps sp) (hr : Room k X.A) (hb : Binds X.K fd ps ds) (hd : Vals dvs ds) (hx : Passes CX X E)
    (I : Inv X pins σ H s) (r : Vals vs us) (h : sp (vs ++ dvs) H Q E) : wpAny (model X.prog X.w) X.A (call (.ref f) us) (EP X pins σ Q) X.xe s := by
  have r2 : Vals (vs ++ dvs) (us ++ ds) := r.append hd
  have hl : (us ++ ds).length = ps.length := by rw [← r2.length]; exact F.len _ _ _ _ h
  refine wpAny_call (codeAny_mono (F.run X.A X.stack s H ⟨us, []⟩ (us ++ ds) (vs ++ dvs) Q E hr I.env0 (hb s us I.kIn hl) r2 h) fun r s' hq => ?_)
  cases r with
  | error e => exact hx pins σ H s e s' I hq
  | ok fl =>
    cases fl with
    | ret u => exact I.after hq
    | next => exact False.elim hq
    | brk => exact False.elim hq
    | cont => exact False.elim hq

theorem pe_call (F : FnOk X.prog X.w X.K X.mg X.base CX k f fd ps sp) (hr : Room k X.A) (hg : Gl X x) (hm : X.mg x = some (.ref f)) (hk : PySem.W.keepIn X.K (.ref f) = true) (hb : Binds X.K fd ps ds) (hd : Vals dvs ds) (hx : Passes CX X E)
    (ha : PA X (e :: es) t) (hdb : (x == ("__debug__" : Str)) = false := by decide) (he : starEach (e :: es) X.env = (false, eval e X.env) :: starEach es X.env := by rfl) (hpl : (backTo pos (starEach es X.env)).any (·.1) = false := by rfl) :
    PE X (.Call (.Name x p) (e :: es) [] pos) (tCall sp dvs E t) := by
  intro pins s σ H Q I h
  refine wpAny_Call_Name_kw (ld_glob I hg hm ?_ hdb)
  refine PySem.W.callWith_K (h₀ := X.base) I.ok.mod.kin hk (thn (ha pos pins s σ H _ I h) fun us s1 ⟨vs, H1, I1, r, q⟩ => ⟨I1.kIn, ?_⟩) he hpl
  exact run_fn F hr hb hd hx I1 r q
theorem pe_call0 (F : FnOk X.prog X.w X.K X.mg X.base CX k f fd ps sp) (hr : Room k X.A) (hg : Gl X x) (hm : X.mg x = some (.ref f)) (hk : PySem.W.keepIn X.K (.ref f) = true) (hb : Binds X.K fd ps ds) (hd : Vals dvs ds) (hx : Passes CX X E)
    (hdb : (x == ("__debug__" : Str)) = false := by decide) : PE X (.Call (.Name x p) [] [] pos) (tCall sp dvs E tNil) := by
  intro pins s σ H Q I h
  refine wpAny_Call_Name_kw (ld_glob I hg hm ?_ hdb)
  exact PySem.W.callWith_K0 I.kIn hk (run_fn (us := []) F hr hb hd hx I .nil h)

/-- o.m(e, ..) -/
theorem pe_meth {pl : Sem Bool} (he : PE X o ta) (c : Cls X.K C) (hm : Meth X.K C m f) (F : FnOk X.prog X.w X.K X.mg X.base CX k f fd ps sp) (hr : Room k X.A) (hb : Binds X.K fd ps ds) (hd : Vals dvs ds) (hx : Passes CX X E) (ha : PA X (e :: es) t)
    (hst : starEach (e :: es) X.env = (false, eval e X.env) :: starEach es X.env := by rfl) (hpl : (backTo pos (starEach es X.env)).any (·.1) = false := by rfl)
    (ht : eval (.Call (.Attribute o m apos) (e :: es) [] pos) X.env = (do
      let ov ← eval o X.env
      standAt apos.atName
      let (f, first) ← holding [ov] (getMethod ov m pl)
      callWith pos f first (backTo pos (starEach (e :: es) X.env)) (backToKw pos (keywordEach [] X.env))) := by rfl) :
    PE X (.Call (.Attribute o m apos) (e :: es) [] pos) (tMeth C m sp dvs E ta t) := by
  intro pins s σ H Q I h
  refine PySem.W.methodCall_KW (pl := pl) (thn (he pins s σ H _ I h) fun u s1 ⟨x, H1, I1, rx, a, dx, fs, ex, ea, l, q⟩ => ?_) ht
  subst ex
  obtain rfl : u = Value.ref a := rx
  refine getmeth_ok I1 ea c hm l ?_
  refine PySem.W.callWith_K (first := [.ref a]) (h₀ := X.base) I.ok.mod.kin hm.kp (thn (ha pos pins s1 σ H1 _ I1 q) fun us s2 ⟨vs, H2, I2, r, q2⟩ => ⟨I2.kIn, ?_⟩) hst hpl
  exact run_fn (us := .ref a :: us) (vs := .ref a :: vs) F hr hb hd hx I2 (.cons rfl r) q2
/-- o.m() -/
theorem pe_meth0 {pl : Sem Bool} (he : PE X o ta) (c : Cls X.K C) (hm : Meth X.K C m f) (F : FnOk X.prog X.w X.K X.mg X.base CX k f fd ps sp) (hr : Room k X.A) (hb : Binds X.K fd ps ds) (hd : Vals dvs ds) (hx : Passes CX X E)
    (ht : eval (.Call (.Attribute o m apos) [] [] pos) X.env = (do
      let ov ← eval o X.env
      standAt apos.atName
      let (f, first) ← holding [ov] (getMethod ov m pl)
      callWith pos f first (backTo pos (starEach [] X.env)) (backToKw pos (keywordEach [] X.env))) := by rfl) :
    PE X (.Call (.Attribute o m apos) [] [] pos) (tMeth C m sp dvs E ta tNil) := by
  intro pins s σ H Q I h
  refine PySem.W.methodCall_KW (pl := pl) (thn (he pins s σ H _ I h) fun u s1 ⟨x, H1, I1, rx, a, dx, fs, ex, ea, l, q⟩ => ?_) ht
  subst ex
  obtain rfl : u = Value.ref a := rx
  refine getmeth_ok I1 ea c hm l ?_
  exact PySem.W.callWith_K0 (first := [.ref a]) I1.kIn hm.kp (run_fn (us := [.ref a]) (vs := [.ref a]) F hr hb hd hx I1 (.cons rfl .nil) q)

/-- what a class must have to be made -/
structure Mk (K : PySem.W.Frag) (C f : Addr) : Prop where
  makes : PySem.W.makesIn K C = true
  init : PySem.W.findIn K (.ref C) "__init__" = some (some (.ref f))
  fn : PySem.W.isFn K (.ref f) = true
  kp : PySem.W.keepIn K (.ref C) = true

theorem run_make {pins : List (Addr × Obj)} {σ : St} {H : Hp} {s : Shared} {Q : VK} {us : List Value} {vs : List V} (M : Mk X.K C f) (F : FnOk X.prog X.w X.K X.mg X.base CX k f fd ps sp) (hr : Room (k + 1) X.A) (hb : Binds X.K fd ps ds) (hd : Vals dvs ds)
    (hx : Passes CX X E) (I : Inv X pins σ H s) (r : Vals vs us)
    (h : ∀ x dx, H x = none → H dx = none → dx ≠ x → sp (.ref x :: (vs ++ dvs)) (upd (upd H dx (.own x)) x (.ins C dx [])) (fun v H2 => v = .non ∧ Q (.ref x) H2) E) :
    wpAny (model X.prog X.w) X.A (call (.ref C) us) (EP X pins σ Q) X.xe s := by
  have hq := h (s.heap.objs.size + 1) s.heap.objs.size (I.hok.fresh (Nat.le_succ _)) (I.hok.fresh (Nat.le_refl _)) (Nat.ne_of_lt (Nat.lt_succ_self _))
  have I2 := Inv.made (C := C) I
  have r2 : Vals (V.ref (s.heap.objs.size + 1) :: (vs ++ dvs)) (Value.ref (s.heap.objs.size + 1) :: (us ++ ds)) := .cons rfl (r.append hd)
  have hl : (Value.ref (s.heap.objs.size + 1) :: us ++ ds).length = ps.length := by
    have e := r2.length
    rw [F.len _ _ _ _ hq] at e
    exact e.symm
  refine wpAny_call (make_map (f := f) I.kIn M.makes M.init (beq_iff_eq.mp M.fn) (codeAny_mono (F.run _ X.stack _ _ ⟨Value.ref (s.heap.objs.size + 1) :: us, []⟩ (Value.ref (s.heap.objs.size + 1) :: (us ++ ds)) _ _ E (hr.make C us [])
    (I2.env0.make C us []) (hb _ (Value.ref (s.heap.objs.size + 1) :: us) I2.kIn hl) r2 hq) fun r s' hq' => ?_))
  cases r with
  | error e => exact hx pins σ _ _ e s' I2 hq'
  | ok fl =>
    cases fl with
    | ret u =>
      obtain ⟨v, H', I3, rv, ev, q3⟩ := I2.after hq'
      subst ev
      exact ⟨rv, ⟨V.ref (s.heap.objs.size + 1), H', I3, rfl, q3⟩⟩
    | next => exact False.elim hq'
    | brk => exact False.elim hq'
    | cont => exact False.elim hq'
theorem pe_make (M : Mk X.K C f) (F : FnOk X.prog X.w X.K X.mg X.base CX k f fd ps sp) (hr : Room (k + 1) X.A) (hg : Gl X x) (hm : X.mg x = some (.ref C)) (hb : Binds X.K fd ps ds) (hd : Vals dvs ds) (hx : Passes CX X E)
    (ha : PA X (e :: es) t) (hdb : (x == ("__debug__" : Str)) = false := by decide) (he : starEach (e :: es) X.env = (false, eval e X.env) :: starEach es X.env := by rfl) (hpl : (backTo pos (starEach es X.env)).any (·.1) = false := by rfl) :
    PE X (.Call (.Name x p) (e :: es) [] pos) (tMake C sp dvs E t) := by
  intro pins s σ H Q I h
  refine wpAny_Call_Name_kw (ld_glob I hg hm ?_ hdb)
  refine PySem.W.callWith_K (h₀ := X.base) I.ok.mod.kin M.kp (thn (ha pos pins s σ H _ I h) fun us s1 ⟨vs, H1, I1, r, q⟩ => ⟨I1.kIn, ?_⟩) he hpl
  exact run_make M F hr hb hd hx I1 r q
theorem pe_make0 (M : Mk X.K C f) (F : FnOk X.prog X.w X.K X.mg X.base CX k f fd ps sp) (hr : Room (k + 1) X.A) (hg : Gl X x) (hm : X.mg x = some (.ref C)) (hb : Binds X.K fd ps ds) (hd : Vals dvs ds) (hx : Passes CX X E)
    (hdb : (x == ("__debug__" : Str)) = false := by decide) : PE X (.Call (.Name x p) [] [] pos) (tMake C sp dvs E tNil) := by
  intro pins s σ H Q I h
  refine wpAny_Call_Name_kw (ld_glob I hg hm ?_ hdb)
  exact PySem.W.callWith_K0 I.kIn M.kp (run_make (us := []) M F hr hb hd hx I .nil h)
end

/-! ### keywords -/
/-- the values of the keywords, from the left -/
def PK (X : Cx) (kws : List Keyword) (t : TA) : Prop :=
  ∀ (pos : Pos) (pins : List (Addr × Obj)) (s : Shared) (σ : St) (H : Hp) (Q : List V → Hp → Prop), Inv X pins σ H s → t σ H Q → wpAny (model X.prog X.w) X.A (evalAll ((backToKw pos (keywordEach kws X.env)).map (·.2))) (AP X pins σ Q) X.xe s
section
variable {X : Cx} {CX : CXT} {k : Nat} {f C : Addr} {fd : FuncData} {ps ks : List Str} {sp : Sp} {E : XK} {x m : Str} {p pos apos kpos : Pos} {e o : Expr} {es : List Expr} {kws : List Keyword} {te ta : TE} {t tk : TA} {nm : Option Str}
theorem pk_nil : PK X [] tNil := fun _ _ _ _ H Q I h => wpAny_evalAll_nil ⟨[], H, I, .nil, h⟩
theorem pk_cons (ha : PE X e te) (hr : PK X kws t) : PK X (⟨nm, e, kpos⟩ :: kws) (tCons te t) := by
  intro pos pins s σ H Q I h
  show wpAny _ _ (evalAll ((do let v ← eval e X.env; standAt pos; pure v) :: (backToKw pos (keywordEach kws X.env)).map (·.2))) _ _ s
  refine wpAny_evalAll_cons (wpAny_bind (thn (ha pins s σ H _ I h) fun u s1 ⟨x, H1, I1, r1, q1⟩ => wpAny_bind (wpAny_standAt (wpAny_pure ?_))))
  exact thn (hr pos pins s1 σ H1 _ I1 q1) fun us s2 ⟨xs, H2, I2, r2, q2⟩ => ⟨x :: xs, H2, I2, .cons r1 r2, q2⟩

/-- how a call with keywords binds: g puts the positional values us and the keywords' values ws (names ks) in the parameters' order, defaults among them -/
structure KBinds (K : PySem.W.Frag) (fd : FuncData) (ps ks : List Str) (g : List Value → List Value → List Value) (gV : List V → List V → List V) : Prop where
  to : ∀ (s : Shared) (us ws : List Value), K.In s.heap → (g us ws).length = ps.length → BindsTo s fd ⟨us, ks.zip ws⟩ (ps.zip (g us ws))
  rel : ∀ {vs : List V} {us : List Value} {zs : List V} {ws : List Value}, Vals vs us → Vals zs ws → Vals (gV vs zs) (g us ws)
def tCallK (sp : Sp) (gV : List V → List V → List V) (E : XK) (t tk : TA) : TE := fun σ H Q => t σ H fun vs H1 => tk σ H1 fun zs H2 => sp (gV vs zs) H2 Q E
variable {g : List Value → List Value → List Value} {gV : List V → List V → List V}
theorem run_fnk {pins : List (Addr × Obj)} {σ : St} {H : Hp} {s : Shared} {Q : VK} {us ws : List Value} {vs zs : List V} (F : FnOk X.prog X.w X.K X.mg X.base CX k f fd ps sp) (hr : Room k X.A) (hb : KBinds X.K fd ps ks g gV) (hx : Passes CX X E)
    (I : Inv X pins σ H s) (r : Vals vs us) (rz : Vals zs ws) (h : sp (gV vs zs) H Q E) : wpAny (model X.prog X.w) X.A (call (.ref f) us (ks.zip ws)) (EP X pins σ Q) X.xe s := by
  have r2 := hb.rel r rz
  have hl : (g us ws).length = ps.length := by rw [← r2.length]; exact F.len _ _ _ _ h
  refine wpAny_call (codeAny_mono (F.run X.A X.stack s H ⟨us, ks.zip ws⟩ (g us ws) (gV vs zs) Q E hr I.env0 (hb.to s us ws I.kIn hl) r2 h) fun r s' hq => ?_)
  cases r with
  | error e => exact hx pins σ H s e s' I hq
  | ok fl =>
    cases fl with
    | ret u => exact I.after hq
    | next => exact False.elim hq
    | brk => exact False.elim hq
    | cont => exact False.elim hq
/-- f(e, .., k = v, ..) -/
theorem pe_callK (F : FnOk X.prog X.w X.K X.mg X.base CX k f fd ps sp) (hr : Room k X.A) (hg : Gl X x) (hm : X.mg x = some (.ref f)) (hk : PySem.W.keepIn X.K (.ref f) = true) (hb : KBinds X.K fd ps ks g gV) (hx : Passes CX X E)
    (ha : PA X (e :: es) t) (hkw : PK X kws tk) (hall : (backToKw pos (keywordEach kws X.env)).all (·.1.isSome) = true := by rfl) (hks : (backToKw pos (keywordEach kws X.env)).filterMap (·.1) = ks := by rfl)
    (hdb : (x == ("__debug__" : Str)) = false := by decide) (he : starEach (e :: es) X.env = (false, eval e X.env) :: starEach es X.env := by rfl)
    (hpl : ((backTo pos (starEach (e :: es) X.env)).any (·.1) || (backToKw pos (keywordEach kws X.env)).any (·.1.isNone)) = false := by rfl) :
    PE X (.Call (.Name x p) (e :: es) kws pos) (tCallK sp gV E t tk) := by
  intro pins s σ H Q I h
  refine wpAny_Call_Name_kw (ld_glob I hg hm ?_ hdb)
  refine PySem.W.callWith_KW (h₀ := X.base) I.ok.mod.kin hk hall (thn (ha pos pins s σ H _ I h) fun us s1 ⟨vs, H1, I1, r, q⟩ => ?_) hpl he
  refine thn (hkw pos pins s1 σ H1 _ I1 q) fun ws s2 ⟨zs, H2, I2, rz, q2⟩ => ⟨I2.kIn, ?_⟩
  rw [hks]
  exact run_fnk F hr hb hx I2 r rz q2
end

/-! ### a def's body keeps its promise -/
/-- names: the parameters first -/
structure FnScope (N P : List Str) (sc : Scope) : Prop where
  kind : sc.kind = .function
  co : sc.isCoroutine = false
  gen : sc.isGenerator = false
  nd : N.Nodup
  pre : N.take P.length = P
  par : ∀ x ∈ P, sc.names.lookup x = some .local ∨ sc.names.lookup x = some .cell
  nofree : ∀ y ∈ sc.names, y.2 ≠ .free

theorem bindL_out {kindOf : Str → Option NameKind} {x : Str} : ∀ {binds : List (Str × Value)} {m : Str → Option Value}, (∀ v, (x, v) ∉ binds) → bindL kindOf binds m x = m x
  | [], _, _ => rfl
  | (n, v) :: r, m, h => by
    unfold bindL
    rw [bindL_out fun w hw => h w (List.mem_cons_of_mem _ hw)]
    split
    · have : x ≠ n := by rintro rfl; exact h v List.mem_cons_self
      simp [this]
    · rfl
theorem bindC_out {kindOf : Str → Option NameKind} {x : Str} : ∀ {binds : List (Str × Value)} {m : Str → Option Value}, (∀ v, (x, v) ∉ binds) → bindC kindOf binds m x = m x
  | [], _, _ => rfl
  | (n, v) :: r, m, h => by
    unfold bindC
    rw [bindC_out fun w hw => h w (List.mem_cons_of_mem _ hw)]
    split
    · rfl
    · have : x ≠ n := by rintro rfl; exact h v List.mem_cons_self
      simp [this]
theorem bindL_get {kindOf : Str → Option NameKind} {x : Str} {v : Value} : ∀ {P : List Str} {vs : List Value} {i : Nat} {m : Str → Option Value}, P.Nodup → P[i]? = some x → vs[i]? = some v → kindOf x = some .local →
    bindL kindOf (P.zip vs) m x = some v
  | [], _, _, _, _, h, _, _ => by simp at h
  | _ :: _, [], _, _, _, _, h, _ => by simp at h
  | p :: P, w :: vs, 0, m, nd, h1, h2, hk => by
    simp at h1 h2; subst h1; subst h2
    show bindL kindOf ((p, w) :: P.zip vs) m p = _
    unfold bindL
    rw [bindL_out fun v hv => (List.nodup_cons.mp nd).1 (List.of_mem_zip hv).1, if_pos hk]
    simp
  | p :: P, w :: vs, i + 1, m, nd, h1, h2, hk => by
    show bindL kindOf ((p, w) :: P.zip vs) m x = _
    unfold bindL
    exact bindL_get (i := i) (List.nodup_cons.mp nd).2 (by simpa using h1) (by simpa using h2) hk
theorem bindC_get {kindOf : Str → Option NameKind} {x : Str} {v : Value} : ∀ {P : List Str} {vs : List Value} {i : Nat} {m : Str → Option Value}, P.Nodup → P[i]? = some x → vs[i]? = some v → kindOf x ≠ some .local →
    bindC kindOf (P.zip vs) m x = some v
  | [], _, _, _, _, h, _, _ => by simp at h
  | _ :: _, [], _, _, _, _, h, _ => by simp at h
  | p :: P, w :: vs, 0, m, nd, h1, h2, hk => by
    simp at h1 h2; subst h1; subst h2
    show bindC kindOf ((p, w) :: P.zip vs) m p = _
    unfold bindC
    rw [bindC_out fun v hv => (List.nodup_cons.mp nd).1 (List.of_mem_zip hv).1, if_neg hk]
    simp
  | p :: P, w :: vs, i + 1, m, nd, h1, h2, hk => by
    show bindC kindOf ((p, w) :: P.zip vs) m x = _
    unfold bindC
    exact bindC_get (i := i) (List.nodup_cons.mp nd).2 (by simpa using h1) (by simpa using h2) hk

/-- the names' values at the entry -/
def start (N : List Str) (vs : List V) : St := vs.map some ++ List.replicate (N.length - vs.length) none

/-- the context of a def's body, at its entry; an exception leaves the frame, then lies as CX says -/
def cxOf (CX : CXT) (P : Program) (w : World) (K : PySem.W.Frag) (mg : Str → Option Value) (base : Heap) (N : List Str) (qual : Str) (scope : Scope) (f : Addr) (cd : Value) (A : Around) (outer : List Env) (s : Shared) (H : Hp) (E : XK) : Cx where
  prog := P
  w := w
  K := K
  mg := mg
  base := base
  A := A.deeper (envOfC qual scope s.heap.objs.size f cd)
  N := N
  s₀ := s
  H₀ := H
  env := envOfC qual scope s.heap.objs.size f cd
  outer := outer
  stack := envOfC qual scope s.heap.objs.size f cd :: outer
  ex := []
  calm := true
  fn := fun _ => true
  pn := []
  xe := fun e s' => wpAny (model P w) (A.deeper (envOfC qual scope s.heap.objs.size f cd)) (leaving (envOfC qual scope s.heap.objs.size f cd) e) (fun _ s'' => CX outer H s E e s'') (fun e' s'' => CX outer H s E e' s'') s'

theorem cell_has {sc : Scope} {n : Nat} {x : Str} (h : sc.names.lookup x = some .cell) : ∃ c, (cellsFrom n sc.names []).lookup x = some c := by
  have q := PySem.W.cellsFrom_some sc.names n [] (.inl h)
  exact Option.isSome_iff_exists.mp q

theorem inv_start {CX : CXT} {P : Program} {w : World} {K : PySem.W.Frag} {mg : Str → Option Value} {base : Heap} {N ps : List Str} {qual : Str} {scope : Scope} {f : Addr} {cd : Value} {A : Around} {outer : List Env} {s s1 : Shared} {H : Hp} {E : XK} {us : List Value} {vs : List V}
    (S : FnScope N ps scope) (hd : A.handled = none) (e0 : Env0 P w K mg base A outer s H) (hl : vs.length = ps.length) (r : Vals vs us)
    (x : InCallC s s.heap.objs.size (bindL (envOfC qual scope s.heap.objs.size f cd).kindOf (ps.zip us) fun _ => none) (cellsFrom (s.heap.objs.size + 1) scope.names []) (bindC (envOfC qual scope s.heap.objs.size f cd).kindOf (ps.zip us) fun _ => none) s1) :
    Inv (cxOf CX P w K mg base N qual scope f cd A outer s H E) [] (start N vs) H s1 := by
  have hpl : ps.length ≤ N.length := by have := congrArg List.length S.pre; rw [List.length_take] at this; omega
  obtain ⟨h1, tk, rfl, hk⟩ := x.done
  have noA : ∀ b : Addr, b ∉ (cxOf CX P w K mg base N qual scope f cd A outer s H E).ex := fun b z => absurd (show b ∈ ([] : List Addr) from z) (by simp)
  refine ⟨⟨e0.mod, S.kind, rfl, rfl, Nat.le_refl _, fun y z c h1 h2 => ?_, fun y hy => ?_, fun y c _ h => ?_, fun _ => hd, Around.frames_deeper e0.frames, .inr ⟨rfl, rfl⟩, fun b z => absurd z (noA b), e0.bs, e0.bsz, fun b _ _ => noA b, fun b z => absurd z (noA b), e0.funs, e0.frf⟩,
    rfl, e0.bare, Un.kept hk, ⟨_, x.toInCall.ns, fun i y v h1 h2 h3 => ?_⟩, fun y c h => ⟨_, x.cell y c h⟩, e0.hok.fresh (Nat.le_refl _), fun y c h => ?_, fun p hp => absurd (show p ∈ ([] : List (Addr × Obj)) from hp) (by simp), e0.hok.kept hk, ?_⟩
  · exact name_of_addr x.apart (PySem.mem_of_lookup h1) (PySem.mem_of_lookup h2)
  · have hy : scope.names.lookup y = some .cell ∨ scope.names.lookup y = some .free := hy
    rcases hy with hy | hy
    · exact cell_has hy
    · exact absurd rfl (S.nofree _ (PySem.mem_of_lookup hy))
  · exact Nat.le_of_lt (x.above y c (PySem.mem_of_lookup h))
  · have hi : i < vs.length := by
      unfold start at h2
      by_cases hi : i < vs.length
      · exact hi
      · rw [List.getElem?_append_right (by simpa using hi)] at h2
        rw [List.getElem?_replicate] at h2
        split at h2 <;> cases h2
    have ha : vs[i]? = some v := by
      unfold start at h2
      rw [List.getElem?_append_left (by simpa using hi), List.getElem?_map] at h2
      cases e : vs[i]? with
      | none => rw [e] at h2; cases h2
      | some a => rw [e] at h2; cases h2; rfl
    obtain ⟨u, hu, rv⟩ := r.get ha
    have hp : ps[i]? = some y := by
      rw [← S.pre, List.getElem?_take_of_lt (by omega)]; exact h1
    have ndP : ps.Nodup := by rw [← S.pre]; exact S.nd.sublist (List.take_sublist _ _)
    refine ⟨u, rv, ?_⟩
    rcases S.par y (List.mem_of_getElem? hp) with k | k
    · exact .inl ⟨k, bindL_get ndP hp hu k⟩
    · obtain ⟨c, e⟩ := cell_has (n := s.heap.objs.size + 1) k
      refine .inr ⟨.inl k, c, e, ?_⟩
      have q := x.cell y c e
      rw [bindC_get ndP hp hu (by show scope.names.lookup y ≠ _; rw [k]; decide)] at q
      exact q
  · exact e0.hok.fresh (Nat.le_of_lt (x.above y c (PySem.mem_of_lookup h)))
  · unfold start
    show _ = N.length
    rw [List.length_append, List.length_map, List.length_replicate]
    omega

/-- THE RULE: a def (or a method) of the text, by its body. The body's reading t is chosen for each entry; it is run at the parameters' values -/
theorem fn_of {CX : CXT} {P : Program} {w : World} {K : PySem.W.Frag} {mg : Str → Option Value} {base : Heap} {k : Nat} {f : Addr} {name qual : Str} {params : Arguments} {body : List Stmt} {scope : Scope} {dV kV doc pm cdv ct oc : Value} {an od : Option Addr}
    {osl : Array (Option Value)} {N ps : List Str} {sp : Sp} (lk : K.lookup f = some ⟨oc, od, .func (PySem.W.fnOf name qual params body scope dV kV doc pm an cdv ct), osl⟩) (hcd : PySem.W.codeIn K cdv qual = true) (S : FnScope N ps scope)
    (len : ∀ vs H Q E, sp vs H Q E → vs.length = ps.length)
    (hbody : ∀ (A : Around) (outer : List Env) (s : Shared) (H : Hp) (vs : List V) (Q : VK) (E : XK), Room k (A.deeper (envOfC qual scope s.heap.objs.size f cdv)) → sp vs H Q E →
      ∃ t, PSs (cxOf CX P w K mg base N qual scope f cdv A outer s H E) body t ∧ t { nx := fun _ H' => Q .non H', rt := Q } (start N vs) H) :
    FnOk P w K mg base CX (k + 1) f (PySem.W.fnOf name qual params body scope dV kV doc pm an cdv ct) ps sp := by
  refine ⟨len, fun A outer s H args us vs Q E hr e0 hb r hsp => ?_⟩
  have hl := len _ _ _ _ hsp
  have KX : K.In s.heap := e0.mod.kin.keeps fun b o e => (e0.bs b o e).1
  have lim : s.heap.NoLimit := e0.mod.nolimit.keeps fun b o e => (e0.bs b o e).1
  have hkind : ∀ y ∈ ps.zip us, scope.names.lookup y.1 = some .local ∨ (scope.names.lookup y.1 = some .cell ∧ ((cellsFrom (s.heap.objs.size + 1) scope.names []).lookup y.1).isSome = true) := fun ⟨n, v⟩ hy => by
    rcases S.par n (List.of_mem_zip hy).1 with q | q
    · exact .inl q
    · exact .inr ⟨q, PySem.W.cellsFrom_some _ _ _ (.inl q)⟩
  refine codeAny_call_function hr.depth (KX _ _ lk) rfl S.co S.gen rfl (PySem.W.codeRec_of KX hcd) (hb _ _ _ _ ?_)
  refine wpAny_newFunctionEnv_cells S.kind hkind fun env he s1 x => ?_
  subst he
  refine ⟨lim.keeps x.toInCall.keep, codeAny_func ?_⟩
  obtain ⟨t, ht, hq⟩ := hbody A outer s H vs Q E (hr.deeper _) hsp
  have I : Inv (cxOf CX P w K mg base N qual scope f cdv A outer s H E) [] (start N vs) H s1 := inv_start S hr.hd e0 hl r x
  refine wpAny_mono (ht [] s1 (start N vs) H _ I hq) (fun fl s' hs => ?_) fun e s' hs => hs
  have fin : ∀ {σ' : St} {H' : Hp} {v : V} {u : Value}, Inv (cxOf CX P w K mg base N qual scope f cdv A outer s H E) [] σ' H' s' → RelV v u → Q v H' → CE outer P w H s Q u s' :=
    fun {σ' H' v u} J rv q => ⟨v, H', J.os, J.bare, J.base, J.hok, rv, q⟩
  cases fl with
  | ret u =>
    obtain ⟨v, σ', H', J, rv, q⟩ := hs
    exact fin J rv q
  | next =>
    obtain ⟨σ', H', J, q⟩ := hs
    exact fin (v := V.non) (u := Value.none) J rfl q
  | brk =>
    obtain ⟨_, _, _, q⟩ := hs
    exact False.elim q
  | cont =>
    obtain ⟨_, _, _, q⟩ := hs
    exact False.elim q
end L2

namespace L2
open PySem PySem.Spec PyProof.Rows
section
variable {X : Cx} {x : Str} {p pos : Pos} {e : Expr} {es : List Expr} {t : TA} {id T : String} {r : List V → Hp → VK → Prop}

def tCB (r : List V → Hp → VK → Prop) (t : TA) : TE := fun σ H Q => t σ H fun vs H1 => r vs H1 Q
/-- f(e, ..), f a built-in function -/
theorem pe_callB (hc : CallR X (.builtin id) r) (hg : Gl X x) (hm : X.mg x = none) (hv : bootBuiltins x = some (.builtin id)) (ha : PA X (e :: es) t) (hn : x ≠ "__name__" := by decide) (hdb : (x == ("__debug__" : Str)) = false := by decide)
    (he : starEach (e :: es) X.env = (false, eval e X.env) :: starEach es X.env := by rfl) (hpl : (backTo pos (starEach es X.env)).any (·.1) = false := by rfl) : PE X (.Call (.Name x p) (e :: es) [] pos) (tCB r t) := by
  intro pins s σ H Q I h
  refine wpAny_Call_Name_kw (ld_blt I hg hm hv ?_ hn hdb)
  exact PyProof.Rows.callWith_builtin1 (thn (ha pos pins s σ H _ I h) fun us s1 ⟨vs, H1, I1, r1, q1⟩ => hc pins s1 σ H1 vs us Q I1 r1 q1) he hpl
/-- T(e, ..), T a built-in type -/
theorem pe_callTy (hc : CallR X (.type T) r) (hg : Gl X x) (hm : X.mg x = none) (hv : bootBuiltins x = some (.type T)) (ha : PA X (e :: es) t) (hn : x ≠ "__name__" := by decide) (hdb : (x == ("__debug__" : Str)) = false := by decide)
    (he : starEach (e :: es) X.env = (false, eval e X.env) :: starEach es X.env := by rfl) (hpl : (backTo pos (starEach es X.env)).any (·.1) = false := by rfl) : PE X (.Call (.Name x p) (e :: es) [] pos) (tCB r t) := by
  intro pins s σ H Q I h
  refine wpAny_Call_Name_kw (ld_blt I hg hm hv ?_ hn hdb)
  exact PyProof.Rows.callWith_type1 (thn (ha pos pins s σ H _ I h) fun us s1 ⟨vs, H1, I1, r1, q1⟩ => hc pins s1 σ H1 vs us Q I1 r1 q1) he hpl
/-- T() -/
theorem pe_callTy0 (hc : CallR X (.type T) r) (hg : Gl X x) (hm : X.mg x = none) (hv : bootBuiltins x = some (.type T)) (hn : x ≠ "__name__" := by decide) (hdb : (x == ("__debug__" : Str)) = false := by decide) :
    PE X (.Call (.Name x p) [] [] pos) (tCB r tNil) := by
  intro pins s σ H Q I h
  refine wpAny_Call_Name_kw (ld_blt I hg hm hv ?_ hn hdb)
  exact PyProof.Rows.callWith_type0 (hc pins s σ H [] [] Q I .nil h)
end
end L2

namespace HT
open PySem PyProof.Rows

/-- t < u of tuples of ints -/
def lexLt : List Int → List Int → Bool
  | [], [] => false
  | [], _ :: _ => true
  | _ :: _, [] => false
  | x :: xs, y :: ys => if x = y then lexLt xs ys else decide (x < y)
theorem lexLt_cons (x y : Int) (xs ys : List Int) : lexLt (x :: xs) (y :: ys) = if x = y then lexLt xs ys else decide (x < y) := rfl
theorem lexLt_nil_nil : lexLt [] [] = false := rfl
theorem lexLt_nil_cons (y : Int) (ys : List Int) : lexLt [] (y :: ys) = true := rfl
theorem lexLt_cons_nil (x : Int) (xs : List Int) : lexLt (x :: xs) [] = false := rfl

theorem eqAt_int (A : Around) (s : Shared) (a : Int) (t : Tok) (c : Int) (u : Tok) : ∃ e, SeqAt.EqAt A s (.int a t) (.int c u) e ∧ (e = true ↔ a = c) :=
  ⟨(a == c), SeqAt.EqAt.int_int a t c u, by simp⟩
theorem rcLt_int (A : Around) (s : Shared) (a : Int) (t : Tok) (c : Int) (u : Tok) (prog : Program) (w : World) (E : Value → Shared → Prop) (Q : Value → Shared → Prop) (h : Q (.bool (decide (a < c))) s) :
    wpAny (model prog w) A (richCompare .Lt (.int a t) (.int c u)) Q E s :=
  (PyProof.Rows.lt_int h : wpAny (model prog w) A (compareOp .Lt (.int a t) (.int c u)) Q E s)

section
open PySem.SeqAt
open PySem.AutoSeq1 (wpAny_loadPart')
open PySem.MeetsSeq PySem.MeetsSeq2 PySem.MeetsSeq3

theorem tuple_lt_ints (l b : Addr) (items items2 : Array Value) (n n2 : Nat) (dd dd2 : Option Addr) (sl sl2 : Array (Option Value)) (ns ms : List Int) (hi : IntsAre items.toList ns) (hj : IntsAre items2.toList ms) :
    Meets (Builtin.«tuple.__lt__» ⟨[.ref l, .ref b], []⟩)
      (fun _ R s => s.heap.get? l = some { cls := .type "tuple", dict := dd, data := .seq items n, slots := sl } ∧ s.heap.get? b = some { cls := .type "tuple", dict := dd2, data := .seq items2 n2, slots := sl2 } ∧
        R (.ok (.ret (.bool (lexLt ns ms)))) s) :=
  .of_wp fun prog w A R s h => by
    obtain ⟨hp, g, d, tk, os⟩ := s; obtain ⟨hl, hb, h⟩ := h
    have f2 := AutoSeq1.sub_tuple_tuple
    have z1 : items.size = ns.length := by rw [← hi.length]; simp
    have z2 : items2.size = ms.length := by rw [← hj.length]; simp
    wp_walk using wpAny_loadPart' hl, wpAny_loadPart' hb, wpAny_forIn_list _ (fun rest b s' => b.1 = none ∧ s' = ⟨hp, g, d, tk, os⟩ ∧ ∃ (vs ws : List Value) (ns' ms' : List Int), rest = vs.zip ws ∧
      IntsAre vs ns' ∧ IntsAre ws ms' ∧ ns'.length + items2.size = ms'.length + items.size ∧ R (.ok (.ret (.bool (lexLt ns' ms')))) ⟨hp, g, d, tk, os⟩) _
    case turn =>
      rintro ⟨y, x⟩ rest b s' ⟨hb', rfl, vs, ws, ns', ms', hz, hvi, hwi, hlen, hR⟩
      cases hvi with
      | nil => rw [List.zip_nil_left] at hz; cases hz
      | cons a t hvi' =>
        cases hwi with
        | nil => rw [List.zip_nil_right] at hz; cases hz
        | cons c u hwi' =>
          rw [List.zip_cons_cons] at hz
          injection hz with hyx hrest
          injection hyx with hy hx
          subst hy hx
          rw [lexLt_cons] at hR
          simp only [List.length_cons] at hlen
          obtain ⟨e, he, hiff⟩ := eqAt_int A.in1 ⟨hp, g, d, tk, os⟩ a t c u
          refine wpAny_bind (he prog w _ _ ?_)
          cases e with
          | true =>
            rw [if_pos (hiff.mp rfl)] at hR
            wp_walk
            exact ⟨rfl, rfl, _, _, _, _, hrest, hvi', hwi', by omega, hR⟩
          | false =>
            rw [if_neg (fun q => absurd (hiff.mpr q) Bool.false_ne_true)] at hR
            have hri := rcLt_int A.in1 ⟨hp, g, d, tk, os⟩ a t c u prog w
            wp_walk using hri
            exact ⟨_, rfl, by simpa using hR⟩
    case fin =>
      rintro ⟨b1, b2⟩ s' ⟨hb', rfl, vs, ws, ns', ms', hz, hvi, hwi, hlen, hR⟩
      simp only at hb'
      subst hb'
      have hv : lexLt ns' ms' = decide (items.size < items2.size) := by
        cases hvi with
        | nil =>
          cases hwi with
          | nil =>
            simp only [List.length_nil] at hlen
            rw [lexLt_nil_nil]
            exact (decide_eq_false (by omega)).symm
          | cons c u hw =>
            simp only [List.length_nil, List.length_cons] at hlen
            rw [lexLt_nil_cons]
            exact (decide_eq_true (by omega)).symm
        | cons a t hv =>
          cases hwi with
          | nil =>
            simp only [List.length_nil, List.length_cons] at hlen
            rw [lexLt_cons_nil]
            exact (decide_eq_false (by omega)).symm
          | cons c u hw =>
            rw [List.zip_cons_cons] at hz
            cases hz
      rw [hv] at hR
      wp_walk
      exact ⟨_, rfl, by simpa [Builtin.Tuple.tupleCompareSizes] using hR⟩
    case h =>
      exact ⟨rfl, rfl, items.toList, items2.toList, ns, ms, rfl, hi, hj, by omega, h⟩
end

section
variable {prog : Program} {w : World} {A : Around} {E : Value → Shared → Prop} {s : Shared}

theorem lt_tupInts {l b : Addr} {items items2 : Array Value} {ns ms : List Int} {Q : Value → Shared → Prop} (hl : IsTup s.heap l items) (hb : IsTup s.heap b items2) (hi : IntsAre items.toList ns) (hj : IntsAre items2.toList ms)
    (hu : A.units < cLine) (h : Q (.bool (lexLt ns ms)) s) : wpAny (model prog w) A (compareOp .Lt (.ref l) (.ref b)) Q E s := by
  obtain ⟨⟨cls, dd, data, sl⟩, ho, hc, n, hd⟩ := id hl
  obtain ⟨⟨cls2, dd2, data2, sl2⟩, ho2, hc2, n2, hd2⟩ := id hb
  simp only at hc hd hc2 hd2
  subst hc hd hc2 hd2
  exact richCompare_meets_room (op := .Lt) ⟨_, ho, rfl⟩ ⟨_, ho2, rfl⟩ PySem.F.slot_tuple_lt PySem.F.entry_tuple_lt (PySem.F.args_tuple_lt_2 _ _) (tuple_lt_ints l b items items2 n n2 dd dd2 sl sl2 ns ms hi hj)
    ⟨ho, ho2, show Value.bool (lexLt ns ms) ≠ Value.notImplemented ∧ Q (.bool (lexLt ns ms)) s from ⟨(fun x => nomatch x), h⟩⟩ hu

/-- t + u, t not empty -/
theorem cat_tup {t b : Addr} {vs ws : List Value} {Q : Value → Shared → Prop} (ht : IsTup s.heap t vs.toArray) (hb : IsTup s.heap b ws.toArray) (hv : vs ≠ [])
    (h1 : ws = [] → Q (.ref t) s) (h2 : ws ≠ [] → Q (.ref s.heap.objs.size) { s with heap := s.heap.push { cls := .type "tuple", data := .seq (vs ++ ws).toArray } })
    (hsz : vs.length + ws.length ≤ sizeLine) : wpAny (model prog w) A (binaryOp .Add (.ref t) (.ref b)) Q E s := by
  obtain ⟨⟨cls, dd, data, sl⟩, ho, hc, n, hd⟩ := id ht
  obtain ⟨⟨cls2, dd2, data2, sl2⟩, ho2, hc2, n2, hd2⟩ := id hb
  simp only at hc hd hc2 hd2
  subst hc hd hc2 hd2
  have e : vs.toArray ++ ws.toArray = (vs ++ ws).toArray := by simp
  by_cases hw : ws = []
  · exact concat_meets ⟨_, ho, rfl⟩ ⟨_, ho2, rfl⟩ noFill_tuple_add seq_tuple_add PySem.F.slot_tuple_add PySem.F.entry_tuple_add (PySem.F.args_tuple_add_2 _ _)
      (tuple_addW1 t b vs.toArray ws.toArray n n2 dd dd2 sl sl2 (by simpa using hv) (by simp [hw])) ⟨ho, ho2, h1 hw⟩
  · refine concat_meets ⟨_, ho, rfl⟩ ⟨_, ho2, rfl⟩ noFill_tuple_add seq_tuple_add PySem.F.slot_tuple_add PySem.F.entry_tuple_add (PySem.F.args_tuple_add_2 _ _)
      (tuple_addW2 t b vs.toArray ws.toArray n n2 dd dd2 sl sl2 (by simpa using hv) (by simpa using hw) (by rw [List.size_toArray, List.size_toArray]; exact hsz)) ⟨ho, ho2, ?_⟩
    rw [e]
    exact h2 hw

/-! ### t[a:b], not the whole -/
/-- a slice's bound as a place among n (d where it is left out) -/
def sIx (n d : Nat) : Option Int → Nat
  | none => d
  | some v => if v < 0 then (v + (n : Int)).toNat else min v.toNat n
theorem sIx_none (n d : Nat) : sIx n d none = d := rfl
theorem sIx_nat (n d k : Nat) : sIx n d (some (k : Int)) = min k n := by
  show (if (k : Int) < 0 then ((k : Int) + (n : Int)).toNat else min (k : Int).toNat n) = min k n
  rw [if_neg (by omega), Int.toNat_natCast]
theorem sIx_le (n d : Nat) (hd : d ≤ n) (o : Option Int) : sIx n d o ≤ n := by
  cases o with
  | none => exact hd
  | some v =>
    show (if v < 0 then (v + (n : Int)).toNat else min v.toNat n) ≤ n
    by_cases hv : v < 0
    · rw [if_pos hv]; omega
    · rw [if_neg hv]; exact Nat.min_le_right _ _
theorem clip_eq (v : Int) (n d : Nat) : (if v < 0 then max (v + (n : Int)) 0 else min v (n : Int)) = ((sIx n d (some v) : Nat) : Int) := by
  show (if v < 0 then max (v + (n : Int)) 0 else min v (n : Int)) = (((if v < 0 then (v + (n : Int)).toNat else min v.toNat n) : Nat) : Int)
  by_cases hv : v < 0
  · simp only [if_pos hv]; omega
  · simp only [if_neg hv]; omega
theorem adjust_gen (lo hi : Option Int) (n : Nat) : Builtin.Slice.sliceAdjust lo hi 1 (n : Int) = (((sIx n 0 lo : Nat) : Int), ((sIx n n hi : Nat) : Int)) := by
  have h1 : ¬ ((1 : Int) < 0) := by omega
  unfold Builtin.Slice.sliceAdjust
  simp only [h1, if_false]
  refine Prod.ext ?_ ?_
  · cases lo with
    | none => rfl
    | some v => exact clip_eq v n 0
  · cases hi with
    | none => rfl
    | some v => exact clip_eq v n n
theorem places_gen (i j : Nat) : Builtin.Slice.slicePlaces (i : Int) (j : Int) 1 = j - i := by
  unfold Builtin.Slice.slicePlaces
  have h1 : (1 : Int) > 0 := by omega
  simp only [h1, if_true, Int.ediv_one]
  split <;> omega
theorem slicePart_ {v : Value} {o : Option Int} {Q : Option Int → Shared → Prop} (p : IsPart v o) (h : Q o s) : wpAny (model prog w) A (Builtin.Slice.slicePartIndex v) Q E s := by
  cases p with
  | none => exact slicePart_none h
  | int i t => exact slicePart_int h
theorem sliceApplied_gen {sl : Addr} {vl vu : Value} {lo hi : Option Int} {n : Nat} {Q : Int × Int × Nat → Shared → Prop} (hs : s.heap.IsSliceOf sl vl vu .none) (pl : IsPart vl lo) (pu : IsPart vu hi)
    (h : Q (((sIx n 0 lo : Nat) : Int), 1, sIx n n hi - sIx n 0 lo) s) : wpAny (model prog w) A (Builtin.Slice.sliceApplied (.ref sl) (pure (n : Int))) Q E s := by
  obtain ⟨os, hos, hcs, hds⟩ := id hs
  unfold Builtin.Slice.sliceApplied Builtin.Slice.sliceFields
  refine wpAny_bind (wpAny_bind (wpAny_field hos hds (x := vl) rfl (wpAny_bind (wpAny_field hos hds (x := vu) rfl (wpAny_bind (wpAny_field hos hds (x := .none) rfl (wpAny_pure ?_)))))))
  refine wpAny_bind (slicePart_none ?_)
  show wpAny _ _ (if ((1 : Int) == 0) = true then _ else _) _ _ s
  rw [if_neg (by decide)]
  refine wpAny_bind (slicePart_ pl (wpAny_bind (slicePart_ pu (wpAny_bind (wpAny_pure ?_)))))
  show wpAny _ _ (match Builtin.Slice.sliceAdjust lo hi 1 (n : Int) with | (lo, hi) => pure (lo, (1 : Int), Builtin.Slice.slicePlaces lo hi 1)) _ _ s
  rw [adjust_gen lo hi n]
  show wpAny _ _ (pure (((sIx n 0 lo : Nat) : Int), (1 : Int), Builtin.Slice.slicePlaces ((sIx n 0 lo : Nat) : Int) ((sIx n n hi : Nat) : Int) 1)) _ _ s
  rw [places_gen]
  exact wpAny_pure h
theorem pick_gen (xs : Array Value) (i k : Nat) : ((List.range k).filterMap fun (m : Nat) => xs[((i : Int) + (m : Int) * 1).toNat]?).toArray = ((xs.toList.drop i).take k).toArray := by
  have e : (fun (m : Nat) => xs[((i : Int) + (m : Int) * 1).toNat]?) = fun m => xs[i + m]? := by
    funext m
    have : ((i : Int) + (m : Int) * 1).toNat = i + m := by omega
    rw [this]
  rw [e]
  have := pick_run xs i k
  rw [List.filterMap_map] at this
  have e2 : ((fun x => xs[x]?) ∘ fun x => i + x) = fun m => xs[i + m]? := rfl
  rw [e2] at this
  rw [this]

theorem getItem_tuple_cut {t sl : Addr} {items : Array Value} {vl vu : Value} {lo hi : Option Int} {Q : Value → Shared → Prop} (ht : IsTup s.heap t items) (hs : s.heap.IsSliceOf sl vl vu .none) (pl : IsPart vl lo) (pu : IsPart vu hi)
    (hw : ¬ (sIx items.size 0 lo = 0 ∧ sIx items.size items.size hi = items.size))
    (h : Q (.ref s.heap.objs.size) { s with heap := s.heap.push { cls := .type "tuple", data := .seq ((items.toList.drop (sIx items.size 0 lo)).take (sIx items.size items.size hi - sIx items.size 0 lo)).toArray } })
    (hsz : items.size ≤ sizeLine) : wpAny (model prog w) A (getItem (.ref t) (.ref sl)) Q E s := by
  have htake : sizeOk (.seq ((items.toList.drop (sIx items.size 0 lo)).take (sIx items.size items.size hi - sIx items.size 0 lo)).toArray) := by
    show ((items.toList.drop (sIx items.size 0 lo)).take (sIx items.size items.size hi - sIx items.size 0 lo)).toArray.size ≤ sizeLine
    rw [List.size_toArray, List.length_take, List.length_drop, Array.length_toList]
    omega
  have hj : sIx items.size items.size hi ≤ items.size := sIx_le _ _ (Nat.le_refl _) hi
  obtain ⟨os, hos, hcs, hds⟩ := id hs
  have hTs : s.TypeIs (.ref sl) "slice" := ⟨os, hos, hcs⟩
  unfold getItem
  try with_reducible refine wpAny_holding ?_
  first | refine wpAny_bind (wpAny_pure ?_) | skip
  refine wpAny_bind (wpAny_sequenceKey ht.typeIs (by decide) ?_)
  refine wpAny_bind (wpAny_callSpecial?_slot (name := Str.ofString "__getitem__") ht.typeIs PyProof.Rows.slot_tuple_getitem
    (wpAny_call_entry PyProof.Rows.slot_tuple_getitem ht.typeIs entry_tuple_getitem ?_ (args_tuple_getitem _ _)))
  show wpAny _ _ (Builtin.Tuple.tupleItemsOf (.ref t) >>= _) _ _ s
  refine wpAny_bind (tupleItemsOf_ ht ?_)
  refine wpAny_bind (wpAny_typeOf hTs ?_)
  rw [if_pos (by decide)]
  refine wpAny_bind (sliceApplied_gen hs pl pu ?_)
  have hno : ¬ ((((sIx items.size 0 lo : Nat) : Int) == 0 && (1 : Int) == 1 && (sIx items.size items.size hi - sIx items.size 0 lo) == items.size) = true) := by
    intro q
    rw [Bool.and_eq_true, Bool.and_eq_true] at q
    have q1 : ((sIx items.size 0 lo : Nat) : Int) = 0 := eq_of_beq q.1.1
    have q2 : sIx items.size items.size hi - sIx items.size 0 lo = items.size := eq_of_beq q.2
    exact hw ⟨by omega, by omega⟩
  show wpAny _ _ (if (((sIx items.size 0 lo : Nat) : Int) == 0 && (1 : Int) == 1 && (sIx items.size items.size hi - sIx items.size 0 lo) == items.size) = true then _ else _) _ _ s
  rw [if_neg hno, pick_gen]
  first
    | exact wpAny_bind (m := Builtin.Tuple.tupleExact _) (wpAny_newObj_type (wpAny_pure ⟨_, rfl, wpAny_pure h⟩) htake)
    | exact wpAny_bind (m := Builtin.Tuple.tupleExact _) (wpAny_newObj_type (wpAny_bind (wpAny_pure (wpAny_pure ⟨_, rfl, wpAny_pure h⟩))) htake)
    | exact wpAny_bind (wpAny_bind (m := Builtin.Tuple.tupleExact _) (wpAny_newObj_type (wpAny_pure (wpAny_pure ⟨_, rfl, wpAny_pure h⟩)) htake))
    | exact wpAny_bind (wpAny_bind (m := Builtin.Tuple.tupleExact _) (wpAny_newObj_type (wpAny_pure ⟨_, rfl, wpAny_pure h⟩) htake))
end
end HT

namespace L2
open PySem PySem.Spec PyProof.Rows

/-! ### the parts of a slice -/
abbrev TO := St → Hp → (Option Int → Hp → Prop) → Prop
/-- a slice's part (left out, or an int) -/
def PO (X : Cx) (e : Option Expr) (t : TO) : Prop :=
  ∀ (pins : List (Addr × Obj)) (s : Shared) (σ : St) (H : Hp) (Q : Option Int → Hp → Prop), Inv X pins σ H s → t σ H Q →
    wpAny (model X.prog X.w) X.A (evalPart e X.env) (fun u s' => ∃ o H', Inv X pins σ H' s' ∧ IsPart u o ∧ Q o H') X.xe s
def tNoPart : TO := fun _ H Q => Q none H
def tPart (t : TE) : TO := fun σ H Q => t σ H fun x H1 => ∃ i, x = .int i ∧ Q (some i) H1

theorem intsAre_of {ns : List Int} : ∀ {us : List Value}, Vals (ns.map V.int) us → IntsAre us ns := by
  induction ns with
  | nil => intro us r; rw [List.map_nil] at r; cases r; exact .nil
  | cons n ns ih =>
    intro us r
    rw [List.map_cons] at r
    cases r with
    | cons r1 r2 =>
      obtain ⟨t, e⟩ := r1
      subst e
      exact .cons n t (ih r2)

section
variable {X : Cx} {e : Expr} {te : TE} {lo hi : Option Expr} {tl th : TO} {pos p2 : Pos}

theorem po_none : PO X none tNoPart := by
  intro pins s σ H Q I h
  rw [evalPart_none]
  exact wpAny_pure ⟨none, H, I, .none, h⟩
theorem po_some (h : PE X e te) : PO X (some e) (tPart te) := by
  intro pins s σ H Q I hw
  rw [evalPart_some]
  refine thn (h pins s σ H _ I hw) fun u s1 ⟨x, H1, I1, r1, q1⟩ => ?_
  obtain ⟨i, rfl, q⟩ := q1
  obtain ⟨t, rfl⟩ := r1
  exact ⟨some i, H1, I1, .int i t, q⟩

/-- what a slice of a value is, by values: the slice object stands at sl -/
def SlR (X : Cx) (r : V → Option Int → Option Int → Hp → VK → Prop) : Prop :=
  ∀ (pins : List (Addr × Obj)) (s : Shared) (σ : St) (H : Hp) (x : V) (v vl vu : Value) (lo hi : Option Int) (sl : Addr) (Q : VK), Inv X pins σ H s → RelV x v → s.heap.IsSliceOf sl vl vu .none → IsPart vl lo → IsPart vu hi → r x lo hi H Q →
    ∃ T id, typeLookup (.type T) "__getitem__" = pure (some (.builtin id)) ∧ s.TypeIs v T ∧ wpAny (model X.prog X.w) X.A (getItem v (.ref sl)) (EP X pins σ Q) X.xe s
theorem SlR.or {r r' : V → Option Int → Option Int → Hp → VK → Prop} (h : SlR X r) (h' : SlR X r') : SlR X (fun x lo hi H Q => r x lo hi H Q ∨ r' x lo hi H Q) := by
  intro pins s σ H x v vl vu lo hi sl Q I rx hs pl pu q
  rcases q with q | q
  · exact h pins s σ H x v vl vu lo hi sl Q I rx hs pl pu q
  · exact h' pins s σ H x v vl vu lo hi sl Q I rx hs pl pu q
def tSl (r : V → Option Int → Option Int → Hp → VK → Prop) (te : TE) (tl th : TO) : TE := fun σ H Q => te σ H fun x H1 => tl σ H1 fun l H2 => th σ H2 fun u H3 => r x l u H3 Q
/-- a[lo:hi], any a -/
theorem pe_slice {r : V → Option Int → Option Int → Hp → VK → Prop} (hr : SlR X r) (he : PE X e te) (hl : PO X lo tl) (hu : PO X hi th) : PE X (.Subscript e (.Slice lo hi none p2) pos) (tSl r te tl th) := by
  intro pins s σ H Q I h
  refine Subscript_ (thn (he pins s σ H _ I h) fun v s1 ⟨x, H1, I1, r1, q1⟩ => ?_)
  refine wpAny_Slice (thn (hl pins s1 σ H1 _ I1 q1) fun vl s2 ⟨l, H2, I2, pl, q2⟩ => thn (hu pins s2 σ H2 _ I2 q2) fun vu s3 ⟨u, H3, I3, pu, q3⟩ => ?_)
  rw [evalPart_none]
  refine wpAny_pure ?_
  have I4 : Inv X pins σ H3 { s3 with heap := s3.heap.push { cls := .type "slice", data := .fields #[vl, vu, .none] } } := I3.kept (t' := s3.toks) fun b ob q => Heap.get?_push_of_some _ q
  obtain ⟨T, id, hT, ht, hg⟩ := hr pins { s3 with heap := s3.heap.push { cls := .type "slice", data := .fields #[vl, vu, .none] } } σ H3 x v vl vu l u s3.heap.objs.size Q I4 r1 (Heap.IsSliceOf.new ..) pl pu q3
  show wpAny (model X.prog X.w) X.A (subscriptTail e (.Slice lo hi none p2) v (.ref s3.heap.objs.size)) (EP X pins σ Q) X.xe { s3 with heap := s3.heap.push { cls := .type "slice", data := .fields #[vl, vu, .none] } }
  exact tail_any (ops := [.ref s3.heap.objs.size, v]) ht hT hg (by with_unfolding_all rfl)

/-- the items of xs[lo:hi] -/
def cutV (xs : List V) (lo hi : Option Int) : List V := (xs.drop (HT.sIx xs.length 0 lo)).take (HT.sIx xs.length xs.length hi - HT.sIx xs.length 0 lo)
theorem cutV_length (xs : List V) (lo hi : Option Int) : (cutV xs lo hi).length ≤ xs.length := by
  unfold cutV
  rw [List.length_take, List.length_drop]
  omega
/-- t[lo:hi], not the whole of it (the whole would be t itself) -/
def rSlT (K : PySem.W.Frag) : V → Option Int → Option Int → Hp → VK → Prop := fun x lo hi H Q => ∃ a xs, x = .ref a ∧ SqT K H a xs ∧
  ¬ (HT.sIx xs.length 0 lo = 0 ∧ HT.sIx xs.length xs.length hi = xs.length) ∧ ∀ p, H p = none → Q (.ref p) (upd H p (.tup (cutV xs lo hi)))
theorem sl_tup : SlR X (rSlT X.K) := by
  intro pins s σ H x v vl vu lo hi sl Q I rx hs pl pu h
  obtain ⟨a, xs, rfl, hx, hw, q⟩ := h
  cases rx
  obtain ⟨its, r, ht, hz⟩ := I.tuple hx
  have hlen : its.toArray.size = xs.length := by rw [List.size_toArray]; exact r.length.symm
  refine ⟨"tuple", _, PyProof.Rows.slot_tuple_getitem.lookup, ht.typeIs, ?_⟩
  refine HT.getItem_tuple_cut ht hs pl pu (by rw [hlen]; exact hw) ?_ (by rw [hlen]; exact hz)
  rw [hlen]
  refine ⟨.ref s.heap.objs.size, _, I.laid (t' := s.toks) (o := .tup (cutV xs lo hi)) (fun b ob q => Heap.get?_push_of_some _ q) (Nat.le_refl _) ?_, rfl, q _ (I.hok.fresh (Nat.le_refl _))⟩
  exact ⟨Nat.le_trans (cutV_length xs lo hi) hz, _, (r.drop (HT.sIx xs.length 0 lo)).take (HT.sIx xs.length xs.length hi - HT.sIx xs.length 0 lo), IsTup.new _ _⟩

/-! ### t < u, t + u -/
def rLtT (K : PySem.W.Frag) : R2 := fun x y H Q => ∃ a b ns ms, x = .ref a ∧ y = .ref b ∧ SqT K H a (ns.map V.int) ∧ SqT K H b (ms.map V.int) ∧ Q (.bl (HT.lexLt ns ms)) H
theorem op_ltT (hu : X.A.units < cLine) : OpR X (compareOp .Lt) (rLtT X.K) := by
  intro pins s σ H x y v u Q I rx ry h
  obtain ⟨a, b, ns, ms, rfl, rfl, ha, hb, q⟩ := h
  cases rx
  cases ry
  obtain ⟨its, r1, p1, _⟩ := I.tuple ha
  obtain ⟨its2, r2, p2, _⟩ := I.tuple hb
  have i1 : IntsAre its.toArray.toList ns := intsAre_of r1
  have i2 : IntsAre its2.toArray.toList ms := intsAre_of r2
  exact HT.lt_tupInts p1 p2 i1 i2 hu ⟨.bl (HT.lexLt ns ms), H, I, rfl, q⟩
/-- t + u, t not empty: u empty gives t itself -/
def rCatT (K : PySem.W.Frag) : R2 := fun x y H Q => ∃ a b xs ys, x = .ref a ∧ y = .ref b ∧ SqT K H a xs ∧ SqT K H b ys ∧ xs ≠ [] ∧ xs.length + ys.length ≤ sizeLine ∧
  (ys = [] → Q (.ref a) H) ∧ (ys ≠ [] → ∀ p, H p = none → Q (.ref p) (upd H p (.tup (xs ++ ys))))
theorem Vals.nil_iff {xs : List V} {us : List Value} (r : Vals xs us) : us = [] ↔ xs = [] := by
  cases r with
  | nil => simp
  | cons _ _ => simp
theorem op_catT : OpR X (binaryOp .Add) (rCatT X.K) := by
  intro pins s σ H x y v u Q I rx ry h
  obtain ⟨a, b, xs, ys, rfl, rfl, ha, hb, hx, hz, q1, q2⟩ := h
  cases rx
  cases ry
  obtain ⟨its, r1, p1, _⟩ := I.tuple ha
  obtain ⟨its2, r2, p2, _⟩ := I.tuple hb
  refine HT.cat_tup p1 p2 (fun z => hx (r1.nil_iff.mp z)) (fun z => ⟨.ref a, H, I, rfl, q1 (r2.nil_iff.mp z)⟩) (fun z => ?_) (by rw [← r1.length, ← r2.length]; exact hz)
  refine ⟨.ref s.heap.objs.size, _, I.laid (t' := s.toks) (o := .tup (xs ++ ys)) (fun b ob q => Heap.get?_push_of_some _ q) (Nat.le_refl _) ?_, rfl, q2 (fun w => z (r2.nil_iff.mpr w)) _ (I.hok.fresh (Nat.le_refl _))⟩
  exact ⟨by rw [List.length_append]; exact hz, _, r1.append r2, IsTup.new _ _⟩
/-- tuple(t) -/
theorem call_tupleT : CallR X (.type "tuple") (fun xs H Q => ∃ a ys, xs = [.ref a] ∧ SqT X.K H a ys ∧ Q (.ref a) H) := by
  intro pins s σ H xs us Q I r h
  obtain ⟨a, ys, rfl, ha, q⟩ := h
  obtain ⟨u, rfl, ru⟩ := vals1 r
  cases ru
  obtain ⟨its, _, p1, _⟩ := I.tuple ha
  exact call_tuple_same (items := its.toArray) p1 ⟨.ref a, H, I, rfl, q⟩
end
end L2

namespace L2
open PySem PySem.Spec PyProof.Rows

/-! ### places -/
/-- the place that an index of any sign means -/
def ixN (n : Nat) (i : Int) : Option Nat := if 0 ≤ i then (if i < n then some i.toNat else none) else if -(n : Int) ≤ i then some (i + n).toNat else none
def atI {α : Type} (xs : List α) (i : Int) : Option α := (ixN xs.length i).bind fun j => xs[j]?
theorem ixN_seq {n : Nat} {i : Int} {j : Nat} (h : ixN n i = some j) : seqIndex? i n = some j ∧ j < n ∧ -(n : Int) ≤ i ∧ i < n := by
  unfold ixN at h
  by_cases h0 : 0 ≤ i
  · rw [if_pos h0] at h
    by_cases h1 : i < n
    · rw [if_pos h1] at h
      have e : i.toNat = j := Option.some.inj h
      exact ⟨by rw [seqIndex_of h0 h1, e], by omega, by omega, h1⟩
    · rw [if_neg h1] at h; cases h
  · rw [if_neg h0] at h
    by_cases h1 : -(n : Int) ≤ i
    · rw [if_pos h1] at h
      have e : (i + n).toNat = j := Option.some.inj h
      exact ⟨by rw [seqIndex_neg (by omega) h1, e], by omega, h1, by omega⟩
    · rw [if_neg h1] at h; cases h
theorem atI_get {α : Type} {xs : List α} {i : Int} {v : α} (h : atI xs i = some v) : ∃ j, seqIndex? i xs.length = some j ∧ xs[j]? = some v ∧ j < xs.length ∧ -(xs.length : Int) ≤ i ∧ i < xs.length := by
  unfold atI at h
  cases e : ixN xs.length i with
  | none => rw [e] at h; cases h
  | some j =>
    rw [e] at h
    obtain ⟨h1, h2, h3, h4⟩ := ixN_seq e
    exact ⟨j, h1, h, h2, h3, h4⟩
theorem atI_nat {α : Type} {xs : List α} {j : Nat} {v : α} (h : xs[j]? = some v) : atI xs (j : Int) = some v := by
  have hj : j < xs.length := (List.getElem?_eq_some_iff.mp h).1
  have e : ixN xs.length (j : Int) = some j := by
    unfold ixN
    rw [if_pos (by omega), if_pos (by omega)]; simp
  unfold atI; rw [e]; exact h
theorem atI_last {α : Type} (xs : List α) (v : α) : atI (xs ++ [v]) (-1) = some v := by
  have hl : (xs ++ [v]).length = xs.length + 1 := by simp
  have e : ixN (xs ++ [v]).length (-1) = some xs.length := by
    unfold ixN
    rw [hl, if_neg (by decide), if_pos (by omega)]
    congr 1
    omega
  unfold atI
  rw [e]
  show (xs ++ [v])[xs.length]? = some v
  simp

/-! ### what may be subscripted -/
/-- what stands as an index of a plain subscript -/
def PlainIx (b : Expr) : Prop := ∀ o i, subscripted b false o i = operate [o, i] (getItem o i)
/-- a subscript by values -/
def IxR (X : Cx) (r : R2) : Prop :=
  ∀ (value slice : Expr) (pins : List (Addr × Obj)) (s : Shared) (σ : St) (H : Hp) (x y : V) (v u : Value) (Q : VK), Inv X pins σ H s → RelV x v → RelV y u → r x y H Q →
    subscripted slice false v u = operate [v, u] (getItem v u) → wpAny (model X.prog X.w) X.A (subscriptTail value slice v u) (EP X pins σ Q) X.xe s
/-- a call of a builtin's method by values: the receiver, the arguments -/
def MtR (X : Cx) (id : String) (r : V → List V → Hp → VK → Prop) : Prop :=
  ∀ (pins : List (Addr × Obj)) (s : Shared) (σ : St) (H : Hp) (x : V) (xs : List V) (v : Value) (us : List Value) (Q : VK), Inv X pins σ H s → RelV x v → Vals xs us → r x xs H Q →
    wpAny (model X.prog X.w) X.A (call (.builtin id) (v :: us)) (EP X pins σ Q) X.xe s
section
variable {X : Cx} {a b : Expr} {ta tb : TE} {pos : Pos}
theorem IxR.or {r r' : R2} (h : IxR X r) (h' : IxR X r') : IxR X (fun x y H Q => r x y H Q ∨ r' x y H Q) := by
  intro value slice pins s σ H x y v u Q I rx ry q hs
  rcases q with q | q
  · exact h value slice pins s σ H x y v u Q I rx ry q hs
  · exact h' value slice pins s σ H x y v u Q I rx ry q hs
theorem MtR.or {id : String} {r r' : V → List V → Hp → VK → Prop} (h : MtR X id r) (h' : MtR X id r') : MtR X id (fun x xs H Q => r x xs H Q ∨ r' x xs H Q) := by
  intro pins s σ H x xs v us Q I rx rs q
  rcases q with q | q
  · exact h pins s σ H x xs v us Q I rx rs q
  · exact h' pins s σ H x xs v us Q I rx rs q
/-- a[b] -/
theorem pe_ix {r : R2} (hr : IxR X r) (ha : PE X a ta) (hb : PE X b tb) (hs : PlainIx b) : PE X (.Subscript a b pos) (tOp r ta tb) := by
  intro pins s σ H Q I h
  exact Subscript_ (binT ha hb I h fun v u s2 x y H2 I2 rx ry q => hr a b pins s2 σ H2 x y v u Q I2 rx ry q (hs _ _))

def rIxL (K : PySem.W.Frag) : R2 := fun x y H Q => ∃ p xs i v, x = .ref p ∧ y = .int i ∧ SqL K H p xs ∧ atI xs i = some v ∧ Q v H
def rIxT (K : PySem.W.Frag) : R2 := fun x y H Q => ∃ p xs i v, x = .ref p ∧ y = .int i ∧ SqT K H p xs ∧ atI xs i = some v ∧ Q v H
def rIxS : R2 := fun x y H Q => ∃ z i c, x = .str z ∧ y = .int i ∧ z.length ≤ sizeLine ∧ atI z.cps.toList i = some c ∧ Q (.str ⟨#[c]⟩) H
theorem ix_list : IxR X (rIxL X.K) := by
  intro value slice pins s σ H x y v u Q I rx ry h hs
  obtain ⟨p, xs, i, z, rfl, rfl, hq, he, q⟩ := h
  cases rx
  obtain ⟨t, rfl⟩ := ry
  obtain ⟨its, r, pl, hz⟩ := I.list hq
  obtain ⟨j, h1, h2, h3, h4, h5⟩ := atI_get he
  obtain ⟨w, ew, rw'⟩ := r.get h2
  have hl := r.length
  have hn := line63
  have fin : EP X pins σ Q w s := ⟨z, H, I, rw', q⟩
  by_cases h0 : 0 ≤ i
  · have hj : i.toNat = j := by
      rw [seqIndex_of h0 h5] at h1
      exact Option.some.inj h1
    exact item_listR pl.isList h0 (by omega) (by rw [hj]; simpa using ew) fin hs
  · have hj : (i + (its.toArray.size : Int)).toNat = j := by
      rw [seqIndex_neg (by omega) h4] at h1
      rw [List.size_toArray, ← hl]
      exact Option.some.inj h1
    exact subscriptTail_builtinR (x := w) pl.isList.typeIs slot_list_getitem.lookup
      (wpAny_getItem_list_neg (Q := fun r s' => r = w ∧ EP X pins σ Q r s') pl.isList (by omega) (by rw [List.size_toArray] <;> omega) (by omega) (by rw [hj]; simpa using ew) ⟨rfl, fin⟩) hs
theorem ix_tup : IxR X (rIxT X.K) := by
  intro value slice pins s σ H x y v u Q I rx ry h hs
  obtain ⟨p, xs, i, z, rfl, rfl, hq, he, q⟩ := h
  cases rx
  obtain ⟨t, rfl⟩ := ry
  obtain ⟨its, r, pl, hz⟩ := I.tuple hq
  obtain ⟨j, h1, h2, h3, h4, h5⟩ := atI_get he
  obtain ⟨w, ew, rw'⟩ := r.get h2
  have hl := r.length
  have hn := line63
  have fin : EP X pins σ Q w s := ⟨z, H, I, rw', q⟩
  exact subscriptTail_builtinR (x := w) pl.typeIs slot_tuple_getitem.lookup
    (getItem_tuple (j := j) (Q := fun r s' => r = w ∧ EP X pins σ Q r s') pl (by omega) (by omega) (by rw [List.size_toArray, ← hl]; exact h1) (by simpa using ew) ⟨rfl, fin⟩) hs
theorem ix_str : IxR X rIxS := by
  intro value slice pins s σ H x y v u Q I rx ry h hs
  obtain ⟨z, i, c, rfl, rfl, hz, he, q⟩ := h
  obtain ⟨t, rfl⟩ := rx
  obtain ⟨t', rfl⟩ := ry
  obtain ⟨j, h1, h2, h3, h4, h5⟩ := atI_get he
  have hl : z.cps.toList.length = z.length := by simp [Str.length]
  rw [hl] at h1 h4 h5
  have hn := line63
  exact tail_any (typeIs_str s z t) slot_str_getitem.lookup (getItem_str (c := c) (by
    have e1 : decide (i < -(2 ^ 63 : Int)) = false := decide_eq_false (by omega)
    have e2 : decide (i ≥ 2 ^ 63) = false := decide_eq_false (by omega)
    rw [e1, e2, Bool.or_false]) (by rw [h1]; simpa using h2) ⟨.str ⟨#[c]⟩, H, I.tok _, ⟨_, rfl⟩, q⟩) hs
/-- list, tuple or str -/
def rIx (K : PySem.W.Frag) : R2 := fun x y H Q => rIxL K x y H Q ∨ rIxT K x y H Q ∨ rIxS x y H Q
theorem ix_seq : IxR X (rIx X.K) := ix_list.or (ix_tup.or ix_str)

/-! ### xs[i] = v, any sign -/
/-- the list's object behind a store -/
theorem mapSeq_set (its : List Value) (n j : Nat) (u : Value) : Obj.mapSeq (·.setIfInBounds j u) { cls := .type "list", data := .seq its.toArray n } = { cls := .type "list", data := .seq (its.set j u).toArray n } := by
  simp [Obj.mapSeq]
theorem Inv.lst {pins : List (Addr × Obj)} {σ : St} {H : Hp} {s : Shared} {p : Addr} {xs : List V} (I : Inv X pins σ H s) (h : H p = some (.lst xs)) :
    ∃ (its : List Value) (n : Nat), Vals xs its ∧ s.heap.get? p = some { cls := .type "list", data := .seq its.toArray n } ∧ xs.length ≤ sizeLine := by
  obtain ⟨z, its, n, r, e⟩ := I.hok p _ h
  exact ⟨its, n, r, e, z⟩
/-- the list at p is written by an update of its object -/
theorem Inv.lstUpd {pins : List (Addr × Obj)} {σ : St} {H : Hp} {s : Shared} {p : Addr} {xs ys : List V} {its its' : List Value} {n n' : Nat} {f : Obj → Obj} (I : Inv X pins σ H s) (h : H p = some (.lst xs))
    (ho : s.heap.get? p = some { cls := .type "list", data := .seq its.toArray n }) (hf : f { cls := .type "list", data := .seq its.toArray n } = { cls := .type "list", data := .seq its'.toArray n' }) (r : Vals ys its') (hz : ys.length ≤ sizeLine) (t : Nat) :
    Inv X pins σ (upd H p (.lst ys)) { s with heap := s.heap.update p f, toks := t } := by
  have e : (s.heap.update p f).get? p = some { cls := .type "list", data := .seq its'.toArray n' } := by
    rw [Heap.get?_update_self f ho (by rw [hf] <;> rfl), hf]
  refine I.write (x := p) (e := p) (by rw [h]; trivial) (.inl rfl) (fun b u hb q => (Heap.get?_update_other _ _ (Ne.symm hb)).trans q) ⟨_, e⟩ ?_
  exact ⟨hz, its', n', r, e⟩
def rSetL : V → V → V → Hp → (Hp → Prop) → Prop := fun o i v H Q => ∃ p xs k j, o = .ref p ∧ i = .int k ∧ H p = some (.lst xs) ∧ ixN xs.length k = some j ∧ Q (upd H p (.lst (xs.set j v)))
theorem set_list : PSet X rSetL := by
  intro pins s σ H o i v ov iv u Q I ro ri rv h
  obtain ⟨p, xs, k, j, rfl, rfl, hp, hj, q⟩ := h
  cases ro
  obtain ⟨t, rfl⟩ := ri
  obtain ⟨its, n, r, ho, hz⟩ := I.lst hp
  obtain ⟨h1, h2, h3, h4⟩ := ixN_seq hj
  have hl := r.length
  have hn := line63
  have I' : Inv X pins σ (upd H p (.lst (xs.set j v))) { s with heap := s.heap.update p (Obj.mapSeq (·.setIfInBounds j u)) } :=
    I.lstUpd hp ho (mapSeq_set its n j u) (r.set rv j) (by rw [List.length_set]; exact hz) s.toks
  by_cases h0 : 0 ≤ k
  · have hk : k.toNat = j := by
      rw [seqIndex_of h0 h4] at h1
      exact Option.some.inj h1
    exact PySem.W.ki_setAt ho h0 (by omega) (by rw [List.size_toArray, ← hl]; exact h4) (by rw [hk]; exact ⟨_, I', q⟩)
  · have hk : (k + (its.toArray.size : Int)).toNat = j := by
      rw [seqIndex_neg (by omega) h3] at h1
      rw [List.size_toArray, ← hl]
      exact Option.some.inj h1
    exact PySem.W.ki_setBack ho (by omega) (by rw [List.size_toArray, ← hl]; exact h3) (by omega) (by rw [hk]; exact ⟨_, I', q⟩)

/-! ### slices -/
theorem slice_bounds (lo hi : Option Int) (n : Nat) : (sliceBounds lo hi none n).1 = ((HT.sIx n 0 lo : Nat) : Int) ∧ (sliceBounds lo hi none n).2.1 = ((HT.sIx n n hi : Nat) : Int) ∧ (sliceBounds lo hi none n).2.2 = 1 := by
  refine ⟨?_, ?_, rfl⟩
  · cases lo with
    | none => simp [sliceBounds, HT.sIx]
    | some i =>
      simp only [sliceBounds, HT.sIx, Option.getD_none, show (1 : Int) > 0 by decide, if_true]
      by_cases h : i < 0
      · simp only [h, if_true] <;> omega
      · simp only [h, if_false] <;> omega
  · cases hi with
    | none => simp [sliceBounds, HT.sIx]
    | some i =>
      simp only [sliceBounds, HT.sIx, Option.getD_none, show (1 : Int) > 0 by decide, if_true]
      by_cases h : i < 0
      · simp only [h, if_true] <;> omega
      · simp only [h, if_false] <;> omega
theorem slicePick_cut (its : List Value) (lo hi : Option Int) : slicePick its.toArray lo hi none = ((its.drop (HT.sIx its.length 0 lo)).take (HT.sIx its.length its.length hi - HT.sIx its.length 0 lo)).toArray := by
  obtain ⟨h1, h2, h3⟩ := slice_bounds lo hi its.toArray.size
  unfold slicePick
  rw [h1, h2, h3]
  simp only [sliceRange_one, pick_run, List.size_toArray] <;> rfl
/-- xs[lo:hi] of a list: a new list -/
def rSlL (K : PySem.W.Frag) : V → Option Int → Option Int → Hp → VK → Prop := fun x lo hi H Q => ∃ a xs, x = .ref a ∧ SqL K H a xs ∧ ∀ p, H p = none → Q (.ref p) (upd H p (.lst (cutV xs lo hi)))
theorem sl_list : SlR X (rSlL X.K) := by
  intro pins s σ H x v vl vu lo hi sl Q I rx hs pl pu h
  obtain ⟨a, xs, rfl, hx, q⟩ := h
  cases rx
  obtain ⟨its, r, ht, hz⟩ := I.list hx
  have hlen := r.length
  refine ⟨"list", _, slot_list_getitem.lookup, ht.isList.typeIs, ?_⟩
  refine wpAny_getItem_list_slice ht.isList hs pl pu .none (by simp) ?_ (by rw [List.size_toArray] <;> omega)
  rw [slicePick_cut, ← hlen]
  refine ⟨.ref s.heap.objs.size, _, I.laid (t' := s.toks) (o := .lst (cutV xs lo hi)) (fun b ob q => Heap.get?_push_of_some _ q) (Nat.le_refl _) ?_, rfl, q _ (I.hok.fresh (Nat.le_refl _))⟩
  exact ⟨Nat.le_trans (cutV_length xs lo hi) hz, _, 0, (r.drop (HT.sIx xs.length 0 lo)).take (HT.sIx xs.length xs.length hi - HT.sIx xs.length 0 lo), Heap.get?_push_size _ rfl⟩

/-! ### in, not in: flat items -/
def flatV : V → Bool
  | .non => true
  | .bl _ => true
  | .int _ => true
  | .str _ => true
  | _ => false
/-- == of flat values -/
def eqV : V → V → Bool
  | .non, .non => true
  | .bl a, .bl b => a == b
  | .bl a, .int b => (if a then 1 else 0) == b
  | .int a, .bl b => a == (if b then 1 else 0)
  | .int a, .int b => a == b
  | .str a, .str b => a == b
  | _, _ => false
theorem eqAt_V {A : Around} {s : Shared} {y x : V} {u v : Value} (ry : RelV y u) (rx : RelV x v) (fy : flatV y = true) (fx : flatV x = true) : SeqAt.EqAt A s u v (eqV y x) := by
  cases y with
  | non =>
    cases ry
    cases x with
    | non => cases rx; exact SeqAt.EqAt.same _
    | bl b => cases rx; exact SeqAt.EqAt.none_bool b
    | int b => obtain ⟨t, rfl⟩ := rx; exact SeqAt.EqAt.none_int b t
    | str b => obtain ⟨t, rfl⟩ := rx; exact SeqAt.EqAt.none_str b t
    | _ => exact absurd (show false = true from fx) Bool.false_ne_true
  | bl a =>
    cases ry
    cases x with
    | non => cases rx; exact SeqAt.EqAt.bool_none a
    | bl b => cases rx; exact SeqAt.EqAt.bool_bool a b
    | int b => obtain ⟨t, rfl⟩ := rx; exact SeqAt.EqAt.bool_int a b t
    | str b => obtain ⟨t, rfl⟩ := rx; exact SeqAt.EqAt.bool_str a b t
    | _ => exact absurd (show false = true from fx) Bool.false_ne_true
  | int a =>
    obtain ⟨t', rfl⟩ := ry
    cases x with
    | non => cases rx; exact SeqAt.EqAt.int_none a t'
    | bl b => cases rx; exact SeqAt.EqAt.int_bool a t' b
    | int b => obtain ⟨t, rfl⟩ := rx; exact SeqAt.EqAt.int_int a t' b t
    | str b => obtain ⟨t, rfl⟩ := rx; exact SeqAt.EqAt.int_str a t' b t
    | _ => exact absurd (show false = true from fx) Bool.false_ne_true
  | str a =>
    obtain ⟨t', rfl⟩ := ry
    cases x with
    | non => cases rx; exact SeqAt.EqAt.str_none a t'
    | bl b => cases rx; exact SeqAt.EqAt.str_bool a t' b
    | int b => obtain ⟨t, rfl⟩ := rx; exact SeqAt.EqAt.str_int a t' b t
    | str b => obtain ⟨t, rfl⟩ := rx; exact SeqAt.EqAt.str_str a t' b t
    | _ => exact absurd (show false = true from fx) Bool.false_ne_true
  | _ => exact absurd (show false = true from fy) Bool.false_ne_true
/-- the items' answers, read off the values (a value's own answer does not lean on its token) -/
def eqU (x : V) (u : Value) : Bool := match u with
  | .none => eqV .non x
  | .bool b => eqV (.bl b) x
  | .int i _ => eqV (.int i) x
  | .str z _ => eqV (.str z) x
  | _ => false
theorem eqU_of {x y : V} {u : Value} (r : RelV y u) (f : flatV y = true) : eqU x u = eqV y x := by
  cases y with
  | non => cases r; rfl
  | bl b => cases r; rfl
  | int i => obtain ⟨t, rfl⟩ := r; rfl
  | str z => obtain ⟨t, rfl⟩ := r; rfl
  | _ => exact absurd (show false = true from f) Bool.false_ne_true
theorem any_eqU {x : V} : ∀ {xs : List V} {us : List Value}, Vals xs us → xs.all flatV = true → us.any (eqU x) = xs.any fun y => eqV y x
  | _, _, .nil, _ => rfl
  | y :: xs, u :: us, .cons r t, f => by
    rw [List.all_cons, Bool.and_eq_true] at f
    rw [List.any_cons, List.any_cons, eqU_of r f.1, any_eqU t f.2]
theorem mem_eqAt {A : Around} {s : Shared} {x : V} {v : Value} (rx : RelV x v) (fx : flatV x = true) : ∀ {xs : List V} {us : List Value}, Vals xs us → xs.all flatV = true → ∀ u ∈ us, SeqAt.EqAt A s u v (eqU x u)
  | _, _, .nil, _ => fun u hu => by cases hu
  | y :: xs, u :: us, .cons r t, f => fun u' hu => by
    rw [List.all_cons, Bool.and_eq_true] at f
    rcases List.mem_cons.mp hu with rfl | hu
    · rw [eqU_of r f.1]; exact eqAt_V r rx f.1 fx
    · exact mem_eqAt rx fx t f.2 u' hu
def inV (x : V) (xs : List V) : Bool := xs.any fun y => eqV y x
/-- x in a list or tuple of flat items -/
def rIn (K : PySem.W.Frag) (neg : Bool) : R2 := fun x y H Q => ∃ p xs, y = .ref p ∧ (SqL K H p xs ∨ SqT K H p xs) ∧ flatV x = true ∧ xs.all flatV = true ∧ Q (.bl (if neg then !inV x xs else inV x xs)) H
theorem op_in_seq : OpR X (compareOp .In) (rIn X.K false) := by
  intro pins s σ H x y v u Q I rx ry h
  obtain ⟨p, xs, rfl, hq, fx, fs, q⟩ := h
  cases ry
  rcases hq with hq | hq
  · obtain ⟨its, r, pl, hz⟩ := I.list hq
    refine SeqAt.in_listAt (eqU x) pl.isList (fun w hw => mem_eqAt rx fx r fs w (by simpa using hw)) ⟨.bl _, H, I, rfl, ?_⟩
    rw [show its.toArray.any (eqU x) = its.any (eqU x) by simp, any_eqU r fs]
    exact q
  · obtain ⟨its, r, pl, hz⟩ := I.tuple hq
    refine SeqAt.in_tupleAt (eqU x) pl (fun w hw => mem_eqAt rx fx r fs w (by simpa using hw)) ⟨.bl _, H, I, rfl, ?_⟩
    rw [show its.toArray.any (eqU x) = its.any (eqU x) by simp, any_eqU r fs]
    exact q
theorem op_notIn_seq : OpR X (compareOp .NotIn) (rIn X.K true) := by
  intro pins s σ H x y v u Q I rx ry h
  obtain ⟨p, xs, rfl, hq, fx, fs, q⟩ := h
  cases ry
  rcases hq with hq | hq
  · obtain ⟨its, r, pl, hz⟩ := I.list hq
    refine SeqAt.notIn_listAt (eqU x) pl.isList (fun w hw => mem_eqAt rx fx r fs w (by simpa using hw)) ⟨.bl _, H, I, rfl, ?_⟩
    rw [show its.toArray.any (eqU x) = its.any (eqU x) by simp, any_eqU r fs]
    exact q
  · obtain ⟨its, r, pl, hz⟩ := I.tuple hq
    refine SeqAt.notIn_tupleAt (eqU x) pl (fun w hw => mem_eqAt rx fx r fs w (by simpa using hw)) ⟨.bl _, H, I, rfl, ?_⟩
    rw [show its.toArray.any (eqU x) = its.any (eqU x) by simp, any_eqU r fs]
    exact q
theorem op_notIn_str : OpR X (compareOp .NotIn) (fun x y H Q => ∃ i j, x = .str i ∧ y = .str j ∧ Q (.bl (!(!(Builtin.Str.occurrences j i 0 j.length 1).isEmpty))) H) := by
  intro pins s σ H x y v u Q I rx ry h
  obtain ⟨i, j, rfl, rfl, q⟩ := h
  obtain ⟨t, rfl⟩ := rx
  obtain ⟨t', rfl⟩ := ry
  exact notIn_str ⟨.bl _, H, I, rfl, q⟩

/-! ### len, list(x), tuple(x) of any list or tuple that is read -/
theorem call_len_seq : CallR X (.builtin "len") (fun xs H Q => ∃ p ys, xs = [.ref p] ∧ (SqL X.K H p ys ∨ SqT X.K H p ys) ∧ Q (.int ys.length) H) := by
  intro pins s σ H xs us Q I r h
  obtain ⟨p, ys, rfl, hq, q⟩ := h
  obtain ⟨u, rfl, rx⟩ := vals1 r
  cases rx
  have hn := line63
  rcases hq with hq | hq
  · obtain ⟨its, r', pl, hz⟩ := I.list hq
    have hlen := r'.length
    exact Calls.call_len_list pl.isList (by simp only [List.size_toArray] <;> omega) ⟨.int ys.length, H, I.tok _, ⟨s.toks + 1, by rw [List.size_toArray, hlen]⟩, q⟩
  · obtain ⟨its, r', pl, hz⟩ := I.tuple hq
    have hlen := r'.length
    exact len_tuple pl (by simp only [List.size_toArray] <;> omega) ⟨.int ys.length, H, I.tok _, ⟨s.toks + 1, by rw [List.size_toArray, hlen]⟩, q⟩
theorem call_len_str : CallR X (.builtin "len") (fun xs H Q => ∃ z, xs = [.str z] ∧ z.length ≤ sizeLine ∧ Q (.int z.length) H) := by
  intro pins s σ H xs us Q I r h
  obtain ⟨z, rfl, hz, q⟩ := h
  obtain ⟨u, rfl, t, rfl⟩ := vals1 r
  have hn := line63
  exact len_str (by omega) ⟨.int z.length, H, I.tok _, ⟨_, rfl⟩, q⟩
theorem CallR.or {f : Value} {r r' : List V → Hp → VK → Prop} (h : CallR X f r) (h' : CallR X f r') : CallR X f (fun xs H Q => r xs H Q ∨ r' xs H Q) := by
  intro pins s σ H xs us Q I rs q
  rcases q with q | q
  · exact h pins s σ H xs us Q I rs q
  · exact h' pins s σ H xs us Q I rs q
theorem call_list_of : CallR X (.type "list") (fun xs H Q => ∃ p ys, xs = [.ref p] ∧ (SqL X.K H p ys ∨ SqT X.K H p ys) ∧ ∀ l, H l = none → Q (.ref l) (upd H l (.lst ys))) := by
  intro pins s σ H xs us Q I r h
  obtain ⟨p, ys, rfl, hq, q⟩ := h
  obtain ⟨u, rfl, rx⟩ := vals1 r
  cases rx
  have fin : ∀ (its : List Value), Vals ys its → ys.length ≤ sizeLine → ∀ (h' : Heap) (c' : Nat), (∀ b o', s.heap.get? b = some o' → h'.get? b = some o') →
      h'.get? s.heap.objs.size = some { cls := .type "list", dict := none, data := .seq its.toArray c', slots := #[] } → EP X pins σ Q (.ref s.heap.objs.size) { s with heap := h' } := fun its r' hz h' c' kp e =>
    ⟨.ref s.heap.objs.size, _, I.laid (t' := s.toks) kp (Nat.le_refl _) (show ObjOk X.prog X.w _ h' _ (.lst ys) from ⟨hz, its, c', r', e⟩), rfl, q _ (I.hok.fresh (Nat.le_refl _))⟩
  rcases hq with hq | hq
  · obtain ⟨its, r', pl, hz⟩ := I.list hq
    have hlen := r'.length
    obtain ⟨o, ho, hc, n, hd⟩ := pl.isList
    exact call_list_seq p (.inl rfl) ho hc hd (fun h' c' kp e => fin its r' hz h' c' kp e) (by simp only [List.size_toArray] <;> omega)
  · obtain ⟨its, r', pl, hz⟩ := I.tuple hq
    have hlen := r'.length
    obtain ⟨o, ho, hc, n, hd⟩ := pl
    exact call_list_seq p (.inr rfl) ho hc hd (fun h' c' kp e => fin its r' hz h' c' kp e) (by simp only [List.size_toArray] <;> omega)
theorem call_tuple_of : CallR X (.type "tuple") (fun xs H Q => ∃ p ys, xs = [.ref p] ∧ ((SqL X.K H p ys ∧ ∀ l, H l = none → Q (.ref l) (upd H l (.tup ys))) ∨ (SqT X.K H p ys ∧ Q (.ref p) H))) := by
  intro pins s σ H xs us Q I r h
  obtain ⟨p, ys, rfl, h⟩ := h
  obtain ⟨u, rfl, rx⟩ := vals1 r
  cases rx
  rcases h with ⟨hq, q⟩ | ⟨hq, q⟩
  · obtain ⟨its, r', pl, hz⟩ := I.list hq
    have hlen := r'.length
    refine call_tuple_list pl.isList (fun h' kp => ?_) (by simp only [List.size_toArray] <;> omega)
    have I1 : Inv X pins σ H { s with heap := h' } := I.kept (t' := s.toks) kp
    have I2 : Inv X pins σ (upd H h'.objs.size (.tup ys)) { s with heap := h'.push { cls := .type "tuple", data := .seq its.toArray } } :=
      I1.laid (t' := s.toks) (fun b o e => Heap.get?_push_of_some _ e) (Nat.le_refl _) (show ObjOk X.prog X.w _ _ _ (.tup ys) from ⟨hz, its, r', IsTup.new _ _⟩)
    exact ⟨.ref h'.objs.size, _, I2, rfl, q _ (I1.hok.fresh (Nat.le_refl _))⟩
  · obtain ⟨its, r', pl, hz⟩ := I.tuple hq
    exact call_tuple_same pl ⟨.ref p, H, I, rfl, q⟩

/-! ### the call of a builtin's method: o.m(..) -/
/-- the value is of that builtin type -/
def tyV (K : PySem.W.Frag) (T : String) (x : V) (H : Hp) : Prop := match x with
  | .str _ => T = "str"
  | .int _ => T = "int"
  | .ref p => (T = "list" ∧ ∃ xs, SqL K H p xs) ∨ (T = "tuple" ∧ ∃ o, K.lookup p = some o ∧ o.cls = .type "tuple" ∧ o.dict = none) ∨
      (T = "dict" ∧ ((∃ kvs, H p = some (.dK kvs)) ∨ ∃ kvs, H p = some (.dT kvs))) ∨ (T = "set" ∧ ∃ S n, H p = some (.set S n))
  | _ => False
theorem tyV_is {pins : List (Addr × Obj)} {σ : St} {H : Hp} {s : Shared} {T : String} {x : V} {v : Value} (I : Inv X pins σ H s) (r : RelV x v) (ty : tyV X.K T x H) :
    s.TypeIs v T ∧ ∀ a, v = .ref a → ∃ ob, s.heap.get? a = some ob ∧ ob.dict = none := by
  cases x with
  | str z =>
    obtain ⟨t, rfl⟩ := r
    cases (show T = "str" from ty)
    exact ⟨typeIs_str s z t, fun _ e => nomatch e⟩
  | int i =>
    obtain ⟨t, rfl⟩ := r
    cases (show T = "int" from ty)
    exact ⟨typeIs_int s i t, fun _ e => nomatch e⟩
  | ref p =>
    cases r
    rcases ty with ⟨rfl, xs, hq⟩ | ⟨rfl, o, hk, hc, hd⟩ | ⟨rfl, hk⟩ | ⟨rfl, S, n, hk⟩
    · obtain ⟨its, _, pl, _⟩ := I.list hq
      refine ⟨pl.isList.typeIs, fun a e => ?_⟩
      cases e
      obtain ⟨o, n, e, c, hd, _⟩ := pl
      exact ⟨o, e, hd⟩
    · refine ⟨⟨o, I.kIn p o hk, hc⟩, fun a e => ?_⟩
      cases e
      exact ⟨o, I.kIn _ o hk, hd⟩
    · have z : ∃ o, s.heap.get? p = some o ∧ o.ExactDict := by
        rcases hk with ⟨kvs, hk⟩ | ⟨kvs, hk⟩
        · obtain ⟨_, _, _, _, o, _, _, e, ex, _⟩ := I.hok p _ hk
          exact ⟨o, e, ex⟩
        · obtain ⟨_, _, _, _, o, _, _, e, ex, _⟩ := I.hok p _ hk
          exact ⟨o, e, ex⟩
      obtain ⟨o, e, ex⟩ := z
      refine ⟨⟨o, e, ex.1⟩, fun a e2 => ?_⟩
      cases e2
      exact ⟨o, e, ex.2.1⟩
    · obtain ⟨o, _, _, _, e, ex, _⟩ := I.hok p _ hk
      refine ⟨⟨o, e, ex.1⟩, fun a e2 => ?_⟩
      cases e2
      exact ⟨o, e, ex.2.1⟩
  | _ => exact False.elim ty
def tBM0 (K : PySem.W.Frag) (T : String) (r : V → List V → Hp → VK → Prop) (to : TE) : TE := fun σ H Q => to σ H fun x H1 => tyV K T x H1 ∧ r x [] H1 Q
def tBM (K : PySem.W.Frag) (T : String) (r : V → List V → Hp → VK → Prop) (to : TE) (t : TA) : TE := fun σ H Q => to σ H fun x H1 => tyV K T x H1 ∧ t σ H1 fun xs H2 => r x xs H2 Q
variable {o e : Expr} {es : List Expr} {to : TE} {t : TA} {name : Str} {apos cpos : Pos} {T id : String} {r : V → List V → Hp → VK → Prop}
theorem pe_bm0 (pa : PlainAttrs T) (slot : Slot T name id) (hty : typeOf (.builtin id) = pure (.type "method_descriptor")) (hm : MtR X id r) (ho : PE X o to)
    (hbase : attributeBase o name X.env (eval o X.env) = eval o X.env := by rfl) (hline : (apos.endLine == cpos.line) = true := by rfl) : PE X (.Call (.Attribute o name apos) [] [] cpos) (tBM0 X.K T r to) := by
  intro pins s σ H Q I h
  refine wpAny_Call_method0_late hbase hline (thn (ho pins s σ H _ I h) fun v s1 ⟨x, H1, I1, r1, ty, q1⟩ => ?_)
  obtain ⟨h1, h2⟩ := tyV_is I1 r1 ty
  exact ⟨T, id, pa, slot, hty, h1, h2, Calls.callWith_builtin rfl (PySem.evalArgs_none (hm pins s1 σ H1 x [] v [] Q I1 r1 .nil q1))⟩
theorem pe_bm (pa : PlainAttrs T) (slot : Slot T name id) (hty : typeOf (.builtin id) = pure (.type "method_descriptor")) (hm : MtR X id r) (ho : PE X o to) (ha : PA X (e :: es) t)
    (hbase : attributeBase o name X.env (eval o X.env) = eval o X.env := by rfl)
    (hfew : ((backTo cpos (starEach (e :: es) X.env)).all (fun x => !x.1) && (backToKw cpos (keywordEach [] X.env)).all (fun x => x.1.isSome)
      && decide ((e :: es).length + ([] : List Keyword).length + (if ([] : List Keyword).isEmpty then 0 else 1) < 30)) = true := by rfl)
    (hline : (apos.endLine == cpos.line) = true := by rfl) (hs : starEach (e :: es) X.env = (false, eval e X.env) :: starEach es X.env := by rfl) (hplain : (backTo cpos (starEach es X.env)).any (·.1) = false := by rfl) :
    PE X (.Call (.Attribute o name apos) (e :: es) [] cpos) (tBM X.K T r to t) := by
  intro pins s σ H Q I h
  refine wpAny_Call_method_late hbase hfew hline rfl (thn (ho pins s σ H _ I h) fun v s1 ⟨x, H1, I1, r1, ty, q1⟩ => ?_)
  obtain ⟨h1, h2⟩ := tyV_is I1 r1 ty
  refine ⟨T, id, pa, slot, hty, h1, h2, ?_⟩
  have hA := ha cpos pins s1 σ H1 _ I1 q1
  rw [hs] at hA ⊢
  refine Calls.callWith_builtin (by show (false || (backTo cpos (starEach es X.env)).any (·.1)) = false; rw [hplain] <;> rfl) (Calls.evalArgs_plain ?_)
  exact thn hA fun us s2 ⟨vs, H2, I2, r2, q2⟩ => hm pins s2 σ H2 x vs v us Q I2 r1 r2 q2
/- xs.append(e), list.index on a module's tuple .. are MtR facts of 06m -/
end
end L2

namespace L2
open PySem PySem.Spec PyProof.Rows

def MtM (X : Cx) (id : String) (r : V → List V → Hp → VK → Prop) : Prop :=
  ∀ (pins : List (Addr × Obj)) (s : Shared) (σ : St) (H : Hp) (x : V) (xs : List V) (v : Value) (us : List Value) (Q : VK), Inv X pins σ H s → RelV x v → Vals xs us → r x xs H Q →
    wpAny (model X.prog X.w) X.A (call (.builtin id) (v :: us)) (EP X pins σ Q) X.xe s

/-! ### lists of values -/
theorem Vals.one : ∀ {x : V} {us : List Value}, Vals [x] us → ∃ u, us = [u] ∧ RelV x u
  | _, _, .cons r .nil => ⟨_, rfl, r⟩
theorem Vals.two : ∀ {x y : V} {us : List Value}, Vals [x, y] us → ∃ u v, us = [u, v] ∧ RelV x u ∧ RelV y v
  | _, _, _, .cons r (.cons q .nil) => ⟨_, _, rfl, r, q⟩
theorem Vals.zero : ∀ {us : List Value}, Vals [] us → us = []
  | _, .nil => rfl
theorem Vals.dropLast {xs : List V} {us : List Value} (h : Vals xs us) : Vals xs.dropLast us.dropLast := by
  induction h with
  | nil => exact .nil
  | cons r t ih =>
    cases t with
    | nil => exact .nil
    | cons q t' => exact .cons r ih
theorem Vals.eraseIdx : ∀ {xs : List V} {us : List Value} (i : Nat), Vals xs us → Vals (xs.eraseIdx i) (us.eraseIdx i)
  | _, _, _, .nil => .nil
  | _, _, 0, .cons _ t => t
  | _, _, i + 1, .cons r t => .cons r (Vals.eraseIdx i t)
theorem Vals.reverse {xs : List V} {us : List Value} (h : Vals xs us) : Vals xs.reverse us.reverse := by
  induction h with
  | nil => exact .nil
  | cons r t ih => rw [List.reverse_cons, List.reverse_cons]; exact Vals.append ih (.cons r .nil)
theorem Vals.rep {xs : List V} {us : List Value} (h : Vals xs us) : ∀ k : Nat, Vals (List.replicate k xs).flatten (List.replicate k us).flatten
  | 0 => .nil
  | k + 1 => by
    rw [List.replicate_succ, List.replicate_succ, List.flatten_cons, List.flatten_cons]
    exact Vals.append h (Vals.rep h k)
theorem erase_last {α : Type} (l : List α) : l.eraseIdx (l.length - 1) = l.dropLast := by
  induction l with
  | nil => rfl
  | cons a r ih =>
    cases r with
    | nil => rfl
    | cons b r =>
      have e : (a :: b :: r).length - 1 = ((b :: r).length - 1) + 1 := by
        have h1 : (a :: b :: r).length = r.length + 2 := rfl
        have h2 : (b :: r).length = r.length + 1 := rfl
        omega
      rw [e, List.eraseIdx_cons_succ, ih]
      all_goals rfl
theorem len_erase {α : Type} : ∀ (l : List α) (i : Nat), (l.eraseIdx i).length ≤ l.length
  | [], _ => Nat.le_refl _
  | _ :: _, 0 => Nat.le_succ _
  | _ :: r, i + 1 => Nat.succ_le_succ (len_erase r i)
theorem foldl_rep (its : List Value) : ∀ (k : Nat) (acc : List Value),
    List.foldl (fun x1 x2 => x1 ++ x2) acc.toArray (List.replicate k its.toArray) = (acc ++ (List.replicate k its).flatten).toArray
  | 0, acc => by simp
  | k + 1, acc => by
    have e : acc.toArray ++ its.toArray = (acc ++ its).toArray := by simp
    have e2 : (acc ++ its) ++ (List.replicate k its).flatten = acc ++ (List.replicate (k + 1) its).flatten := by
      rw [List.replicate_succ, List.flatten_cons, List.append_assoc]
    rw [← e2, ← foldl_rep its k (acc ++ its), ← e, List.replicate_succ, List.foldl_cons]

section
variable {X : Cx} {pins : List (Addr × Obj)} {σ : St} {H : Hp} {s : Shared} {l b : Addr} {xs ys zs : List V}

/-! ### the two steps: a tracked list is rewritten, a new list is laid -/
theorem Inv.lset {its its' : List Value} {n : Nat} {f : Array Value → Array Value} {t' : Nat} (I : Inv X pins σ H s) (hH : H l = some (.lst xs))
    (e : s.heap.get? l = some { cls := .type "list", data := .seq its.toArray n }) (hf : f its.toArray = its'.toArray) (hv : Vals ys its') (hz : ys.length ≤ sizeLine) :
    Inv X pins σ (upd H l (.lst ys)) { s with heap := s.heap.update l (Obj.mapSeq f), toks := t' } := by
  have q := PySem.IsL.update e f
  rw [hf] at q
  refine I.write (x := l) (e := l) (by rw [hH]; exact trivial) (.inl rfl) (fun b' u hb hu => (Heap.get?_update_other s.heap (Obj.mapSeq f) (Ne.symm hb)).trans hu) ⟨_, q⟩ ?_
  exact ⟨hz, its', _, hv, q⟩
theorem Inv.lnew {its : List Value} {t' : Nat} (I : Inv X pins σ H s) (hv : Vals ys its) (hz : ys.length ≤ sizeLine) :
    Inv X pins σ (upd H s.heap.objs.size (.lst ys)) { s with heap := s.heap.push { cls := .type "list", data := .seq its.toArray }, toks := t' } :=
  I.laid (fun _ _ q => Heap.get?_push_of_some _ q) (Nat.le_refl _) ⟨hz, its, 0, hv, Heap.get?_push_size _ rfl⟩
theorem Inv.fresh (I : Inv X pins σ H s) : H s.heap.objs.size = none := I.hok.fresh (Nat.le_refl _)
theorem Inv.lstM (I : Inv X pins σ H s) (hH : H l = some (.lst xs)) : xs.length ≤ sizeLine ∧ ∃ (its : List Value) (n : Nat), Vals xs its ∧ xs.length = its.length ∧ s.heap.get? l = some { cls := .type "list", data := .seq its.toArray n } := by
  obtain ⟨z, its, n, r, e⟩ := I.hok l _ hH
  exact ⟨z, its, n, r, r.length, e⟩

theorem notLongL {n : Nat} (h : n ≤ sizeLine) : Builtin.List.listTooLong n = false := by
  unfold Builtin.List.listTooLong
  exact decide_eq_false (by omega)
end

section
variable {X : Cx}

/-! ### methods -/
def rAppend : V → List V → Hp → VK → Prop := fun x vs H Q => ∃ l xs y, x = .ref l ∧ vs = [y] ∧ H l = some (.lst xs) ∧ xs.length < sizeLine ∧ Q .non (upd H l (.lst (xs ++ [y])))
theorem mt_append : MtM X "list.append" rAppend := by
  intro pins s σ H x vs v us Q I rx rv h
  obtain ⟨l, xs, y, rfl, rfl, hH, hz, q⟩ := h
  cases rx
  obtain ⟨u, rfl, ru⟩ := rv.one
  obtain ⟨z, its, n, r, hl, e⟩ := I.lstM hH
  refine call_meets F.slot_list_append ⟨_, e, rfl⟩ F.entry_list_append (F.args_list_append_2 _ _) (PySem.list_append l its.toArray n u (by rw [List.size_toArray]; omega)) ⟨e, ?_⟩
  refine ⟨.non, _, I.lset (its' := its ++ [u]) hH e (by simp) (r.append (.cons ru .nil)) ?_, rfl, q⟩
  rw [List.length_append, List.length_singleton]
  omega

def rExtend : V → List V → Hp → VK → Prop := fun x vs H Q => ∃ l b xs zs, x = .ref l ∧ vs = [.ref b] ∧ H l = some (.lst xs) ∧ H b = some (.lst zs) ∧ xs.length + zs.length ≤ sizeLine ∧ Q .non (upd H l (.lst (xs ++ zs)))
theorem mt_extend : MtM X "list.extend" rExtend := by
  intro pins s σ H x vs v us Q I rx rv h
  obtain ⟨l, b, xs, zs, rfl, rfl, hH, hB, hz, q⟩ := h
  cases rx
  obtain ⟨u, rfl, ru⟩ := rv.one
  cases ru
  obtain ⟨z, its, n, r, hl, e⟩ := I.lstM hH
  obtain ⟨z2, its2, n2, r2, hl2, e2⟩ := I.lstM hB
  have hsz : its.toArray.size + its2.toArray.size ≤ sizeLine := by rw [List.size_toArray, List.size_toArray]; omega
  have hlong : ¬ (!its.toArray.isEmpty && Builtin.List.listTooLong (its.toArray.size + its2.toArray.size)) = true := by
    rw [notLongL hsz, Bool.and_false]
    exact Bool.false_ne_true
  refine call_meets F.slot_list_extend ⟨_, e, rfl⟩ F.entry_list_extend (F.args_list_extend_2 _ _)
    (AutoSeq1.list_extend_list_list_0 l its.toArray n b its2.toArray n2 hlong (by rw [List.size_toArray]; omega) (by omega)) ⟨e, e2, ?_⟩
  refine ⟨.non, _, I.lset (its' := its ++ its2) hH e (by simp) (r.append r2) ?_, rfl, q⟩
  rw [List.length_append]
  omega

def rPop : V → List V → Hp → VK → Prop := fun x vs H Q => ∃ l xs y, x = .ref l ∧ vs = [] ∧ H l = some (.lst xs) ∧ xs[xs.length - 1]? = some y ∧ Q y (upd H l (.lst xs.dropLast))
theorem mt_pop : MtM X "list.pop" rPop := by
  intro pins s σ H x vs v us Q I rx rv h
  obtain ⟨l, xs, y, rfl, rfl, hH, hy, q⟩ := h
  cases rx
  have hus := rv.zero
  subst hus
  obtain ⟨z, its, n, r, hl, e⟩ := I.lstM hH
  obtain ⟨u, hu, ru⟩ := r.get hy
  have hy' : its.toArray[its.toArray.size - 1]? = some u := by
    show its.toArray[its.length - 1]? = some u
    rw [← Array.getElem?_toList, ← hl]
    exact hu
  refine call_meets F.slot_list_pop ⟨_, e, rfl⟩ F.entry_list_pop (F.args_list_pop_1 _) (MeetsSeq.list_pop_last l its.toArray n u hy' (by rw [List.size_toArray]; omega)) ⟨e, ?_⟩
  refine ⟨y, _, I.lset (its' := its.dropLast) hH e ?_ r.dropLast ?_, ru, q⟩
  · show its.toArray.eraseIdxIfInBounds (its.toArray.size - 1) = its.dropLast.toArray
    rw [List.size_toArray, List.eraseIdxIfInBounds_toArray, erase_last]
  · rw [List.length_dropLast]
    omega

def rPopAt : V → List V → Hp → VK → Prop := fun x vs H Q => ∃ l xs i k y, x = .ref l ∧ vs = [.int i] ∧ H l = some (.lst xs) ∧ -(2 ^ 63) ≤ i ∧ i < 2 ^ 63 ∧ seqIndex? i xs.length = some k ∧ xs[k]? = some y ∧ Q y (upd H l (.lst (xs.eraseIdx k)))
theorem mt_popAt : MtM X "list.pop" rPopAt := by
  intro pins s σ H x vs v us Q I rx rv h
  obtain ⟨l, xs, i, k, y, rfl, rfl, hH, h1, h2, hk, hy, q⟩ := h
  cases rx
  obtain ⟨u, rfl, ru⟩ := rv.one
  obtain ⟨t, rfl⟩ := ru
  obtain ⟨z, its, n, r, hl, e⟩ := I.lstM hH
  obtain ⟨w, hw, rw'⟩ := r.get hy
  refine call_meets F.slot_list_pop ⟨_, e, rfl⟩ F.entry_list_pop (F.args_list_pop_2 _ _)
    (MeetsSeq.list_pop_at l its.toArray n i t k w (fitsIndex_both h1 h2) (by rw [List.size_toArray, ← hl]; exact hk) (by rw [← Array.getElem?_toList]; exact hw) (by rw [List.size_toArray]; omega)) ⟨e, ?_⟩
  refine ⟨y, _, I.lset (its' := its.eraseIdx k) hH e ?_ (r.eraseIdx k) ?_, rw', q⟩
  · show its.toArray.eraseIdxIfInBounds k = (its.eraseIdx k).toArray
    rw [List.eraseIdxIfInBounds_toArray]
  · have := len_erase xs k
    omega

def rReverse : V → List V → Hp → VK → Prop := fun x vs H Q => ∃ l xs, x = .ref l ∧ vs = [] ∧ H l = some (.lst xs) ∧ Q .non (upd H l (.lst xs.reverse))
theorem mt_reverse : MtM X "list.reverse" rReverse := by
  intro pins s σ H x vs v us Q I rx rv h
  obtain ⟨l, xs, rfl, rfl, hH, q⟩ := h
  cases rx
  have hus := rv.zero
  subst hus
  obtain ⟨z, its, n, r, hl, e⟩ := I.lstM hH
  refine call_meets F.slot_list_reverse ⟨_, e, rfl⟩ F.entry_list_reverse (F.args_list_reverse_1 _) (AutoSeq1.list_reverse_list_0 l its.toArray n (by rw [List.size_toArray]; omega)) ⟨e, ?_⟩
  refine ⟨.non, _, I.lset (its' := its.reverse) hH e (by simp) r.reverse ?_, rfl, q⟩
  rw [List.length_reverse]
  omega

def rClear : V → List V → Hp → VK → Prop := fun x vs H Q => ∃ l xs, x = .ref l ∧ vs = [] ∧ H l = some (.lst xs) ∧ Q .non (upd H l (.lst []))
theorem mt_clear : MtM X "list.clear" rClear := by
  intro pins s σ H x vs v us Q I rx rv h
  obtain ⟨l, xs, rfl, rfl, hH, q⟩ := h
  cases rx
  have hus := rv.zero
  subst hus
  obtain ⟨z, its, n, r, hl, e⟩ := I.lstM hH
  refine call_meets F.slot_list_clear ⟨_, e, rfl⟩ F.entry_list_clear (F.args_list_clear_1 _) (AutoSeq1.list_clear_list_0 l its.toArray n (by rw [List.size_toArray]; omega)) ⟨e, ?_⟩
  exact ⟨.non, _, I.lset (its' := []) (ys := []) hH e rfl .nil (Nat.zero_le _), rfl, q⟩

/-! ### list + list, list += list, list * int -/
def rCat : R2 := fun x y H Q => ∃ l b xs zs, x = .ref l ∧ y = .ref b ∧ H l = some (.lst xs) ∧ H b = some (.lst zs) ∧ xs.length + zs.length ≤ sizeLine ∧ ∀ p, H p = none → Q (.ref p) (upd H p (.lst (xs ++ zs)))
theorem op_cat : OpR X (binaryOp .Add) rCat := by
  intro pins s σ H x y v u Q I rx ry h
  obtain ⟨l, b, xs, zs, rfl, rfl, hH, hB, hz, q⟩ := h
  cases rx
  cases ry
  obtain ⟨z, its, n, r, hl, e⟩ := I.lstM hH
  obtain ⟨z2, its2, n2, r2, hl2, e2⟩ := I.lstM hB
  refine PySem.P.add_list e e2 ?_ (by rw [List.size_toArray, List.size_toArray]; omega)
  have ea : its.toArray ++ its2.toArray = (its ++ its2).toArray := by simp
  rw [ea]
  exact ⟨.ref _, _, I.lnew (t' := s.toks) (r.append r2) (by rw [List.length_append]; omega), rfl, q _ I.fresh⟩
/-- a list times an int (a negative one is nothing) -/
def rRep : R2 := fun x y H Q => ∃ l k xs, x = .ref l ∧ y = .int k ∧ H l = some (.lst xs) ∧ -(2 ^ 63) ≤ k ∧ k < 2 ^ 63 ∧ xs.length * k.toNat ≤ sizeLine ∧
  ∀ p, H p = none → Q (.ref p) (upd H p (.lst (List.replicate k.toNat xs).flatten))
theorem len_rep {α : Type} (xs : List α) (k : Nat) : (List.replicate k xs).flatten.length = k * xs.length := by
  induction k with
  | zero => simp
  | succ k ih => rw [List.replicate_succ, List.flatten_cons, List.length_append, ih, Nat.succ_mul, Nat.add_comm]
theorem op_rep : OpR X (binaryOp .Mult) rRep := by
  intro pins s σ H x y v u Q I rx ry h
  obtain ⟨l, k, xs, rfl, rfl, hH, h1, h2, hz, q⟩ := h
  cases rx
  obtain ⟨t, rfl⟩ := ry
  obtain ⟨z, its, n, r, hl, e⟩ := I.lstM hH
  have hlen : its.toArray.size * k.toNat ≤ sizeLine := by rw [List.size_toArray, ← hl]; exact hz
  have hcap : ¬ its.toArray.size * k.toNat > (2 ^ 63 - 1) / 8 := by
    have : (sizeLine : Nat) ≤ (2 ^ 63 - 1) / 8 := by decide
    omega
  have hfit : ¬ (!Builtin.List.listFitsIndex k) = true := by
    rw [fitsIndex_both h1 h2]
    exact Bool.false_ne_true
  have hlong : ¬ Builtin.List.listTooLong (its.toArray.size * k.toNat) = true := by
    rw [notLongL hlen]
    exact Bool.false_ne_true
  have hnew : List.foldl (fun x1 x2 => x1 ++ x2) #[] (List.replicate (if its.toArray.isEmpty = true then 0 else k.toNat) its.toArray) = (List.replicate k.toNat its).flatten.toArray := by
    have f0 : ∀ m : Nat, List.foldl (fun x1 x2 => x1 ++ x2) #[] (List.replicate m its.toArray) = (List.replicate m its).flatten.toArray := fun m => by
      have := foldl_rep its m []
      rw [List.nil_append] at this
      exact this
    rw [f0]
    cases its with
    | nil => simp
    | cons a r' => rw [if_neg (by simp)]
  refine wpAny_binaryOp_repeat_ref (T := "list") (U := "int") (by decide) ⟨_, e, rfl⟩ (fun s' => typeIs_int s' k t) noFill_list_mul F.fills_int_mul F.slot_int_rmul repeat_list F.slot_int_index.lookup
    (call_meets F.slot_int_rmul (typeIs_int s k t) F.entry_int_rmul (F.args_int_rmul_2 _ _) (int___rmul___int_list k t l its.toArray n)
      ⟨e, rfl, ⟨_, e, rfl⟩, call_meets F.slot_list_mul ⟨_, e, rfl⟩ F.entry_list_mul (F.args_list_mul_2 _ _) (AutoListH.list___mul___list_int_3 l its.toArray n k t hfit hcap hlong) ⟨e, ?_⟩⟩)
  rw [hnew]
  exact ⟨.ref _, _, I.lnew (t' := s.toks) (r.rep k.toNat) (by rw [len_rep, Nat.mul_comm]; exact hz), rfl, q _ I.fresh⟩

/-! ### del xs[i] -/
theorem del_list {pins : List (Addr × Obj)} {s : Shared} {σ : St} {H : Hp} {l : Addr} {xs : List V} {i : Int} {t : Tok} {k : Nat} {Q : Unit → Shared → Prop} (I : Inv X pins σ H s) (hH : H l = some (.lst xs))
    (h1 : -(2 ^ 63) ≤ i) (h2 : i < 2 ^ 63) (hk : seqIndex? i xs.length = some k) (h : ∀ s', Inv X pins σ (upd H l (.lst (xs.eraseIdx k))) s' → Q () s') :
    wpAny (model X.prog X.w) X.A (delItem (.ref l) (.int i t)) Q X.xe s := by
  obtain ⟨z, its, n, r, hl, e⟩ := I.lstM hH
  refine PySem.P.delItem_list (k := k) e (fitsIndex_both h1 h2) (by rw [List.size_toArray, ← hl]; exact hk) (h _ ?_) (by rw [List.size_toArray]; omega)
  refine I.lset (its' := its.eraseIdx k) (t' := s.toks) hH e ?_ (r.eraseIdx k) ?_
  · show its.toArray.eraseIdxIfInBounds k = (its.eraseIdx k).toArray
    rw [List.eraseIdxIfInBounds_toArray]
  · have := len_erase xs k
    omega
end

/-! ### xs[a:b] = ys -/
section
variable {prog : Program} {w : World} {A : Around} {E : Value → Shared → Prop} {s : Shared}
theorem splice_eq (its its2 : List Value) (a c : Nat) : its.toArray.extract 0 a ++ its2.toArray ++ its.toArray.extract c its.toArray.size = (its.take a ++ its2 ++ its.drop c).toArray := by
  apply Array.toList_inj.mp
  first
    | (simp
       exact List.take_of_length_le (by simp))
    | simp [List.take_of_length_le]
    | simp
theorem bounds_run {a c n : Nat} (hac : a ≤ c) (hc : c ≤ n) : sliceBounds (some (a : Int)) (some (c : Int)) none n = ((a : Int), (c : Int), 1) := by
  simp only [sliceBounds, Option.getD_none]
  have h1 : ¬ ((a : Int) < 0) := by omega
  have h2 : ¬ ((c : Int) < 0) := by omega
  simp only [h1, h2, if_false, show (1 : Int) > 0 by decide, if_true]
  congr 1
  · omega
  · congr 1; omega
set_option maxRecDepth 100000 in
/-- list.__setitem__ with a slice of step one and another list -/
theorem setItem_slice {l b sl : Addr} {items new : Array Value} {n n2 : Nat} {vl vu : Value} {a c : Nat} {Q : Unit → Shared → Prop}
    (e : s.heap.get? l = some { cls := .type "list", data := .seq items n }) (e2 : s.heap.get? b = some { cls := .type "list", data := .seq new n2 }) (hne : l ≠ b)
    (hs : s.heap.IsSliceOf sl vl vu .none) (pl : IsPart vl (some (a : Int))) (pu : IsPart vu (some (c : Int))) (hac : a ≤ c) (hc : c ≤ items.size)
    (hsz : items.size + new.size ≤ sizeLine) (h : Q () { s with heap := s.heap.update l (Obj.mapSeq fun xs => xs.extract 0 a ++ new ++ xs.extract c xs.size) }) :
    wpAny (model prog w) A (setItem (.ref l) (.ref sl) (.ref b)) Q E s := by
  have hl : s.heap.IsList l items := PySem.IsL.isList e
  have hb : s.heap.IsList b new := PySem.IsL.isList e2
  obtain ⟨os, hos, hcs, hds⟩ := id hs
  have hTs : s.TypeIs (.ref sl) "slice" := ⟨os, hos, hcs⟩
  have hstep : ¬ ((rawPart none == rawInt 0) = true) := Bool.false_ne_true
  have hsame : Builtin.List.listSameRef (.ref l) (.ref b) = false := by
    unfold Builtin.List.listSameRef
    exact beq_eq_false_iff_ne.mpr hne
  have hmax : (max (a : Int) (c : Int)).toNat = c := by omega
  have hz' : ((fun xs : Array Value => xs.extract 0 a ++ new ++ xs.extract c xs.size) items).size ≤ sizeLine + 1 := by
    simp only [Array.size_append, Array.size_extract]
    omega
  unfold setItem
  try with_reducible refine wpAny_holding ?_
  first | refine wpAny_bind (wpAny_pure ?_) | skip
  refine wpAny_bind (wpAny_sequenceKey hl.typeIs (by decide) ?_)
  refine wpAny_bind (wpAny_callSpecial?_slot (name := Str.ofString "__setitem__") hl.typeIs slot_list_setitem
    (wpAny_call_entry slot_list_setitem hl.typeIs entry_list_setitem ?_ (args_list_setitem _ _ _)))
  show wpAny _ _ (Builtin.List.listSubscript? (.ref sl) >>= _) _ _ s
  refine wpAny_bind ?_
  unfold Builtin.List.listSubscript?
  refine wpAny_bind (wpAny_specialOf hTs slice_no_index ?_)
  simp only [Option.isNone_none, if_true]
  refine wpAny_pure ?_
  show wpAny _ _ (typeOf (.ref sl) >>= _) _ _ s
  refine wpAny_bind (wpAny_typeOf hTs ?_)
  first
    | rw [if_neg (by decide)]
    | refine PySem.W.KFB.if_not (by decide) ?_
  rw [listSliceParts_eq]
  refine wpAny_bind (wpAny_bind (wpAny_field hos hds (x := .none) rfl (wpAny_bind (wpAny_listPart .none ?_))))
  rw [if_neg hstep]
  refine wpAny_bind (wpAny_field hos hds (x := vl) rfl (wpAny_bind (wpAny_listPart pl ?_)))
  refine wpAny_bind (wpAny_field hos hds (x := vu) rfl (wpAny_bind (wpAny_listPart pu (wpAny_pure ?_))))
  first
    | simp only [hsame, Bool.false_eq_true, if_false]
    | refine PySem.W.KFB.if_not hsame ?_
    | (dsimp only
       rw [if_neg (by rw [hsame]; exact Bool.false_ne_true)])
  refine wpAny_bind (m := Builtin.List.listAllItems (.ref b) "must assign iterable to extended slice") ?_
  unfold Builtin.List.listAllItems
  refine wpAny_bind (wpAny_typeOf hb.typeIs ?_)
  first
    | refine PySem.W.KFB.if_so (by decide) ?_
    | rw [if_pos (by decide)]
    | simp only [beq_self_eq_true, Bool.true_or, if_true]
  unfold Builtin.List.listItems
  refine wpAny_bind (wpAny_seqItems e2 rfl (wpAny_pure ?_))
  refine wpAny_bind (wpAny_bind (wpAny_seqItems e rfl (wpAny_pure ?_)))
  refine wpAny_bind (wpAny_of_eq ((sliceIndices_raw (some (a : Int)) (some (c : Int)) none items.size (by simp)).trans (congrArg (pure : Int × Int × Int → Sem (Int × Int × Int)) (bounds_run hac hc))) ?_)
  show wpAny _ _ (if ((1 : Int) == 1) = true then _ else _) _ _ s
  rw [if_pos (by decide)]
  refine wpAny_bind (wpAny_rule ?_)
  first
    | simp only [notLongL hsz, Bool.false_eq_true, if_false]
    | refine PySem.W.KFB.if_not (notLongL hsz) ?_
  first | refine wpAny_bind (wpAny_pure ?_) | skip
  show wpAny _ _ (updateSeq l (fun xs => xs.extract 0 ((a : Int)).toNat ++ new ++ xs.extract (max (a : Int) (c : Int)).toNat xs.size) >>= _) _ _ s
  rw [hmax, Int.toNat_natCast]
  refine wpAny_bind (wpAny_updateSeq (hz := Nat.le_trans (Nat.le_add_right _ _) hsz) (_hz' := hz') e rfl ?_)
  refine wpAny_bind (wpAny_letGo ?_)
  first
    | exact wpAny_bind (wpAny_pure (wpAny_pure ⟨.none, rfl, wpAny_pure h⟩))
    | exact wpAny_pure ⟨.none, rfl, wpAny_pure h⟩
end

section
variable {X : Cx}
/-- xs[a:c] = ys of another list, at the value level: sl is the slice object that was just made -/
theorem set_slice {pins : List (Addr × Obj)} {s : Shared} {σ : St} {H : Hp} {l b sl : Addr} {xs ys : List V} {a c : Int} {vl vu : Value} {Q : Unit → Shared → Prop} (I : Inv X pins σ H s)
    (hH : H l = some (.lst xs)) (hB : H b = some (.lst ys)) (hne : l ≠ b) (hs : s.heap.IsSliceOf sl vl vu .none) (ra : RelV (.int a) vl) (rc : RelV (.int c) vu) (h0 : 0 ≤ a) (hac : a ≤ c) (hc : c ≤ xs.length)
    (hz : xs.length + ys.length ≤ sizeLine) (h : ∀ s', Inv X pins σ (upd H l (.lst (xs.take a.toNat ++ ys ++ xs.drop c.toNat))) s' → Q () s') :
    wpAny (model X.prog X.w) X.A (setItem (.ref l) (.ref sl) (.ref b)) Q X.xe s := by
  obtain ⟨ta, rfl⟩ := ra
  obtain ⟨tc, rfl⟩ := rc
  obtain ⟨z, its, n, r, hl, e⟩ := I.lstM hH
  obtain ⟨z2, its2, n2, r2, hl2, e2⟩ := I.lstM hB
  obtain ⟨a', rfl⟩ := Int.eq_ofNat_of_zero_le h0
  obtain ⟨c', rfl⟩ := Int.eq_ofNat_of_zero_le (Int.le_trans h0 hac)
  simp only [Int.toNat_natCast] at h
  refine setItem_slice (a := a') (c := c') e e2 hne hs (.int _ _) (.int _ _) (by omega) (by rw [List.size_toArray]; omega) (by rw [List.size_toArray, List.size_toArray]; omega) (h _ ?_)
  refine I.lset (its' := its.take a' ++ its2 ++ its.drop c') (t' := s.toks) hH e ?_ (Vals.append (Vals.append (r.take _) r2) (r.drop _)) ?_
  · exact splice_eq its its2 a' c'
  · rw [List.length_append, List.length_append, List.length_take, List.length_drop]
    omega
end
end L2

namespace Att
open PySem PySem.W PySem.Calls PyProof.Rows

/-! ### the script -/
theorem ints_of_wellAll {P : Params} {h : Heap} : ∀ (ns : List Int) (vs : List Value), WellAll P h vs (ns.map WData.int) → IntsAre vs ns := by
  intro ns
  induction ns with
  | nil =>
    intro vs w
    rw [List.map_nil] at w
    cases w
    exact .nil
  | cons n ns ih =>
    intro vs w
    rw [List.map_cons] at w
    cases w with
    | cons a b =>
      cases a
      exact .cons _ _ (ih _ b)

theorem script_of {l : OpenLaw} {n : Nat} (hn : l.most = some n) {P : Params} {h : Heap} {args : List WData} {vals : List Value}
    (hpre : l.row.toRowW.claim.pre args = true) (hwl : WellAll P h vals args) :
    ∃ a vs ns, vals = [Value.ref a] ∧ args = [WData.list (ns.map WData.int)] ∧ h.get? a = some { cls := .type "list", data := .seq vs.toArray } ∧ IntsAre vs ns ∧ ns.length ≤ n := by
  have hsh : WShape.hasAll [] args [.list .int] = true := (pre_splitW hpre).1
  have hc : l.pre.holds [] { args := args } = true := (pre_splitW hpre).2
  obtain ⟨d, r, rfl, h1, h2⟩ := hasAllW_cons hsh
  obtain rfl := hasAllW_nil h2
  obtain ⟨xs, rfl, h3⟩ := hasW_list h1
  obtain ⟨ns, rfl⟩ := items_int h3
  have hlen : ns.length ≤ n := by
    unfold OpenLaw.pre at hc
    have h4 : (WTm.not (.lt (.lit (.int (n : Int))) (.len (.arg 0)))).holds [] { args := [.list (ns.map .int)] } = true := by
      have h4 := (holds_andW hc).1
      rw [hn] at h4
      exact h4
    have h5 := condW_of h4 (w_not (w_lt w_lit (w_len_list (w_arg rfl))))
    rw [List.length_map] at h5
    refine Nat.le_of_not_lt fun q => ?_
    have q' : (n : Int) < ((ns.length : Nat) : Int) := by omega
    first
      | (rw [decide_eq_true q'] at h5; exact absurd h5 (by decide))
      | (simp at h5; omega)
  cases hwl with
  | cons w1 w2 =>
    cases w2
    cases w1 with
    | list ho hall => exact ⟨_, _, ns, rfl, rfl, ho, ints_of_wellAll ns _ hall, hlen⟩

theorem post_true (l : OpenLaw) (args : List WData) : l.row.toRowW.claim.post args (.bool true) args = true :=
  postW_of (r := l.row.toRowW) (X := (true == true))
    (show WShape.has [] (.bool true) .bool = true by first | rfl | decide | simp [WShape.has, WShape.arms, WShape.armsAll])
    (show (WTm.eq .res (.lit (.bool true))).value [] { args := args, res := some (.bool true), after := args } = some (.bool (true == true)) from w_eq_bool (w_res rfl) w_lit) rfl

/-! ### the attachment: holds_open's last premise (the goal 'hc' behind k_head) from a wpAny of the law's body -/
theorem attach {l : OpenLaw} {n : Nat} {q : Program} {loose : List Str} {XP : (Str → Option Value) → Heap → Prop} {YP : World → Heap → Prop} {d : DefRec} {x : Str}
    (hn : l.most = some n) (hdf : d.params.defaults = [])
    (hbind : ∀ pm cd doc v : Value, bindArgs (docDef d.name d.params d.body d.scope pm cd doc) ⟨[v], []⟩ = pure [(x, v)])
    (hx : d.scope.names.lookup x = some .local ∨ d.scope.names.lookup x = some .cell)
    (hk : d.scope.kind = .function) (hco : d.scope.isCoroutine = false) (hgen : d.scope.isGenerator = false)
    (body : ∀ (w : World) (s₀ s₁ s : Shared) (mg mb : Str → Option Value) (fa : Addr) (o : Obj) (pm cd doc : Value) (a : Addr) (vs : List Value) (ns : List Int),
      Ground q loose [] XP w s₀ mg mb s₁.heap → YP w s₁.heap →
      s₁.heap.get? fa = some o → o.data = .func (docDef d.name d.params d.body d.scope pm cd doc) → s₁.heap.CodeRec cd d.name → mg d.name = some (.ref fa) →
      s₁.heap.get? a = some { cls := .type "list", data := .seq vs.toArray } → IntsAre vs ns → ns.length ≤ n →
      s.gens = #[] → s.os = s₁.os →
      Fr s₁.heap s₁.heap.objs.size s.heap (bindL (envOfC d.name d.scope s₁.heap.objs.size fa cd).kindOf [(x, .ref a)] fun _ => none) →
      Cl s₁.heap.objs.size (cellsFrom (s₁.heap.objs.size + 1) d.scope.names []) s.heap (bindC (envOfC d.name d.scope s₁.heap.objs.size fa cd).kindOf [(x, .ref a)] fun _ => none) →
      wpAny (model l.prog w) (callerA.deeper (envOfC d.name d.scope s₁.heap.objs.size fa cd)) (execs d.body (envOfC d.name d.scope s₁.heap.objs.size fa cd))
        (fun f s' => f = .ret (.bool true) ∧ OldK s₁.heap s'.heap ∧ s'.os = s₁.os ∧ AllBare s'.gens) (fun _ _ => False) s) :
    WalkO q loose XP YP l.row.toRowW d [] (fun f vs => PySem.call f vs) := by
  intro w s₀ s₁ mg mb G Y fa o pm cd doc dV kV ho hd hcd hD hmg hg args vals as hpre hlay hrd hwl hlo
  obtain rfl : dV = .none := Dflts.none hD hdf
  obtain rfl : kV = .none := Dflts.noKw hD
  obtain ⟨a, vs, ns, rfl, rfl, hobj, hints, hlen⟩ := script_of hn hpre hwl
  refine enter_call ?_
  refine call_cells_ret (o := o) (by rw [depth_caller]; decide) ho (fd_plain hd) G.T.nolimit hcd (hbind pm cd doc (.ref a)) (fun y hy => ?_) (fun h₁ tk F X => ?_) hco hgen hk
  · obtain rfl : y = (x, Value.ref a) := List.mem_singleton.mp hy
    rcases hx with e | e
    · exact .inl e
    · exact .inr ⟨e, cellsFrom_some _ _ _ (.inl e)⟩
  · refine wpAny_mono (body w s₀ s₁ { s₁ with heap := h₁, toks := tk } mg mb fa o pm cd doc a vs ns G Y ho (fd_plain hd) hcd hmg hobj hints hlen hg rfl F X) (fun f s' hq => ?_) (fun _ _ hq => hq)
    obtain ⟨rfl, h2, h3, h4⟩ := hq
    exact ⟨.inl ⟨.bool true, .bool true, [], rfl, fun _ => rfl, .bool true, post_true l _, fun _ => ⟨List.Pairwise.nil, fun _ hm => (nomatch hm)⟩⟩, h2, h3, h4⟩

/-- the same from a codeAny of the CALL (for a layer whose function contracts speak of calls) -/
theorem attach_call {l : OpenLaw} {n : Nat} {q : Program} {loose : List Str} {XP : (Str → Option Value) → Heap → Prop} {YP : World → Heap → Prop} {d : DefRec}
    (hn : l.most = some n) (hdf : d.params.defaults = [])
    (call : ∀ (w : World) (s₀ s₁ : Shared) (mg mb : Str → Option Value) (fa : Addr) (o : Obj) (pm cd doc : Value) (a : Addr) (vs : List Value) (ns : List Int),
      Ground q loose [] XP w s₀ mg mb s₁.heap → YP w s₁.heap →
      s₁.heap.get? fa = some o → o.data = .func (docDef d.name d.params d.body d.scope pm cd doc) → s₁.heap.CodeRec cd d.name → mg d.name = some (.ref fa) →
      s₁.heap.get? a = some { cls := .type "list", data := .seq vs.toArray } → IntsAre vs ns → ns.length ≤ n → s₁.gens = #[] →
      codeAny (model l.prog w) callerA (.call (.ref fa) ⟨[.ref a], []⟩) (fun r s' => r = .ok (.ret (.bool true)) ∧ OldK s₁.heap s'.heap ∧ s'.os = s₁.os ∧ AllBare s'.gens) s₁) :
    WalkO q loose XP YP l.row.toRowW d [] (fun f vs => PySem.call f vs) := by
  intro w s₀ s₁ mg mb G Y fa o pm cd doc dV kV ho hd hcd hD hmg hg args vals as hpre hlay hrd hwl hlo
  obtain rfl : dV = .none := Dflts.none hD hdf
  obtain rfl : kV = .none := Dflts.noKw hD
  obtain ⟨a, vs, ns, rfl, rfl, hobj, hints, hlen⟩ := script_of hn hpre hwl
  refine enter_call (codeAny_mono (call w s₀ s₁ mg mb fa o pm cd doc a vs ns G Y ho (fd_plain hd) hcd hmg hobj hints hlen hg) fun r s' hq => ?_)
  obtain ⟨rfl, h2, h3, h4⟩ := hq
  exact ⟨.inl ⟨.bool true, .bool true, [], rfl, fun _ => rfl, .bool true, post_true l _, fun _ => ⟨List.Pairwise.nil, fun _ hm => (nomatch hm)⟩⟩, h2, h3, h4⟩

/-- the same where the top left finished generators (o_head chose holds_openN): nothing may have changed at all and no generator may be left -/
theorem attachN {l : OpenLaw} {n : Nat} {q : Program} {loose : List Str} {XP : (Str → Option Value) → Heap → Prop} {YP : World → Heap → Prop} {d : DefRec} {x : Str}
    (hn : l.most = some n) (hdf : d.params.defaults = [])
    (hbind : ∀ pm cd doc v : Value, bindArgs (docDef d.name d.params d.body d.scope pm cd doc) ⟨[v], []⟩ = pure [(x, v)])
    (hx : d.scope.names.lookup x = some .local ∨ d.scope.names.lookup x = some .cell)
    (hk : d.scope.kind = .function) (hco : d.scope.isCoroutine = false) (hgen : d.scope.isGenerator = false)
    (body : ∀ (w : World) (s₀ s₁ s : Shared) (mg mb : Str → Option Value) (fa : Addr) (o : Obj) (pm cd doc : Value) (a : Addr) (vs : List Value) (ns : List Int),
      Ground q loose [] XP w s₀ mg mb s₁.heap → YP w s₁.heap →
      s₁.heap.get? fa = some o → o.data = .func (docDef d.name d.params d.body d.scope pm cd doc) → s₁.heap.CodeRec cd d.name → mg d.name = some (.ref fa) →
      s₁.heap.get? a = some { cls := .type "list", data := .seq vs.toArray } → IntsAre vs ns → ns.length ≤ n →
      s.gens = #[] → s.os = s₁.os →
      Fr s₁.heap s₁.heap.objs.size s.heap (bindL (envOfC d.name d.scope s₁.heap.objs.size fa cd).kindOf [(x, .ref a)] fun _ => none) →
      Cl s₁.heap.objs.size (cellsFrom (s₁.heap.objs.size + 1) d.scope.names []) s.heap (bindC (envOfC d.name d.scope s₁.heap.objs.size fa cd).kindOf [(x, .ref a)] fun _ => none) →
      wpAny (model l.prog w) (callerA.deeper (envOfC d.name d.scope s₁.heap.objs.size fa cd)) (execs d.body (envOfC d.name d.scope s₁.heap.objs.size fa cd))
        (fun f s' => f = .ret (.bool true) ∧ (∀ b o, s₁.heap.get? b = some o → s'.heap.get? b = some o) ∧ s'.os = s₁.os ∧ s'.gens = #[]) (fun _ _ => False) s) :
    WalkN q loose XP YP l.row.toRowW d [] (fun f vs => PySem.call f vs) := by
  intro w s₀ s₁ mg mb G Y fa o pm cd doc dV kV ho hd hcd hD hmg hg args vals as hpre hlay hrd hwl hlo
  obtain rfl : dV = .none := Dflts.none hD hdf
  obtain rfl : kV = .none := Dflts.noKw hD
  obtain ⟨a, vs, ns, rfl, rfl, hobj, hints, hlen⟩ := script_of hn hpre hwl
  refine enter_callW ?_
  refine call_cells_ret (o := o) (by rw [depth_caller]; decide) ho (fd_plain hd) G.T.nolimit hcd (hbind pm cd doc (.ref a)) (fun y hy => ?_) (fun h₁ tk F X => ?_) hco hgen hk
  · obtain rfl : y = (x, Value.ref a) := List.mem_singleton.mp hy
    rcases hx with e | e
    · exact .inl e
    · exact .inr ⟨e, cellsFrom_some _ _ _ (.inl e)⟩
  · refine wpAny_mono (body w s₀ s₁ { s₁ with heap := h₁, toks := tk } mg mb fa o pm cd doc a vs ns G Y ho (fd_plain hd) hcd hmg hobj hints hlen hg rfl F X) (fun f s' hq => ?_) (fun _ _ hq => hq)
    obtain ⟨rfl, h2, h3, h4⟩ := hq
    exact ⟨.inl ⟨.bool true, .bool true, [], rfl, fun _ => rfl, .bool true, post_true l _, fun _ => ⟨List.Pairwise.nil, fun _ hm => (nomatch hm)⟩⟩, h2, h3, h4⟩

/-! ### rules over ANY heap (no ledger) from facts about the written part K: the library's own take a ledger (News) for what they write -/
section
variable {prog : Program} {w : World} {A : Around} {E : Value → Shared → Prop} {s : Shared} {K : Frag}

/-- a def of the module, or a method (qual 'C.m'), entered: the frame is the next address; cells behind it -/
theorem call_fn {R : Result → Shared → Prop} {name qual : Str} {params : Arguments} {body : List Stmt} {scope : Scope} {dV kV doc pm cdv ct oc : Value} {an od : Option Addr} {osl : Array (Option Value)} {f : Addr} {args : Args} {binds : List (Str × Value)}
    (X : K.In s.heap) (hlim : s.heap.NoLimit) (ho : K.lookup f = some ⟨oc, od, .func (fnOf name qual params body scope dV kV doc pm an cdv ct), osl⟩) (hcd : codeIn K cdv qual = true) (hroom : A.depth < recursionLimit)
    (hbind : BindsTo s (fnOf name qual params body scope dV kV doc pm an cdv ct) args binds)
    (hkind : (binds.all fun y => scope.names.lookup y.1 == some .local || scope.names.lookup y.1 == some .cell) = true)
    (h : ∀ s₁, InCallC s s.heap.objs.size (bindL (envOfC qual scope s.heap.objs.size f cdv).kindOf binds fun _ => none) (cellsFrom (s.heap.objs.size + 1) scope.names [])
        (bindC (envOfC qual scope s.heap.objs.size f cdv).kindOf binds fun _ => none) s₁ →
      wpAny (model prog w) (A.deeper (envOfC qual scope s.heap.objs.size f cdv)) (execs body (envOfC qual scope s.heap.objs.size f cdv))
        (fun fl s' => R (.ok (.ret (match fl with | .ret v => v | _ => .none))) s')
        (fun e s' => wpAny (model prog w) (A.deeper (envOfC qual scope s.heap.objs.size f cdv)) (leaving (envOfC qual scope s.heap.objs.size f cdv) e) (fun _ s'' => R (.error e) s'') (fun e' s'' => R (.error e') s'') s') s₁)
    (hco : scope.isCoroutine = false) (hgen : scope.isGenerator = false) (hk : scope.kind = .function) : codeAny (model prog w) A (.call (.ref f) args) R s := by
  refine codeAny_call_function hroom (X _ _ ho) rfl hco hgen rfl (codeRec_of X hcd) (hbind _ _ _ _ ?_)
  refine wpAny_newFunctionEnv_cells hk (kindsX hkind _) fun env he s₁ x => ?_
  subst he
  exact ⟨hlim.keeps x.toInCall.keep, codeAny_func (h s₁ x)⟩

/-- C(..): dict at size, instance at size + 1, then __init__ -/
theorem make_obj {R : Result → Shared → Prop} {C fI : Addr} {rest : List Value} {kw : List (Str × Value)}
    (X : K.In s.heap) (hm : makesIn K C = true) (hi : findIn K (.ref C) "__init__" = some (some (.ref fI))) (hf : isFn K (.ref fI) = true)
    (h : codeAny (model prog w) (A.under (.builtin "type.__call__" ⟨.ref C :: rest, kw⟩)) (.call (.ref fI) ⟨.ref (s.heap.objs.size + 1) :: rest, kw⟩) (InitBack (s.heap.objs.size + 1) R)
      { s with heap := (s.heap.push emptyDict).push (instObj C s.heap.objs.size) }) : codeAny (model prog w) A (.call (.ref C) ⟨rest, kw⟩) R s := by
  obtain ⟨hh, g, d, t, os⟩ := s
  exact make_core (makes_of X hm) (looks_findIn X hi) (fun self => bind_fn X self (beq_iff_eq.mp hf)) (.inl rfl) h

/-- x.name where the instance's dict holds the name and the class does not -/
theorem get_field {x C : Addr} {ox : Obj} {es : List DictEntry} {n : Nat} {name : Str} {expr : Bool} {v : Value} {Q : Value → Shared → Prop}
    (X : K.In s.heap) (I : PySem.W.InstAt s.heap x ox C (some (dictOf es n))) (hg : plainGet K C name = true) (hh : hasDictIn K C = true) (ha : findIn K (.ref C) name = some none)
    (hl : getL name es = some (some v)) (hv : handedIn v = true) (h : Q v { s with toks := s.toks + 1 }) : wpAny (model prog w) A (getAttr (.ref x) name expr) Q E s :=
  get_value X I (plainGet_of hg).1 (findObj_own hh ha rfl hl) hv h

/-- x.m(..): the method found in the class -/
theorem get_method {x C f : Addr} {ox : Obj} {es : List DictEntry} {n : Nat} {name : Str} {pl : Sem Bool} {Q : Value × List Value → Shared → Prop}
    (X : K.In s.heap) (I : PySem.W.InstAt s.heap x ox C (some (dictOf es n))) (hg : plainGet K C name = true) (hf : findIn K (.ref C) name = some (some (.ref f))) (ht : isFn K (.ref f) = true)
    (hl : getL name es = some none) (h : Q (.ref f, [.ref x]) s) : wpAny (model prog w) A (getMethod (.ref x) name pl) Q E s :=
  method_fn X I (plainGet_of hg).1 (plainGet_of hg).2 hf (beq_iff_eq.mp ht) (by show (lookIn name (dictOf es n)).map _ = _; rw [lookIn_dict, hl]; rfl) h

/-! the whole heap as the ledger: makes every rule that writes through a ledger a rule over any heap -/
def noObjs (h : Heap) : Heap := { h with objs := #[] }
theorem noObjs_get (h : Heap) (b : Addr) : (noObjs h).get? b = none := by
  cases e : (noObjs h).get? b with
  | none => rfl
  | some o => exact absurd (Heap.lt_size e) (Nat.not_lt_zero _)
def ledger (h : Heap) (L d : Addr) : List (Addr × Obj) := (List.range h.objs.size).filterMap fun a => if a = L ∨ a = d then none else (h.get? a).map fun o => (a, o)
theorem mem_ledger {h : Heap} {L d a : Addr} {o : Obj} : (a, o) ∈ ledger h L d ↔ a ≠ L ∧ a ≠ d ∧ h.get? a = some o := by
  unfold ledger
  rw [List.mem_filterMap]
  constructor
  · rintro ⟨b, _, e⟩
    split at e
    · cases e
    · rename_i hb
      obtain ⟨o', ho, e'⟩ := Option.map_eq_some_iff.mp e
      cases e'
      exact ⟨fun q => hb (.inl q), fun q => hb (.inr q), ho⟩
  · rintro ⟨n1, n2, ho⟩
    refine ⟨a, List.mem_range.mpr (Heap.lt_size ho), ?_⟩
    rw [if_neg (show ¬ (a = L ∨ a = d) from fun q => q.elim n1 n2), ho] <;> rfl
theorem news_ledger {h : Heap} {L d : Addr} {od : Obj} (hne : d ≠ L) (ho : h.get? d = some od) : News (noObjs h) L h ([] ++ (d, od) :: ledger h L d) := by
  rintro ⟨a, o⟩ hp
  rcases List.mem_cons.mp hp with e | hp
  · cases e
    exact ⟨ho, hne, noObjs_get _ _⟩
  · obtain ⟨n1, n2, e⟩ := mem_ledger.mp hp
    exact ⟨e, n1, noObjs_get _ _⟩
theorem fr_all {h : Heap} {L : Addr} {m : Str → Option Value} (n : h.Ns L m) : Fr (noObjs h) L h m :=
  ⟨n, fun b o e => (by rw [noObjs_get] at e; cases e), Nat.zero_le _⟩
/-- Upd of the head entry (for append_K, setItem_K ..) -/
theorem upd_ledger {h : Heap} {L d : Addr} {o o' : Obj} : Upd d o o' ((d, o) :: ledger h L d) ((d, o') :: ledger h L d) :=
  .head fun ⟨_, _⟩ hp => (mem_ledger.mp hp).2.1

/-- x.name = v over any heap: L is any namespace of the heap (the frame's, say): its map stays, its object is not told; all else but the dict stays -/
theorem set_field {x C dx L : Addr} {ox : Obj} {m : Str → Option Value} {es es' : List DictEntry} {n n' : Nat} {name : Str} {v : Value} {Q : Unit → Shared → Prop}
    (X : K.In s.heap) (I : PySem.W.InstAt s.heap x ox C (some (dictOf es n))) (hd : ox.dict = some dx) (hL : s.heap.Ns L m) (hne : dx ≠ L)
    (hs : findIn K (.ref C) "__setattr__" = some (some (.builtin "object.__setattr__"))) (hp : plainOver K C = true) (ht : takerIn K C name = some none) (hh : hasDictIn K C = true) (hl : (getL name es).isSome = true)
    (e : (putL name (PyData.keyHash w.params name) (.str name (s.toks + 1)) v es, putN name es n) = (es', n')) (hz : es'.length ≤ 1000)
    (h : ∀ h' : Heap, h'.Ns L m → h'.get? dx = some (dictOf es' n') → (∀ b o, b ≠ dx → b ≠ L → s.heap.get? b = some o → h'.get? b = some o) → Q () { s with heap := h', toks := s.toks + 2 }) :
    wpAny (model prog w) A (setAttr (.ref x) name v) Q E s := by
  obtain ⟨e1, e2⟩ := Prod.mk.inj e
  have hdx : s.heap.get? dx = some (dictOf es n) := by
    have := I.dict
    rw [hd] at this
    exact this
  refine set_plain X I hs (osa_dict (s := { s with toks := s.toks + 1 }) (h₀ := noObjs s.heap) (L := L) (m := m) (od := dictOf es n) (od' := dictOf es' n') (es := es') (n := n') (pre := []) (post := ledger s.heap L dx)
    (fr_all hL) (news_ledger hne hdx) X I hd hp ht hh hl (fun _ q => nomatch q) (fun ⟨_, _⟩ q => (mem_ledger.mp q).2.1) (by rw [putName_dict, e1, e2]) rfl hz fun h' F' N' => ?_)
  exact h h' F'.ns (N'.get (List.Mem.head _)) fun b o n1 n2 ho => N'.get (List.Mem.tail _ (mem_ledger.mpr ⟨n2, n1, ho⟩))
end
end Att

namespace L2
open PySem PySem.Spec PyProof.Rows

theorem vals_ints : ∀ {vs : List Value} {ns : List Int}, IntsAre vs ns → Vals (ns.map V.int) vs
  | _, _, .nil => .nil
  | _, _, .cons n t h => .cons ⟨t, rfl⟩ (vals_ints h)

/-- nothing is tracked but the script, known to the object (or it is an object of the module) -/
def Only (H : Hp) : Prop := ∀ b, H b = none ∨ ∃ o xs, H b = some (.frz o (.lst xs))

/-- THE HEAD: the law's promise, at the heap behind the top. F, the promise of the law's def, may use that base is part of the heap (so K.In base, base.Ns mainGlobals mg stand in Mod) -/
theorem law_call {P : Program} {w : World} {K : PySem.W.Frag} {mg mb : Str → Option Value} {CX : CXT} {k : Nat} {fa a : Addr} {fd : FuncData} {x : Str} {sp : Sp} {s₁ : Shared} {vs : List Value} {ns : List Int}
    (KX : K.In s₁.heap) (hns : s₁.heap.Ns mainGlobals mg) (hb : s₁.heap.Ns builtinsNs mb) (hbb : ∀ x : Str, x ≠ "__name__" → mb x = bootBuiltins x) (hlim : s₁.heap.NoLimit) (hg : s₁.gens = #[])
    (ha : s₁.heap.get? a = some { cls := .type "list", data := .seq vs.toArray }) (hi : IntsAre vs ns) (hl : ns.length ≤ sizeLine) (hr : Room k callerA)
    (F : ∀ base : Heap, K.In base → base.Ns mainGlobals mg → FnOk P w K mg base CX k fa fd [x] sp) (hbind : ∀ (s : Shared) (u : Value), BindsTo s fd ⟨[u], []⟩ [(x, u)])
    (hsp : ∀ H : Hp, Only H → SqL K H a (ns.map V.int) → sp [.ref a] H (fun v _ => v = .bl true) fun _ _ _ => False)
    (hCX : ∀ H e s', CX [] H s₁ (fun _ _ _ => False) e s' → False) :
    codeAny (model P w) callerA (.call (.ref fa) ⟨[.ref a], []⟩) (fun r s' => r = .ok (.ret (.bool true)) ∧ OldK s₁.heap s'.heap ∧ s'.os = s₁.os ∧ AllBare s'.gens) s₁ := by
  have rv := vals_ints hi
  have lenV := hi.length
  -- from an abstract heap in which nothing but the script may be tracked
  have core : ∀ H : Hp, Only H → SqL K H a (ns.map V.int) → HOk P w H s₁.heap → (∀ b, H b ≠ none → b = a) → (H a ≠ none → K.lookup a = none) →
      codeAny (model P w) callerA (.call (.ref fa) ⟨[.ref a], []⟩) (fun r s' => r = .ok (.ret (.bool true)) ∧ OldK s₁.heap s'.heap ∧ s'.os = s₁.os ∧ AllBare s'.gens) s₁ := by
    intro H hO hS hok hA hK
    have base_of : ∀ {b : Addr} {o : Obj}, s₁.heap.get? b = some o → H b = none → (hidT s₁.heap H).get? b = some o := fun e n => hidT_get e n
    have noA : ∀ {b : Addr} {o : Obj} {es : Array DictEntry} {ep : Nat}, s₁.heap.get? b = some o → o.data = .dict es ep → H b = none := fun {b o es ep} e d => by
      cases q : H b with
      | none => rfl
      | some u =>
        have e' : b = a := hA b (by rw [q]; simp)
        subst e'
        rw [ha] at e; cases e
        have d' : Data.seq vs.toArray _ = Data.dict es ep := d
        cases d'
    have nsK : ∀ {b : Addr} {m : Str → Option Value}, s₁.heap.Ns b m → (hidT s₁.heap H).Ns b m := fun {b m} ⟨o, es, ep, e, d, r⟩ => ⟨o, es, ep, base_of e (noA e d), d, r⟩
    have hKb : K.In (hidT s₁.heap H) := fun b o e => base_of (KX b o e) (by
      cases q : H b with
      | none => rfl
      | some u =>
        have e' : b = a := hA b (by rw [q]; simp)
        subst e'
        rw [hK (by rw [q]; simp)] at e; cases e)
    have hM : Mod K mg (hidT s₁.heap H) := ⟨hKb, nsK hns, ⟨mb, nsK hb, hbb⟩, let ⟨mc, h1, h2⟩ := hlim; ⟨mc, nsK h1, h2⟩⟩
    have e0 : Env0 P w K mg (hidT s₁.heap H) callerA [] s₁ H := ⟨rfl, hM, fun b o e => of_hidT e, Nat.le_of_eq (hidT_size _ _), trivial, fun b hb => absurd (show b ∈ ([] : List Addr) from hb) (by simp), hok, .of_eq hg⟩
    refine codeAny_mono ((F _ hKb (nsK hns)).run callerA [] s₁ H ⟨[.ref a], []⟩ [.ref a] [.ref a] _ _ hr e0 (hbind s₁ (.ref a)) (.cons rfl .nil) (hsp H hO hS)) fun r s' h => ?_
    cases r with
    | error e => exact (hCX H e s' h).elim
    | ok fl =>
      cases fl with
      | next => exact False.elim h
      | brk => exact False.elim h
      | cont => exact False.elim h
      | ret u =>
        obtain ⟨v, H', os, bare, un, hok', r', q⟩ := h
        have q' : v = .bl true := q
        subst q'
        obtain rfl : u = Value.bool true := r'
        refine ⟨rfl, OldK.of_keep fun b o e => ?_, os, bare⟩
        cases q : H b with
        | none => exact un.keep b o e q (by intro z; exact absurd (show b ∈ ([] : List Addr) from z) (by simp)) (by simp)
        | some u =>
          rcases hO b with z | ⟨ob, xs, z⟩
          · rw [q] at z; cases z
          · have z2 := un.frzs b ob _ z
            obtain ⟨e1, _⟩ := hok b _ z
            obtain ⟨e2, _⟩ := hok' b _ z2
            rw [e] at e1; cases e1
            exact e2
  cases hk : K.lookup a with
  | some o =>
    -- the script is one of the module's own objects
    have e := KX a o hk
    rw [ha] at e
    cases e
    refine core (fun _ => none) (fun _ => .inl rfl) (.inr ⟨_, vs.toArray, _, hk, rfl, rfl, rfl, by rw [List.size_toArray, lenV]; exact hl, by simpa using rv⟩) (fun b u z => by have z' : (none : Option HO) = some u := z; cases z') (fun b z => absurd rfl z) fun z => absurd rfl z
  | none =>
    refine core (fun b => if b = a then some (.frz { cls := .type "list", data := .seq vs.toArray } (.lst (ns.map V.int))) else none) (fun b => ?_) (.inl (.inr ⟨{ cls := .type "list", data := .seq vs.toArray }, if_pos rfl⟩)) (fun b u z => ?_) (fun b z => ?_) fun _ => hk
    · by_cases hb : b = a
      · exact .inr ⟨_, _, if_pos hb⟩
      · exact .inl (if_neg hb)
    · by_cases hb : b = a
      · have z' := (if_pos hb).symm.trans z
        cases z'
        subst hb
        exact ⟨ha, by rw [List.length_map]; exact hl, vs, _, rv, ha⟩
      · have z' := (if_neg hb).symm.trans z
        cases z'
    · by_cases hb : b = a
      · exact hb
      · exact absurd (if_neg hb) z
end L2

namespace L2
open PySem PySem.Spec PyProof.Rows

abbrev KOf {K : PySem.W.Frag} {h : Heap} (_ : K.In h) : PySem.W.Frag := K

/-- the goal that k_head leaves (case hc), from the law's promise. F gives the function object fd (K's own) once, then the promise over every base -/
theorem walk_of {l : PySem.W.OpenLaw} {n k : Nat} {q : Program} {loose : List Str} {XP : (Str → Option Value) → Heap → Prop} {YP : World → Heap → Prop} {d : DefRec} {K : Params → PySem.W.Frag} {CX : World → CXT} {sp : World → Sp} {x : Str}
    (hn : l.most = some n) (hn2 : n ≤ sizeLine) (hdf : d.params.defaults = []) (hr : Room k callerA)
    (hY : ∀ (w : World) (h : Heap), YP w h → (K w.params).In h)
    (F : ∀ (w : World) (mg : Str → Option Value) (fa : Addr) (h : Heap), (K w.params).In h → h.Ns mainGlobals mg → mg d.name = some (.ref fa) →
      ∃ fd : FuncData, (∀ (s : Shared) (u : Value), BindsTo s fd ⟨[u], []⟩ [(x, u)]) ∧
        ∀ base : Heap, (K w.params).In base → base.Ns mainGlobals mg → FnOk l.prog w (K w.params) mg base (CX w) k fa fd [x] (sp w))
    (hsp : ∀ (w : World) (H : Hp) (a : Addr) (ns : List Int), ns.length ≤ n → Only H → SqL (K w.params) H a (ns.map V.int) → sp w [.ref a] H (fun v _ => v = .bl true) fun _ _ _ => False)
    (hCX : ∀ (w : World) (H : Hp) (s : Shared) (e : Value) (s' : Shared), CX w [] H s (fun _ _ _ => False) e s' → False) :
    PySem.W.WalkO q loose XP YP l.row.toRowW d [] (fun f vs => PySem.call f vs) := by
  refine Att.attach_call hn hdf fun w s₀ s₁ mg mb fa o pm cd doc a vs ns G Y ho hd hcd hmg hobj hints hlen hg => ?_
  have KX := hY w _ Y
  obtain ⟨fd, hb, hF⟩ := F w mg fa _ KX G.T.g hmg
  exact law_call KX G.T.g G.T.b G.T.builtins G.T.nolimit hg hobj hints (Nat.le_trans hlen hn2) hr hF hb (fun H hO hS => hsp w H a ns hlen hO hS) fun H e s' => hCX w H s₁ e s'
/-- the same where the promise hangs on the written part alone: (sp := My.sp_law), no hole under a binder -/
theorem walk_ofK {l : PySem.W.OpenLaw} {n k : Nat} {q : Program} {loose : List Str} {XP : (Str → Option Value) → Heap → Prop} {YP : World → Heap → Prop} {d : DefRec} {K : Params → PySem.W.Frag} {CX : CXT} {sp : PySem.W.Frag → Sp} {x : Str}
    (hn : l.most = some n) (hn2 : n ≤ sizeLine) (hdf : d.params.defaults = []) (hr : Room k callerA)
    (hY : ∀ (w : World) (h : Heap), YP w h → (K w.params).In h)
    (F : ∀ (w : World) (mg : Str → Option Value) (fa : Addr) (h : Heap), (K w.params).In h → h.Ns mainGlobals mg → mg d.name = some (.ref fa) →
      ∃ fd : FuncData, (∀ (s : Shared) (u : Value), BindsTo s fd ⟨[u], []⟩ [(x, u)]) ∧
        ∀ base : Heap, (K w.params).In base → base.Ns mainGlobals mg → FnOk l.prog w (K w.params) mg base CX k fa fd [x] (sp (K w.params)))
    (hsp : ∀ (K : PySem.W.Frag) (H : Hp) (a : Addr) (ns : List Int), ns.length ≤ n → Only H → SqL K H a (ns.map V.int) → sp K [.ref a] H (fun v _ => v = .bl true) fun _ _ _ => False)
    (hCX : ∀ (H : Hp) (s : Shared) (e : Value) (s' : Shared), CX [] H s (fun _ _ _ => False) e s' → False) :
    PySem.W.WalkO q loose XP YP l.row.toRowW d [] (fun f vs => PySem.call f vs) :=
  walk_of (K := K) (CX := fun _ => CX) (sp := fun w => sp (K w.params)) hn hn2 hdf hr hY F (fun w H a ns h1 h2 h3 => hsp (K w.params) H a ns h1 h2 h3) fun _ H s e s' => hCX H s e s'
end L2

/- THE LAST THEOREM (shape; LID, My.* are yours):
   My.Adr: a structure of the addresses that your layer names (classes, functions); My.Txt K t: a structure (Prop) of the equations over K;
   My.txt_mk : {K} {implicit addresses ..} (e1 : nsIn K mainGlobals "law" = some (some (.ref f))) (e2 : K.lookup f = some ⟨oc, od, .func (fnOf "law" "law" params body scope dV kV doc pm an cdv ct), sl⟩) (e3 : codeIn K cdv "law" = true) .. : ∃ t, My.Txt K t

set_option maxRecDepth 100000 in
set_option maxHeartbeats 0 in
theorem PySem.Challenge.cw_LID_holds : PySem.Challenge.rw_LID.Holds := by
  w_on; o_law; k_head; (case hw => w_witness2)
  k_fill
  refine L2.walk_of (l := PySem.Challenge.rw_LID) (n := 63) (k := 40) (x := "script") (CX := fun w => ..) (sp := fun _ => My.sp_law) rfl (by decide) rfl ⟨rfl, by decide, by decide⟩ (fun w h Y => PySem.W.kIn_of Y) ?F ?S ?C
  case F =>
    intro w mg fa h KX G hmg
    have T : ∃ t, My.Txt (L2.KOf KX) t := by
      dsimp only [L2.KOf]                          -- K must stand as «<heap const> w.params» for k_is
      refine' My.txt_mk ?e1 ?e2 ?e3 ..
      (case e1 => PySem.W.k_is)                    -- in the order: a name -> its address -> its object -> its parts
      (case e2 => PySem.W.k_is)
      ..
    obtain ⟨t, T⟩ := T
    have e0 := hmg.symm.trans (PySem.W.mg_of KX G T.law)
    cases e0                                       -- fa is the law's own address
    exact ⟨_, fun s u => .of_eq rfl, fun base kb nb => My.law_fn T kb nb⟩     -- if «.of_eq rfl» comes too early: refine' ⟨_, ?b, fun base kb nb => My.law_fn T kb nb⟩; exact fun s u => .of_eq rfl
  case S => exact fun w H a ns hl hO hS => ..
  case C => exact ..
(the tactic k_is has no namespace: write k_is) -/

/-! SHORT WORDS over the layer: a def of the text, its body, what a loop and a test want. -/
namespace L2
open PySem PySem.Spec PyProof.Rows

/-! ### the text by places -/
/-- the j-th statement of a class's body -/
def inClass (s : Stmt) (j : Nat) : Stmt := match s with
  | .ClassDef _ _ _ body _ _ _ _ _ _ _ => body.getD j (.Pass ⟨0, 0, 0, 0⟩)
  | _ => .Pass ⟨0, 0, 0, 0⟩
def defArgs (s : Stmt) : Arguments := match s with
  | .FunctionDef _ a _ _ _ _ _ _ _ _ => a
  | _ => { posonlyargs := [], args := [], vararg := none, kwonlyargs := [], kw_defaults := [], kwarg := none, defaults := [] }
def defBody (s : Stmt) : List Stmt := match s with
  | .FunctionDef _ _ b _ _ _ _ _ _ _ => b
  | _ => []
def defScope (s : Stmt) : Scope := match s with
  | .FunctionDef _ _ _ _ _ _ sc _ _ _ => sc
  | _ => { kind := .function, names := [], isGenerator := false, isCoroutine := false }

/-! ### no exception leaves a def -/
abbrev CX0 : CXT := fun _ _ _ _ _ _ => False
abbrev E0 : XK := fun _ _ _ => False
theorem pass0 {X : Cx} : Passes CX0 X E0 := fun _ _ _ _ _ _ _ h => h.elim

/-! ### a def (or method) of the text as it stands behind the top -/
structure Fun (K : PySem.W.Frag) (x qual : Str) (st : Stmt) (f : Addr) (fd : FuncData) : Prop where
  ex : ∃ (oc : Value) (od : Option Addr) (kV doc pm : Value) (an : Option Addr) (cdv ct : Value) (osl : Array (Option Value)),
    fd = PySem.W.fnOf x qual (defArgs st) (defBody st) (defScope st) .none kV doc pm an cdv ct ∧ K.lookup f = some ⟨oc, od, .func fd, osl⟩ ∧ PySem.W.codeIn K cdv qual = true
  kp : PySem.W.keepIn K (.ref f) = true
section
variable {P : Program} {w : World} {K : PySem.W.Frag} {mg : Str → Option Value} {base : Heap}
/-- THE RULE for a def: its body as a term of rules, and the reading of that term -/
theorem Fun.ok {x qual : Str} {st : Stmt} {f : Addr} {fd : FuncData} {N ps : List Str} {k : Nat} {sp : Sp} (F : Fun K x qual st f fd) (S : FnScope N ps (defScope st)) (len : ∀ vs H Q E, sp vs H Q E → vs.length = ps.length)
    (hbody : ∀ (cdv : Value) (A : Around) (outer : List Env) (s : Shared) (H : Hp) (vs : List V) (Q : VK) (E : XK), Room k (A.deeper (envOfC qual (defScope st) s.heap.objs.size f cdv)) → sp vs H Q E →
      ∃ t, PSs (cxOf CX0 P w K mg base N qual (defScope st) f cdv A outer s H E).nox (defBody st) t ∧ t { nx := fun _ H' => Q .non H', rt := Q } (start N vs) H) : FnOk P w K mg base CX0 (k + 1) f fd ps sp := by
  obtain ⟨oc, od, kV, doc, pm, an, cdv, ct, osl, rfl, lk, hcd⟩ := F.ex
  refine fn_of lk hcd S len fun A outer s H vs Q E hr hsp => ?_
  obtain ⟨t, h, q⟩ := hbody cdv A outer s H vs Q E hr hsp
  exact ⟨t, h.nox, q⟩
/-- how its arguments bind (no defaults): h is «fun _ _ _ _ _ _ us hl => match us, hl with | [_, _], _ => rfl», one _ a parameter -/
theorem Fun.binds {x qual : Str} {st : Stmt} {f : Addr} {fd : FuncData} {ps : List Str} (F : Fun K x qual st f fd)
    (h : ∀ (kV doc pm : Value) (an : Option Addr) (cdv ct : Value) (us : List Value), us.length = ps.length → bindArgs (PySem.W.fnOf x qual (defArgs st) (defBody st) (defScope st) .none kV doc pm an cdv ct) ⟨us, []⟩ = pure (ps.zip us)) : Binds K fd ps [] := by
  obtain ⟨oc, od, kV, doc, pm, an, cdv, ct, osl, rfl, lk, hcd⟩ := F.ex
  exact .all (h kV doc pm an cdv ct)
theorem fun_mk {x qual : Str} {st : Stmt} {f : Addr} {oc : Value} {od an : Option Addr} {osl : Array (Option Value)} {kV doc pm cdv ct : Value} (l : K.lookup f = some ⟨oc, od, .func (PySem.W.fnOf x qual (defArgs st) (defBody st) (defScope st) .none kV doc pm an cdv ct), osl⟩)
    (c : PySem.W.codeIn K cdv qual = true) (k : PySem.W.keepIn K (.ref f) = true) : Fun K x qual st f (PySem.W.fnOf x qual (defArgs st) (defBody st) (defScope st) .none kV doc pm an cdv ct) := ⟨⟨oc, od, kV, doc, pm, an, cdv, ct, osl, rfl, l, c⟩, k⟩
end
theorem hu_of {A : Around} {k : Nat} (hr : Room k A) : A.units + 1 < cLine := Nat.lt_of_le_of_lt (Nat.add_le_add_left (by decide : 1 ≤ 64) _) hr.units
theorem small1000 {n : Nat} (h : n ≤ 1000) : n < sizeLine := Nat.lt_of_le_of_lt h (by decide)

/-! ### expressions in short: the name that stands in the i-th slot -/
section
variable {X : Cx}
theorem pv (i : Nat) {x : Str} {pos : Pos} (hN : X.N[i]? = some x := by rfl) (hv : Vis X.env.scope x := by first | exact Or.inl rfl | exact Or.inr (Or.inl rfl) | exact Or.inr (Or.inr rfl)) (hd : (x == ("__debug__" : Str)) = false := by decide)
    (hcd : (x == ("__classdict__" : Str)) = false := by decide) : PE X (.Name x pos) (tVar i) := pe_var hN hv hd hcd
end

/-! ### tests -/
theorem iteF {A B : Prop} (h : B) : if false = true then A else B := by
  rw [if_neg Bool.false_ne_true]
  exact h
theorem iteT {A B : Prop} (h : A) : if true = true then A else B := by
  rw [if_pos rfl]
  exact h
theorem ite2 {c A B : Prop} [Decidable c] (h1 : c → A) (h2 : ¬ c → B) : if c then A else B := by
  by_cases h : c
  · rw [if_pos h]
    exact h1 h
  · rw [if_neg h]
    exact h2 h
theorem iteNS {c A B : Prop} [Decidable c] (hc : c) (h : B) : if (!decide c) = true then A else B := by
  rw [decide_eq_true hc]
  exact iteF h

/-! ### heaps -/
/-- all that was tracked is as it was -/
def Same (H H' : Hp) : Prop := ∀ b o, H b = some o → H' b = some o
theorem Same.refl (H : Hp) : Same H H := fun _ _ h => h
theorem Same.trans {H H1 H2 : Hp} (a : Same H H1) (b : Same H1 H2) : Same H H2 := fun c o h => b c o (a c o h)
theorem Same.free {H H' : Hp} (e : Same H H') {l : Addr} (h : H' l = Option.none) : H l = Option.none := by
  cases q : H l with
  | none => rfl
  | some o =>
    rw [e l o q] at h
    cases h
theorem Same.seq {K : PySem.W.Frag} {H H' : Hp} {a : Addr} {xs : List V} (e : Same H H') (h : SqL K H a xs) : SqL K H' a xs := by
  rcases h with (h | ⟨o, h⟩) | h
  · exact .inl (.inl (e _ _ h))
  · exact .inl (.inr ⟨o, e _ _ h⟩)
  · exact .inr h

end L2
set_option maxHeartbeats 4000000
namespace PySem
open AutoSeq1 (wpAny_loadPart')
open Sem (wp)
/-! ### t * n of a tuple -/
theorem noFill_tuple_mul : fillsNumberSlot (.type "tuple") "mul" = pure false :=
  fillsNumberSlot_seq (id := "tuple.__mul__") (r := some (.builtin "tuple.__rmul__")) F.slot_tuple_mul.lookup (by decide +kernel) F.slot_tuple_rmul.lookup (by decide +kernel)
theorem repeat_tuple : seqRepeat? (.type "tuple") = pure (some (.builtin "tuple.__mul__")) := by
  unfold seqRepeat?
  rw [seqSlot_of (T := "tuple") (name := "__mul__") (id := "tuple.__mul__") F.slot_tuple_mul.lookup (by decide +kernel), seqSlot_of (T := "tuple") (name := "__rmul__") (id := "tuple.__rmul__") F.slot_tuple_rmul.lookup (by decide +kernel)]
  rfl
theorem int_rmul_tuple (a : Int) (t : Tok) (l : Addr) (items : Array Value) (n : Nat) (dd : Option Addr) (sl : Array (Option Value)) :
    Meets (Builtin.«int.__rmul__» ⟨[.int a t, .ref l], []⟩) (fun _ R s => s.heap.get? l = some { cls := .type "tuple", dict := dd, data := .seq items n, slots := sl } ∧ R (.ok (.ret Value.notImplemented)) s) :=
  .of_wp fun prog w A R s h => by obtain ⟨hp, g, d, tk, os⟩ := s; obtain ⟨hl, h⟩ := h; wp_walk; exact ⟨_, rfl, h⟩
theorem tuple_mul0 (l : Addr) (items : Array Value) (n : Nat) (dd : Option Addr) (sl : Array (Option Value)) (x : Int) (u : Tok) (hi : items.isEmpty = false) (h0 : -(2 ^ 63) ≤ x) (h1 : x ≤ 0) :
    Meets (Builtin.«tuple.__mul__» ⟨[.ref l, .int x u], []⟩) (fun _ R s => s.heap.get? l = some { cls := .type "tuple", dict := dd, data := .seq items n, slots := sl } ∧ R (.ok (.ret (Value.ref s.heap.objs.size))) { s with heap := s.heap.push { cls := Value.type "tuple", data := Data.seq #[] }, toks := s.toks }) :=
  .of_wp fun prog w A R s h => by
    obtain ⟨hp, g, d, tk, os⟩ := s; obtain ⟨hl, h⟩ := h
    have f1 := AutoSeq1.idx_int
    have c1 : ¬ (decide (x < -2 ^ 63) || decide (x ≥ 2 ^ 63)) = true := by simp; omega
    have c2 : ¬ (items.isEmpty || x == 1) = true := by rw [hi]; simp; omega
    have c3 : (decide (x ≤ 0) || items.isEmpty) = true := by simp [h1]
    wp_walk using wpAny_loadPart' hl
    refine wpAny_ite_split (fun hh => absurd hh c1) (fun _ => ?_)
    wp_walk using wpAny_loadPart' hl
    refine wpAny_ite_split (fun hh => absurd hh c2) (fun _ => ?_)
    wp_walk using wpAny_loadPart' hl
    exact ⟨_, rfl, h⟩
theorem tuple_mul1 (l : Addr) (items : Array Value) (n : Nat) (dd : Option Addr) (sl : Array (Option Value)) (x : Int) (u : Tok) (hx : x = 1) :
    Meets (Builtin.«tuple.__mul__» ⟨[.ref l, .int x u], []⟩) (fun _ R s => s.heap.get? l = some { cls := .type "tuple", dict := dd, data := .seq items n, slots := sl } ∧ R (.ok (.ret (Value.ref l))) s) :=
  .of_wp fun prog w A R s h => by
    obtain ⟨hp, g, d, tk, os⟩ := s; obtain ⟨hl, h⟩ := h
    have f1 := AutoSeq1.idx_int
    have c1 : ¬ (decide (x < -2 ^ 63) || decide (x ≥ 2 ^ 63)) = true := by simp; omega
    have c2 : (items.isEmpty || x == 1) = true := by simp [hx]
    wp_walk using wpAny_loadPart' hl
    exact ⟨_, rfl, h⟩
theorem tuple_mul2 (l : Addr) (items : Array Value) (n : Nat) (dd : Option Addr) (sl : Array (Option Value)) (x : Int) (u : Tok) (hi : items.isEmpty = false) (h0 : 2 ≤ x) (h1 : x < 1000) (h2 : items.size ≤ 1000) :
    Meets (Builtin.«tuple.__mul__» ⟨[.ref l, .int x u], []⟩) (fun _ R s => s.heap.get? l = some { cls := .type "tuple", dict := dd, data := .seq items n, slots := sl } ∧ R (.ok (.ret (Value.ref s.heap.objs.size))) { s with heap := s.heap.push { cls := Value.type "tuple", data := Data.seq (List.foldl (fun x1 x2 => x1 ++ x2) #[] (List.replicate x.toNat items)) }, toks := s.toks }) :=
  .of_wp fun prog w A R s h => by
    obtain ⟨hp, g, d, tk, os⟩ := s; obtain ⟨hl, h⟩ := h
    have f1 := AutoSeq1.idx_int
    have c1 : ¬ (decide (x < -2 ^ 63) || decide (x ≥ 2 ^ 63)) = true := by simp; omega
    have c2 : ¬ (items.isEmpty || x == 1) = true := by rw [hi]; simp; omega
    have c3 : ¬ (decide (x ≤ 0) || items.isEmpty) = true := by rw [hi]; simp; omega
    have hb : (items.size : Int) * x ≤ 1000000 := by
      have := Int.mul_le_mul (show (items.size : Int) ≤ 1000 by omega) (show x ≤ 1000 by omega) (by omega) (by omega)
      omega
    have c4 : ¬ (items.size : Int) * x > (2 ^ 63 - 1) / 8 := by omega
    have c5 : ¬ Builtin.Tuple.tupleTooMany (↑items.size * x) = true := by
      unfold Builtin.Tuple.tupleTooMany
      rw [sizeLine_eq]
      simp
      omega
    have hsz : (List.foldl (fun x1 x2 => x1 ++ x2) #[] (List.replicate x.toNat items)).size ≤ sizeLine := by
      rw [AutoListH.size_joined, sizeLine_eq]
      have e : ((x.toNat * items.size : Nat) : Int) = (items.size : Int) * x := by
        rw [Int.natCast_mul, Int.toNat_of_nonneg (by omega), Int.mul_comm]
      simp only [Array.size_empty, Nat.zero_add]
      omega
    wp_walk using wpAny_loadPart' hl
    refine wpAny_ite_split (fun hh => absurd hh c1) (fun _ => ?_)
    wp_walk using wpAny_loadPart' hl
    refine wpAny_ite_split (fun hh => absurd hh c2) (fun _ => ?_)
    wp_walk using wpAny_loadPart' hl
    refine wpAny_ite_split (fun hh => absurd hh c3) (fun _ => ?_)
    wp_walk using wpAny_loadPart' hl
    refine wpAny_ite_split (fun hh => absurd hh c4) (fun _ => ?_)
    wp_walk using wpAny_loadPart' hl
    all_goals first | exact ⟨_, rfl, h⟩ | (refine wpAny_ite_false (decide_eq_false (Nat.not_lt.mpr hsz)) ?_; wp_walk; exact ⟨_, rfl, h⟩)
end PySem
namespace L2
open PySem PySem.Spec PyProof.Rows
/-! ### a list comprehension of one clause without tests; no exception leaves it -/
section
variable {prog : Program} {w : World} {A : Around} {R : Result → Shared → Prop} {s : Shared}
theorem compLoop_any {elt target iter : Expr} {scope : Scope} {pos : Pos} {it acc : Value} {env : Env} (I : Nat → Shared → Prop)
    (turn : ∀ n s, I n s → wpAny (model prog w) A (pyNext it) (fun r s₁ => match r with
      | none => R (.ok .next) s₁
      | some v => wpAny (model prog w) A (letOwnedTupleGo target it v) (fun _ s₁' => wpAny (model prog w) A (assign target env v) (fun _ s₂ => wpAny (model prog w) A (eval elt env) (fun x s₃ =>
          wpAny (model prog w) A (call (.builtin "list.append") [acc, x]) (fun _ s₄ => ∃ m, m < n ∧ I m s₄) (fun _ _ => False) s₃) (fun _ _ => False) s₂) (fun _ _ => False) s₁') (fun _ _ => False) s₁) (fun _ _ => False) s)
    (n : Nat) (h : I n s) :
    codeAny (model prog w) A (.compLoop (.ListComp elt [⟨target, iter, [], 0⟩] scope pos) 0 it acc env) R s := by
  refine codeAny_loop rfl I (fun n s hI => ?_) n h
  show wpAny _ _ ((compTurn (.ListComp elt [⟨target, iter, [], 0⟩] scope pos) 0 it acc env).onRaise (fun x => do noteFrame x env; theTreesLotGoes x)) _ _ s
  refine wpAny_noted ?_
  rw [compTurn_list1]
  refine wpAny_bind (wpAny_standAt (wpAny_bind (wpAny_mono (turn n s hI) (fun r s₁ h₁ => ?_) fun _ _ h' => h'.elim)))
  cases r with
  | none => exact wpAny_pure h₁
  | some v =>
    refine wpAny_bind (wpAny_mono h₁ (fun _ s₁' h₁' => ?_) fun _ _ h' => h'.elim)
    exact wpAny_bind (wpAny_mono h₁' (fun _ s₂ h₂ => wpAny_bind (wpAny_bind (wpAny_mono h₂ (fun x s₃ h₃ => wpAny_bind (wpAny_mono h₃
      (fun _ s₄ h₄ => wpAny_pure (wpAny_pure ⟨rfl, h₄⟩)) fun _ _ h' => h'.elim)) fun _ _ h' => h'.elim))) fun _ _ h' => h'.elim)
end

theorem lookup_relabel_free {env : Env} (hk : env.scope.kind = .function) : ∀ {names : List (Str × NameKind)} {x : Str}, names.lookup x = some .free → env.kindOf x = some .cell →
    (names.map fun (n, k) => if (k == NameKind.free && env.scope.kind == .function && env.kindOf n == some .cell) then (n, NameKind.cell) else (n, k)).lookup x = some .cell
  | [], _, h, _ => by simp at h
  | (n, k) :: r, x, h, hc => by
    have ih := @lookup_relabel_free env hk r x
    show List.lookup x ((if (k == NameKind.free && env.scope.kind == .function && env.kindOf n == some .cell) = true then (n, NameKind.cell) else (n, k)) :: _) = _
    cases hx : x == n with
    | true =>
      have e : x = n := eq_of_beq hx
      subst e
      simp only [List.lookup_cons, hx] at h
      cases h
      rw [if_pos (by rw [hk, hc]; rfl)]
      simp [List.lookup_cons]
    | false =>
      simp only [List.lookup_cons, hx] at h
      by_cases hcc : (k == NameKind.free && env.scope.kind == .function && env.kindOf n == some .cell) = true
      · rw [if_pos hcc]; simp only [List.lookup_cons, hx]; exact ih h hc
      · rw [if_neg hcc]; simp only [List.lookup_cons, hx]; exact ih h hc
theorem lookup_relabel_inv {env : Env} : ∀ {names : List (Str × NameKind)} {x : Str}, ((names.map fun (n, k) => if (k == NameKind.free && env.scope.kind == .function && env.kindOf n == some .cell) then (n, NameKind.cell) else (n, k)).lookup x = some .cell ∨
    (names.map fun (n, k) => if (k == NameKind.free && env.scope.kind == .function && env.kindOf n == some .cell) then (n, NameKind.cell) else (n, k)).lookup x = some .free) → names.lookup x = some .free ∨ names.lookup x = some .cell
  | [], _, h => by simp at h
  | (n, k) :: r, x, h => by
    have ih := @lookup_relabel_inv env r x
    replace h : List.lookup x ((if (k == NameKind.free && env.scope.kind == .function && env.kindOf n == some .cell) = true then (n, NameKind.cell) else (n, k)) :: _) = _ ∨ List.lookup x ((if (k == NameKind.free && env.scope.kind == .function && env.kindOf n == some .cell) = true then (n, NameKind.cell) else (n, k)) :: _) = _ := h
    cases hx : x == n with
    | true =>
      simp only [List.lookup_cons, hx]
      by_cases hcc : (k == NameKind.free && env.scope.kind == .function && env.kindOf n == some .cell) = true
      · have : k = .free := by
          have := (Bool.and_eq_true _ _ ▸ (Bool.and_eq_true _ _ ▸ hcc).1).1
          exact eq_of_beq this
        exact .inl (by rw [this])
      · rw [if_neg hcc] at h
        simp only [List.lookup_cons, hx] at h
        rcases h with h | h
        · exact .inr h
        · exact .inl h
    | false =>
      simp only [List.lookup_cons, hx]
      by_cases hcc : (k == NameKind.free && env.scope.kind == .function && env.kindOf n == some .cell) = true
      · rw [if_pos hcc] at h; simp only [List.lookup_cons, hx] at h; exact ih h
      · rw [if_neg hcc] at h; simp only [List.lookup_cons, hx] at h; exact ih h

theorem lt_le_ne {a b c : Nat} (h1 : a < b) (h2 : b ≤ c) : a ≠ c := Nat.ne_of_lt (Nat.lt_of_lt_of_le h1 h2)
/-- the context of a comprehension's block -/
abbrev cxComp (X : Cx) (Nc : List Str) (scope : Scope) (cl : List (Str × Addr)) (C : Addr) (s2 : Shared) (H2 : Hp) (fp : List Addr) : Cx :=
  { prog := X.prog, w := X.w, K := X.K, mg := X.mg, base := X.base, A := X.A, N := Nc, s₀ := s2, H₀ := H2, env := compEnvC scope cl C X.env, outer := X.stack, stack := X.stack, ex := fp, fn := fun _ => false, calm := X.calm, pn := [], xe := fun _ _ => False }
/-- its names: own ones, then those taken from outside, each with its slot there -/
abbrev capN (own : List Str) (cap : List (Str × Nat)) : List Str := own ++ cap.map (·.1)
def capSt (no : Nat) (cap : List (Str × Nat)) (σ : St) : St := List.replicate no none ++ cap.map fun p => (σ[p.2]?).join
structure CompScope (X : Cx) (scope : Scope) (cap : List (Str × Nat)) (cl : List (Str × Addr)) : Prop where
  clos : closureFor scope X.env = pure cl
  kind : scope.kind = .function
  nocell : ∀ y ∈ scope.names, y.2 ≠ .cell
  names : ∀ y ∈ scope.names, y.2 = .local → scope.names.lookup y.1 = some .local
  sub : ∀ x c, cl.lookup x = some c → X.env.cells.lookup x = some c
  has : ∀ x, scope.names.lookup x = some .free → ∃ c, cl.lookup x = some c
  cap : ∀ p ∈ cap, X.N[p.2]? = some p.1 ∧ scope.names.lookup p.1 = some .free ∧ X.env.scope.names.lookup p.1 = some .cell

/-- a comprehension over J into the list at D -/
def CompW (J : It) (D : Addr) (g : TG) (te : TE) (Q : VK) (σ : St) (H : Hp) : Prop := ∃ W : Nat → Nat → St → Hp → Prop,
  (∃ m, W 0 m σ H) ∧ ∀ i m σc H2, W i m σc H2 →
    (J.stop i H2 ∧ Q (.ref D) H2) ∨ (J.go i H2 ∧ ∀ x H3, J.yld i H2 x H3 → g x σc H3 fun σ4 H4 => te σ4 H4 fun y H5 => ∃ ys, H5 D = some (.lst ys) ∧ ys.length < sizeLine ∧ ∃ m', m' < m ∧ W (i + 1) m' σ4 (upd H5 D (.lst (ys ++ [y]))))
def tComp (no : Nat) (cap : List (Str × Nat)) (wi : TI) (g : TG) (te : TE) : TE := fun σ H Q => wi σ H fun J H1 => ∀ D, H1 D = none → CompW J D g te Q (capSt no cap σ) (upd H1 D (.lst []))

section
variable {X : Cx} {pins : List (Addr × Obj)} {σ : St} {s2 : Shared} {H2 : Hp}
theorem capSt_get {no : Nat} {cap : List (Str × Nat)} {own : List Str} (hno : own.length = no) {i : Nat} {x : Str} {v : V} (h1 : (capN own cap)[i]? = some x) (h2 : (capSt no cap σ)[i]? = some (some v)) :
    ∃ p ∈ cap, p.1 = x ∧ σ[p.2]? = some (some v) := by
  subst hno
  unfold capSt at h2
  by_cases hi : i < own.length
  · rw [List.getElem?_append_left (by simpa using hi), List.getElem?_replicate] at h2
    rw [if_pos hi] at h2
    cases h2
  · rw [List.getElem?_append_right (by simpa using hi)] at h2
    unfold capN at h1
    rw [List.getElem?_append_right (by simpa using hi)] at h1
    rw [List.length_replicate, List.getElem?_map] at h2
    rw [List.getElem?_map] at h1
    cases e : cap[i - own.length]? with
    | none => rw [e] at h1; cases h1
    | some p =>
      rw [e] at h1 h2
      refine ⟨p, List.mem_of_getElem? e, Option.some.inj h1, ?_⟩
      have q : (σ[p.2]?).join = some v := Option.some.inj h2
      cases e2 : σ[p.2]? with
      | none => rw [e2] at q; cases q
      | some o => rw [e2] at q; exact congrArg some q

theorem comp_block {elt iter tg : Expr} {scope : Scope} {own : List Str} {cap : List (Str × Nat)} {cl : List (Str × Addr)} {pos : Pos} {J : It} {fp : List Addr} {it : Addr} {tn : Nat → Heap → Prop} {g : TG} {te : TE} {Q : VK}
    (S : CompScope X scope cap cl) (hc : X.calm = true) (I : Inv X pins σ H2 s2) (T : Turn X.prog X.w X.K tg J fp it tn) (st : tn 0 s2.heap) (hf : ∀ b ∈ fp, FpOk X pins H2 b)
    (hg : ∀ C s2 H2 fp, PG (cxComp X (capN own cap) scope cl C s2 H2 fp) tg g) (he : ∀ C s2 H2 fp, PE (cxComp X (capN own cap) scope cl C s2 H2 fp) elt te)
    (W : Nat → Nat → St → Hp → Prop) (w0 : ∃ m, W 0 m (capSt own.length cap σ) (upd H2 s2.heap.objs.size (.lst [])))
    (turn : ∀ i m σc H3, W i m σc H3 → (J.stop i H3 ∧ Q (.ref s2.heap.objs.size) H3) ∨ (J.go i H3 ∧ ∀ x H4, J.yld i H3 x H4 → g x σc H4 fun σ5 H5 => te σ5 H5 fun y H6 => ∃ ys, H6 s2.heap.objs.size = some (.lst ys) ∧ ys.length < sizeLine ∧ ∃ m', m' < m ∧ W (i + 1) m' σ5 (upd H6 s2.heap.objs.size (.lst (ys ++ [y])))))
    {RR : Value → Addr → Result → Shared → Prop}
    (hRR : ∀ C H' s' m, s2.heap.objs.size ≤ C → s'.heap.Ns C m → H' C = none → Inv X pins σ H' s' → (∀ h', Heap.SameBut C s'.heap h' → Inv X pins σ H' { s' with heap := h' }) → Q (.ref s2.heap.objs.size) H' → RR (.ref s2.heap.objs.size) C (.ok .next) s')
    {E : Value → Shared → Prop} :
    wpAny (model X.prog X.w) X.A (newList []) (fun acc s₃ => wpAny (model X.prog X.w) X.A (newFunctionEnv scope X.env.globals cl [] X.env.qual none .none (some X.env)) (fun cenv s₄ =>
      codeAny (model X.prog X.w) X.A (.compStart (.ListComp elt [⟨tg, iter, [], 0⟩] scope pos) 0 (.ref it) acc { cenv with scope := relabel scope X.env }) (RR acc cenv.locals) s₄) E s₃) E s2 := by
  refine wpAny_newObj_type (wpAny_newFunctionEnv S.nocell (by intro y hy; simp at hy) (fun h₁ hns₁ hsb₁ => ?_) S.kind)
  dsimp only at hns₁ hsb₁ ⊢
  generalize hH2 : s2.heap.push { cls := .type "list", dict := none, data := .seq ([] : List Value).toArray } = G2 at hns₁ hsb₁ ⊢
  have hC : G2.objs.size = s2.heap.objs.size + 1 := by rw [← hH2, Heap.size_push]
  have hDC : s2.heap.objs.size ≠ G2.objs.size := by rw [hC]; exact Nat.ne_of_lt (Nat.lt_succ_self _)
  have hCle : s2.heap.objs.size ≤ G2.objs.size := by rw [hC]; exact Nat.le_succ _
  have below : ∀ b, b < s2.heap.objs.size → b ≠ G2.objs.size ∧ b ≠ s2.heap.objs.size := fun b hb => ⟨by rw [hC]; exact Nat.ne_of_lt (Nat.lt_succ_of_lt hb), Nat.ne_of_lt hb⟩
  have old : ∀ b o, s2.heap.get? b = some o → h₁.get? b = some o := fun b o e => hsb₁.extBut b o (below b (Heap.lt_size e)).1 (Heap.get?_push_of_some _ (hH2 ▸ Heap.get?_push_of_some _ e))
  have hacc : h₁.get? s2.heap.objs.size = some { cls := .type "list", dict := none, data := .seq ([] : List Value).toArray } := hsb₁.extBut _ _ hDC (Heap.get?_push_of_some _ (hH2 ▸ Heap.get?_push_size _ rfl))
  have hfps : ∀ b ∈ fp, b < s2.heap.objs.size := fun b hb => by
    obtain ⟨o, e, _⟩ := T.obj _ _ st b hb
    exact Heap.lt_size e
  have hfree : ∀ b, s2.heap.objs.size ≤ b → H2 b = none := fun b hb => I.hok.fresh hb
  generalize hX : cxComp X (capN own cap) scope cl G2.objs.size s2 H2 fp = X'
  have hOk : X'.Ok := by
    subst hX
    refine ⟨I.ok.mod, S.kind, I.ok.glob, I.ok.blt, hCle, fun x y c e1 e2 => I.ok.inj x y c (S.sub x c e1) (S.sub y c e2), fun x hx => ?_, fun x c z => absurd (show false = true from z) Bool.false_ne_true, I.ok.hd, I.ok.frames, .inl rfl,
      fun b hb => ⟨(below b (hfps b hb)).1, fun x c e => (hf b hb).2.2.2.2.1 x c (S.sub x c e)⟩, I.bs, Nat.le_trans I.ok.bsz I.sz, fun b o e hb => ?_, fun b hb z => ?_, I.stack, I.stkFree⟩
    · rcases lookup_relabel_inv (env := X.env) (names := scope.names) (x := x) hx with h | h
      · exact S.has x h
      · exact absurd rfl (S.nocell _ (PySem.mem_of_lookup h))
    · rcases (hf b hb).2.2.2.1 with z | z
      · exact I.ok.noex b o e z
      · exact absurd (Nat.lt_of_lt_of_le (Heap.lt_size e) (Nat.le_trans I.ok.bsz z)) (Nat.lt_irrefl _)
    · rcases List.mem_cons.mp (I.stkSub b z) with z | z
      · exact (hf b hb).2.1 z
      · exact (hf b hb).2.2.1 z
  have hI0 : Inv X' [] (capSt own.length cap σ) (upd H2 s2.heap.objs.size (.lst [])) { s2 with heap := h₁, toks := s2.toks + ([] : List (Str × Value)).length } := by
    subst hX
    refine ⟨hOk, rfl, I.bare, Un.laid old (Nat.le_refl _) (hfree _ (Nat.le_refl _)), ⟨_, hns₁, fun i x v e1 e2 e3 => ?_⟩, fun x c e => ?_, ?_, fun x c e => ?_, fun p hp => absurd (show p ∈ ([] : List (Addr × Obj)) from hp) (by simp), ?_, ?_⟩
    · obtain ⟨p, hp, rfl, hσ⟩ := capSt_get rfl e1 e2
      obtain ⟨c1, c2, c3⟩ := S.cap p hp
      obtain ⟨m, hn, hl⟩ := I.loc
      obtain ⟨u, r, l⟩ := hl p.2 p.1 v c1 hσ (.inr (.inl c3))
      refine ⟨u, r, .inr ⟨.inl (lookup_relabel_free I.ok.kind c2 c3), ?_⟩⟩
      obtain ⟨c, hcl⟩ := S.has _ c2
      refine ⟨c, hcl, ?_⟩
      rcases l with ⟨k, _⟩ | ⟨_, c', e, z⟩
      · have k' : X.env.scope.names.lookup p.1 = some .local := k
        rw [c3] at k'; cases k'
      · have := S.sub _ _ hcl
        rw [e] at this; cases this
        obtain ⟨o, ho, hd⟩ := z
        exact ⟨o, old _ _ ho, hd⟩
    · obtain ⟨v, o, ho, hd⟩ := I.cell x c (S.sub x c e)
      exact ⟨v, o, old _ _ ho, hd⟩
    · show upd H2 s2.heap.objs.size (.lst []) G2.objs.size = none
      rw [upd_ne (Ne.symm hDC)]
      exact hfree _ hCle
    · have e' := S.sub x c e
      obtain ⟨v, o, ho, hd⟩ := I.cell x c e'
      rw [upd_ne (below c (Heap.lt_size ho)).2]
      exact I.freeC x c e'
    · exact I.hok.laid old (Nat.le_refl _) ⟨Nat.zero_le _, [], _, .nil, hacc⟩
    · show (capSt own.length cap σ).length = (capN own cap).length
      unfold capSt capN
      simp
  have hP : X'.prog = X.prog := by subst hX; rfl
  have hw : X'.w = X.w := by subst hX; rfl
  have hK : X'.K = X.K := by subst hX; rfl
  have hA : X'.A = X.A := by subst hX; rfl
  have hcalm : X'.calm = true := by subst hX; exact hc
  have hxe : X'.xe = fun _ _ => False := by subst hX; rfl
  have henv : X'.env = compEnvC scope cl G2.objs.size X.env := by subst hX; rfl
  have hbase : ∀ {σ' H' s'}, Inv X' [] σ' H' s' → Un (frs X.stack) fp H2 H' s2.heap s'.heap ∧ s'.os = s2.os := fun {σ' H' s'} J => by subst hX; exact ⟨J.base, J.os⟩
  have hg' : PG X' tg g := by subst hX; exact hg _ _ _ _
  have he' : PE X' elt te := by subst hX; exact he _ _ _ _
  have stat : ∀ {H' : Hp}, (∀ b ∈ fp, H' b = none) → ∀ b ∈ fp, FpOk X' [] H' b := fun {H'} hn b hb => by
    subst hX
    refine ⟨hn b hb, (below b (hfps b hb)).1, fun z => ?_, .inl hb, fun x c e => (hf b hb).2.2.2.2.1 x c (S.sub x c e), fun p hp => absurd (show p ∈ ([] : List (Addr × Obj)) from hp) (by simp)⟩
    rcases List.mem_cons.mp (I.stkSub b z) with z | z
    · exact (hf b hb).2.1 z
    · exact (hf b hb).2.2.1 z
  -- back to the body around
  have back : ∀ {σ' H' s'}, Inv X' [] σ' H' s' → Q (.ref s2.heap.objs.size) H' → RR (.ref s2.heap.objs.size) G2.objs.size (.ok .next) s' := fun {σ' H' s'} J q => by
    obtain ⟨u, ho⟩ := hbase J
    have hcf : ∀ b ∈ fp, (b ∈ X.ex ∨ X.s₀.heap.objs.size ≤ b) ∧ b ≠ X.env.locals ∧ (∀ x c, X.env.cells.lookup x = some c → c ≠ b) ∧ ∀ p ∈ X.pn ++ pins, p.1 ≠ b := fun b hb => by
      obtain ⟨f0, f1, f2, f3, f4, f5⟩ := hf b hb
      exact ⟨f3, f1, f4, f5⟩
    have hCn : H' G2.objs.size = none := by have := J.free; rw [henv] at this; exact this
    have hok' : HOk X.prog X.w H' s'.heap := by have := J.hok; rw [hP, hw] at this; exact this
    obtain ⟨m, hm, _⟩ := J.loc
    rw [henv] at hm
    refine hRR _ H' s' m hCle hm hCn (I.call' ho u hok' J.bare hcf) (fun h' hs => ?_) q
    have kn : ∀ b o, s2.heap.get? b = some o → h'.get? b = s'.heap.get? b := fun b o e => hs.2 b (below b (Heap.lt_size e)).1
    refine I.call' (s' := { s' with heap := h' }) ho ⟨fun b o e n hb hx => (kn b o e).trans (u.keep b o e n hb hx), fun b o e n hb hx => ?_, u.free, fun b o e hx => ?_, u.tups, u.frzs, u.tbls⟩ (fun b ob e => ?_) J.bare hcf
    · obtain ⟨sl, e1⟩ := u.slot b o e n hb hx
      exact ⟨sl, (kn b o e).trans e1⟩
    · obtain ⟨o', e1⟩ := u.there b o e hx
      exact ⟨o', (kn b o e).trans e1⟩
    · refine (hok' b ob e).stay (fun c w' hc q => (hs.2 c ?_).trans q) (fun _ q => q) fun _ _ q => q
      rintro rfl
      rcases hc with rfl | hc
      · rw [hCn] at e; cases e
      · rw [hCn] at hc; cases hc
  have loop : ∀ s₃ : Shared, s₃ = { s2 with heap := h₁, toks := s2.toks + ([] : List (Str × Value)).length } →
      codeAny (model X.prog X.w) X.A (.compLoop (.ListComp elt [⟨tg, iter, [], 0⟩] scope pos) 0 (.ref it) (.ref s2.heap.objs.size) (compEnvC scope cl G2.objs.size X.env))
        (RR (.ref s2.heap.objs.size) G2.objs.size) s₃ := by
    rintro s₃ rfl
    obtain ⟨m0, w0⟩ := w0
    refine compLoop_any (fun n s' => ∃ i σ' H', Inv X' [] σ' H' s' ∧ tn i s'.heap ∧ (∀ b ∈ fp, H' b = none) ∧ W i n σ' H') ?_ m0
      ⟨0, _, _, hI0, T.keep _ _ _ st fun b hb o e => old b o e, fun b hb => ?_, w0⟩
    · rintro n s3 ⟨i, σ3, H3, I3, st3, fr3, w3⟩
      rcases turn i n σ3 H3 w3 with ⟨stop, qn⟩ | ⟨go, step⟩
      · have d := T.done X' hP hw hK hcalm i [] s3 σ3 H3 (fun _ _ => False) I3 (stat fr3) st3 stop
        rw [hA] at d
        refine thn d fun r s4 ⟨hr, I4⟩ => ?_
        subst hr
        exact back I4 qn
      · have d := T.item X' hP hw hK hcalm i [] s3 σ3 H3 (fun _ _ => False) I3 (stat fr3) st3 go
        rw [hA] at d
        refine thn d fun r s4 ⟨u, hr, h4⟩ => ?_
        subst hr
        refine thn h4 fun _ s5 ⟨x, H5, I5, r5, y5, st5, fr5⟩ => ?_
        have I5' := I5.pinned (stat fr5) (T.obj _ _ st5)
        have d2 := hg' _ s5 σ3 H5 x u _ I5' r5 (step x H5 y5)
        rw [hP, hw, hA, hxe, henv] at d2
        refine thn d2 fun _ s6 ⟨σ6, H6, I6, q6⟩ => ?_
        have d3 := he' _ s6 σ6 H6 _ I6 q6
        rw [hP, hw, hA, hxe, henv] at d3
        refine thn d3 fun y7 s7 ⟨v7, H7, I7, r7, ys, e7, l7, m', hm, w7⟩ => ?_
        have d4 := mt_append (X := X') _ s7 σ6 H7 (.ref s2.heap.objs.size) [v7] (.ref s2.heap.objs.size) [y7] (fun _ H8 => W (i + 1) m' σ6 H8) I7 rfl (.cons r7 .nil) ⟨_, ys, v7, rfl, rfl, e7, l7, w7⟩
        rw [hP, hw, hA, hxe] at d4
        refine thn d4 fun _ s8 ⟨v8, H8, I8, _, w8⟩ => ?_
        refine ⟨m', hm, i + 1, σ6, H8, I8.unpinned, T.keep _ _ _ st5 fun b hb o e => (I8.pin (b, o) (List.mem_append_right _ (List.mem_append_right _ (mem_pinsAt hb e)))).1, fun b hb => ?_, w8⟩
        obtain ⟨o, e, d⟩ := T.obj _ _ st5 b hb
        exact (I8.pin (b, o) (List.mem_append_right _ (List.mem_append_right _ (mem_pinsAt hb e)))).2.1
    · rw [upd_ne (below b (hfps b hb)).2]
      exact (hf b hb).1
  exact codeAny_compStart_list (loop _ rfl) (T.self _ 0 _ _ _ (T.keep _ _ _ st fun b hb o e => old b o e) (loop _ rfl))

/-- [elt for tg in iter] -/
theorem pe_comp {elt iter tg : Expr} {scope : Scope} {own : List Str} {cap : List (Str × Nat)} {cl : List (Str × Addr)} {pos : Pos} {wi : TI} {g : TG} {te : TE}
    (S : CompScope X scope cap cl) (hc : X.calm = true) (hi : PI X tg iter wi)
    (hg : ∀ C s2 H2 fp, PG (cxComp X (capN own cap) scope cl C s2 H2 fp) tg g) (he : ∀ C s2 H2 fp, PE (cxComp X (capN own cap) scope cl C s2 H2 fp) elt te)
    (hs : ∀ x, foldedSetIterable iter X.env x = pure x := by intro _; rfl) : PE X (.ListComp elt [⟨tg, iter, [], 0⟩] scope pos) (tComp own.length cap wi g te) := by
  intro pins s σ H Q I h
  rw [eval_ListComp]
  refine wpAny_comprehension_free (use := none) rfl hs S.clos S.kind S.names (thn (hi pins s σ H _ I h) fun v s1 h1 => thn h1 fun itv s2 h2 => ?_)
  obtain ⟨it, fp, tn, J, H2, e, I2, T, st2, f2, rd⟩ := h2
  subst e
  obtain ⟨W, w0, turn⟩ := rd _ (I2.hok.fresh (Nat.le_refl _))
  exact comp_block (RR := fun acc C => compPost (model X.prog X.w) X.A X.xe none (EP X pins σ Q) acc C) S hc I2 T st2 f2 hg he W w0 turn
    fun C H' s' m _ hm _ _ hback q => ⟨m, hm, fun h' hs' => ⟨.ref s2.heap.objs.size, H', hback h' hs', rfl, q⟩⟩
/-- name = [elt for tg in iter], the name a plain local one that the block doesn't have -/
theorem ps_setComp {i : Nat} {x : Str} {elt iter tg : Expr} {scope : Scope} {own : List Str} {cap : List (Str × Nat)} {cl : List (Str × Addr)} {pos spos py : Pos} {wi : TI} {g : TG} {te : TE}
    (hN : X.N.Nodup) (hi' : X.N[i]? = some x) (hx : Loc X.env.scope x) (S : CompScope X scope cap cl) (hc : X.calm = true) (hi : PI X tg iter wi)
    (hg : ∀ C s2 H2 fp, PG (cxComp X (capN own cap) scope cl C s2 H2 fp) tg g) (he : ∀ C s2 H2 fp, PE (cxComp X (capN own cap) scope cl C s2 H2 fp) elt te)
    (hsw : swapsWith (.ListComp elt [⟨tg, iter, [], 0⟩] scope pos) (some (.Name x py)) spos.line X.env = pure true := by rfl)
    (hs : ∀ x, foldedSetIterable iter X.env x = pure x := by intro _; rfl) (hf : X.fn x = true ∨ X.env.scope.names.lookup x = some .local := by first | exact .inl rfl | exact .inr rfl | assumption) :
    PS X (.Assign [.Name x py] (.ListComp elt [⟨tg, iter, [], 0⟩] scope pos) spos) (tAsg (tComp own.length cap wi g te) (gName i)) := by
  intro pins s σ H D I h
  rw [exec_Assign_Name_used _ _ _ _ hsw]
  refine wpAny_bind (wpAny_standAt (wpAny_bind ?_))
  show wpAny _ X.A (do let _ ← comprehension (.ListComp elt [⟨tg, iter, [], 0⟩] scope pos) scope X.env _ (newList []) false (eval iter X.env) (some (assign (.Name x py) X.env))) _ _ s
  refine wpAny_bind (wpAny_mono (wpAny_comprehension_free (use := some (assign (.Name x py) X.env)) (Q := fun _ s' => SP X pins D .next s') rfl hs S.clos S.kind S.names
    (thn (hi pins s σ H _ I h) fun v s1 h1 => thn h1 fun itv s2 h2 => ?_)) (fun _ s' hq => wpAny_pure (wpAny_pure hq)) fun _ _ e => e)
  obtain ⟨it, fp, tn, J, H2, e, I2, T, st2, f2, rd⟩ := h2
  subst e
  obtain ⟨W, w0, turn⟩ := rd _ (I2.hok.fresh (Nat.le_refl _))
  refine comp_block (Q := fun x H1 => gName i x σ H1 D.nx) (RR := fun acc C => compPost (model X.prog X.w) X.A X.xe (some (assign (.Name x py) X.env)) (fun _ s' => SP X pins D .next s') acc C) S hc I2 T st2 f2 hg he W w0 turn
    fun C H' s' m hCle hm hCn I' hback q => ?_
  refine wpAny_assign_Name (store_ok2 (v := .ref s2.heap.objs.size) I' hN hi' hx rfl (fun s'' I'' ⟨a, hsa, ha⟩ => ?_) hf)
  have hCa : C ≠ a := by
    rcases ha with z | z
    · rw [z]
      exact Ne.symm (lt_le_ne I2.lt hCle)
    · obtain ⟨v, q'⟩ := I2.cell x a z
      exact Ne.symm (lt_le_ne q'.lt hCle)
  refine ⟨m, hm.sameBut hsa hCa, fun h' hs' => ⟨_, H', ?_, q⟩⟩
  -- only the block's own names change
  have hC0 : X.s₀.heap.objs.size ≤ C := Nat.le_trans I2.sz hCle
  have hnp : ∀ p ∈ X.pn ++ pins, p.1 ≠ C := fun p hp => lt_le_ne (Heap.lt_size (I2.pin p hp).1) hCle
  have hcl : ∀ y c, X.env.cells.lookup y = some c → c ≠ C := fun y c e => by
    obtain ⟨v, q'⟩ := I2.cell y c e
    exact lt_le_ne q'.lt hCle
  have hL : C ≠ X.env.locals := Ne.symm (lt_le_ne I2.lt hCle)
  exact I''.turned (t' := s''.toks) (it := C) (fun b o hb e => (hs'.2 b hb).trans e) hCn hL (.inr hC0) hcl hnp
end
/-! ### enumerate of a list, walked by pairs -/
def Ite (K : PySem.W.Frag) (a : Addr) : It :=
  ⟨fun i H => ∃ xs x, SqL K H a xs ∧ xs[i]? = some x, fun i H y H' => ∃ p x, H p = none ∧ y = .ref p ∧ H' = upd H p (.tup [.int i, x]) ∧ ∀ xs, SqL K H a xs → xs[i]? = some x, fun i H => ∃ xs, SqL K H a xs ∧ xs.length ≤ i⟩
theorem turn_enum {P : Program} {w : World} {K : PySem.W.Frag} {es : List Expr} {k : Nat} {pos : Pos} (a e it : Addr) (hei : e ≠ it) :
    Turn P w K (.Tuple es k pos) (Ite K a) [e, it] e (fun i h => (∃ old, IsEnum h e it ((i : Nat) : Int) old) ∧ h.IsListIter it a i) where
  mem := by simp
  obj := fun i h st b hb => by
    obtain ⟨⟨old, he⟩, ⟨o, e1, c, d⟩⟩ := st
    rcases List.mem_cons.mp hb with rfl | hb
    · exact ⟨_, he, fun v z => by
        have z' : Data.fields _ = Data.cell v := z
        cases z'⟩
    · have e2 : b = it := by simpa using hb
      subst e2
      exact ⟨o, e1, fun v z => by rw [d] at z; cases z⟩
  keep := fun i h h' st k => by
    obtain ⟨⟨old, he⟩, hit⟩ := st
    exact ⟨⟨old, k e (by simp) _ he⟩, hit.at fun o e' => k it (by simp) o e'⟩
  item := by
    intro X hP hw hK hc i pins s σ H E I hf st hg
    subst hP hw hK
    obtain ⟨⟨old, he⟩, hit⟩ := st
    obtain ⟨xs, x, hq, hx⟩ := hg
    obtain ⟨its, rv, p, hz⟩ := I.list hq
    obtain ⟨u, hu, ru⟩ := rv.get hx
    refine wpAny_pyNext_enum_item he hit p.isList (x := u) (by simpa using hu) hei fun h' heo hit' ht hz' hk => ?_
    refine ⟨_, rfl, wpAny_letOwnedTupleGo_enum heo fun h'' he'' hs'' => ?_⟩
    have hT : H s.heap.objs.size = none := I.hok.fresh (Nat.le_refl _)
    have heT : e ≠ s.heap.objs.size := Nat.ne_of_lt (Heap.lt_size he)
    have hfe := hf e (by simp)
    have hfi := hf it (by simp)
    have keep : ∀ b o, b ≠ e → b ≠ it → s.heap.get? b = some o → h''.get? b = some o := fun b o h1 h2 h3 => (hs''.2 b h1).trans (hk b o h1 h2 h3)
    have keepc : ∀ b o, b ∉ [e, it] → s.heap.get? b = some o → h''.get? b = some o := fun b o h1 h3 => keep b o (fun z => h1 (by simp [z])) (fun z => h1 (by simp [z])) h3
    have tup := (hs''.2 _ (Ne.symm heT)).trans ht
    have nf : ∀ b u, H b = some u → b ≠ e ∧ b ≠ it := fun b u q => ⟨fun z => (by rw [z, hfe.1] at q; cases q), fun z => (by rw [z, hfi.1] at q; cases q)⟩
    have nT : ∀ b u, H b = some u → b ≠ s.heap.objs.size := fun b u q => ne_of_none q hT
    have iti : it ≠ s.heap.objs.size := by obtain ⟨o, e1, _⟩ := hit; exact Nat.ne_of_lt (Heap.lt_size e1)
    refine ⟨.ref s.heap.objs.size, upd H s.heap.objs.size (.tup [.int i, x]), ?_, rfl, ⟨_, x, hT, rfl, rfl, fun ys hy => by rw [I.list_inj hy hq]; exact hx⟩, ⟨⟨_, he''⟩, ?_⟩, fun b hb => ?_⟩
    · show Inv X pins σ (upd H s.heap.objs.size (.tup [.int i, x])) { s with heap := h'', gens := s.gens, drawn := s.drawn, toks := s.toks + 1 }
      refine Inv.step (s := s) (h' := h'') (t' := s.toks + 1) (g' := s.gens) (d' := s.drawn) (ch := [e, it]) I (fun b hb => ?_) (fun b o _ _ hc' q _ => keepc b o hc' q) (fun b o _ _ hc' q _ => ⟨o.slots, keepc b o hc' q⟩) (fun b o _ q n => by rw [upd_ne (Nat.ne_of_lt (Heap.lt_size q))]; exact n)
        (fun b o hc' q => ⟨o, keepc b o hc' q⟩) (fun b ys q => by rw [upd_ne (nT b _ q)]; exact q) (fun b o' ys q => by rw [upd_ne (nT b _ q)]; exact q) (fun b ps q => ⟨#[], by rw [upd_ne (nT b _ q), q]; simp⟩) (fun m hm => ?_) (fun b ob q => ?_) I.bare
      · rcases List.mem_cons.mp hb with rfl | hb
        · exact ⟨hfe.2.2.2.1, hfe.2.1, hfe.2.2.2.2.1, hfe.2.2.2.2.2⟩
        · have e2 : b = it := by simpa using hb
          subst e2
          exact ⟨hfi.2.2.2.1, hfi.2.1, hfi.2.2.2.2.1, hfi.2.2.2.2.2⟩
      · obtain ⟨o, es, ep, ho, r⟩ := hm
        exact ⟨o, es, ep, keep _ o (Ne.symm hfe.2.1) (Ne.symm hfi.2.1) ho, r⟩
      · by_cases hb : b = s.heap.objs.size
        · subst hb
          rw [upd_same] at q
          cases q
          exact ⟨show 2 ≤ sizeLine by decide, [.int i s.toks, u], .cons ⟨_, rfl⟩ (.cons ru .nil), ⟨_, tup, rfl, _, rfl⟩⟩
        · rw [upd_ne hb] at q
          refine (I.hok b ob q).stay (fun c w' hc' q' => ?_) (fun c q' => by rw [upd_ne (nT c _ q')]; exact q') (fun c ys q' => by rw [upd_ne (nT c _ q')]; exact q')
          have hne : c ≠ e ∧ c ≠ it := by
            rcases hc' with rfl | hc'
            · exact nf _ _ q
            · exact nf _ _ hc'
          exact keep c w' hne.1 hne.2 q'
    · exact hit'.at fun o e' => (hs''.2 it (Ne.symm hei)).trans e'
    · rcases List.mem_cons.mp hb with rfl | hb
      · rw [upd_ne heT]; exact hfe.1
      · have e2 : b = it := by simpa using hb
        subst e2
        rw [upd_ne iti]; exact hfi.1
  done := by
    intro X hP hw hK hc i pins s σ H E I hf st hg
    subst hP hw hK
    obtain ⟨⟨old, he⟩, hit⟩ := st
    obtain ⟨xs, hq, hx⟩ := hg
    obtain ⟨its, rv, p, hz⟩ := I.list hq
    obtain ⟨f0, f1, f2, f3, f4, f5⟩ := hf it (by simp)
    have hl := rv.length
    exact wpAny_pyNext_enum_end (I.ok.hd hc) he hit p.isList (by simp; omega) fun h' eb => ⟨rfl, I.turned (t' := s.toks) (fun b o hb q => eb b o hb q) f0 f1 f3 f4 f5⟩
  self := fun _ _ _ _ _ st h => by
    obtain ⟨⟨old, he⟩, hit⟩ := st
    exact wpAny_pyIter_enum he h
section
variable {X : Cx}
def iEnum (K : PySem.W.Frag) (ta : TA) : TI := fun σ H R => ta σ H fun vs H1 => ∃ a, vs = [.ref a] ∧ (∃ xs, SqL K H1 a xs) ∧ R (Ite K a) H1
theorem pi_enum {es : List Expr} {k : Nat} {pos' : Pos} {a : Expr} {ta : TA} {p pos : Pos} (hg : Gl X "enumerate") (hm : X.mg "enumerate" = none) (ha : PA X [a] ta) (hs : starEach [a] X.env = [(false, eval a X.env)] := by rfl) :
    PI X (.Tuple es k pos') (.Call (.Name "enumerate" p) [a] [] pos) (iEnum X.K ta) := by
  intro pins s σ H R I h
  refine Call_ (ld_blt I hg hm boot_enumerate (PyProof.Rows.callWith_type1 (thn (ha pos pins s σ H _ I h) fun us s1 ⟨vs, H1, I1, r1, q1⟩ => ?_) hs rfl))
  obtain ⟨l, e, ⟨xs, hq⟩, q⟩ := q1
  subst e
  cases r1 with
  | cons r rr =>
    cases rr
    cases r
    obtain ⟨its, rv, pl, hz⟩ := I1.list hq
    refine call_enumerate_list pl.isList fun h' he hit hz' hk => wpAny_pyIter_enum he ?_
    have I2 : Inv X pins σ H1 { s1 with heap := h' } := I1.kept (t' := s1.toks) fun b o e => hk b o e
    have hne : s1.heap.objs.size + 1 ≠ s1.heap.objs.size := Nat.succ_ne_self _
    refine ⟨s1.heap.objs.size + 1, [s1.heap.objs.size + 1, s1.heap.objs.size], _, _, H1, rfl, I2, turn_enum l _ _ hne, ⟨⟨_, he⟩, hit⟩, fun b hb => ?_, q⟩
    rcases List.mem_cons.mp hb with rfl | hb
    · exact I1.fpOk (Nat.le_succ _) (I1.hok.fresh (Nat.le_succ _))
    · have e2 : b = s1.heap.objs.size := by simpa using hb
      subst e2
      exact I1.fpOk (Nat.le_refl _) (I1.hok.fresh (Nat.le_refl _))
end
/-- (a, b) = a pair -/
abbrev gPair (K : PySem.W.Frag) (ni nx : Nat) : TG := gTup K 2 (gCons (gName ni) (gCons (gName nx) gNil))
/-- over enumerate of a list that the body leaves as it is -/
theorem for_enum {K : PySem.W.Frag} {a : Addr} {xs : List V} {ni nx : Nat} {tb : TS} {D : Ends} {σ : St} {H : Hp} (Pv : Nat → St → Hp → Prop) (h0 : Pv 0 σ H) (hl : ∀ i σ H, i ≤ xs.length → Pv i σ H → SqL K H a xs)
    (hs : ∀ i x σ H p, xs[i]? = some x → Pv i σ H → H p = none → tb { D with nx := Pv (i + 1), ct := Pv (i + 1), bk := D.nx } ((σ.set ni (some (.int i))).set nx (some x)) (upd H p (.tup [.int i, x]))) (hd : ∀ σ H, Pv xs.length σ H → D.nx σ H) :
    ∃ W : Nat → Nat → St → Hp → Prop, (∃ m, W 0 m σ H) ∧ ∀ i m σ H, W i m σ H →
      ((Ite K a).stop i H ∧ D.nx σ H) ∨ ((Ite K a).go i H ∧ ∃ N : St → Hp → Prop, (∀ σ' H', N σ' H' → ∃ m', m' < m ∧ W (i + 1) m' σ' H') ∧ ∀ x H', (Ite K a).yld i H x H' → gPair K ni nx x σ H' fun σ2 H2 => tb { D with nx := N, ct := N, bk := D.nx } σ2 H2) := by
  refine ⟨fun i m σ H => m = xs.length - i ∧ i ≤ xs.length ∧ Pv i σ H, ⟨xs.length, by simp, Nat.zero_le _, h0⟩, ?_⟩
  rintro i m σ H ⟨rfl, hi, p⟩
  have q := hl i σ H hi p
  by_cases hlt : i < xs.length
  · refine .inr ⟨⟨xs, xs[i], q, by simp [hlt]⟩, Pv (i + 1), fun σ' H' p' => ⟨xs.length - (i + 1), by omega, rfl, hlt, p'⟩, fun y H' yl => ?_⟩
    obtain ⟨pp, x, hn, rfl, rfl, hx⟩ := yl
    exact ⟨pp, [.int i, x], rfl, SqT.of upd_same, rfl, _, _, rfl, _, _, rfl, rfl, hs i x σ _ pp (hx xs q) p hn⟩
  · have e : i = xs.length := by omega
    subst e
    exact .inl ⟨⟨xs, q, Nat.le_refl _⟩, hd σ H p⟩
/-! ### isinstance(x, T), T a built-in type -/
section
variable {X : Cx}
theorem call_isinst : CallR X (.builtin "isinstance") (fun xs H Q => ∃ x n t b, xs = [x, .ty n] ∧ TyOf X.K H x t ∧ PySem.W.kitOne X.K t (.type n) = some b ∧ Q (.bl b) H) := by
  intro pins s σ H xs us Q I r h
  obtain ⟨x, n, t, b, rfl, ty, e, q⟩ := h
  obtain ⟨u, w', rfl, ru, rw'⟩ := vals2 r
  cases rw'
  exact isinst_ok I ru ty e fun tk => ⟨.bl b, H, I.tok tk, rfl, q⟩
/-- () + t is t -/
theorem op_catT0 : OpR X (binaryOp .Add) (fun x y H Q => ∃ a b ys, x = .ref a ∧ y = .ref b ∧ SqT X.K H a [] ∧ SqT X.K H b ys ∧ Q (.ref b) H) := by
  intro pins s σ H x y v u Q I rx ry h
  obtain ⟨a, b, ys, rfl, rfl, ha, hb, q⟩ := h
  cases rx
  cases ry
  obtain ⟨its, r1, p1, _⟩ := I.tuple ha
  obtain ⟨its2, r2, p2, _⟩ := I.tuple hb
  cases r1
  obtain ⟨⟨cls, dd, data, sl⟩, ho, hc, n, hd⟩ := id p1
  obtain ⟨⟨cls2, dd2, data2, sl2⟩, ho2, hc2, n2, hd2⟩ := id p2
  simp only at hc hd hc2 hd2
  subst hc hd hc2 hd2
  exact concat_meets ⟨_, ho, rfl⟩ ⟨_, ho2, rfl⟩ noFill_tuple_add seq_tuple_add PySem.F.slot_tuple_add PySem.F.entry_tuple_add (PySem.F.args_tuple_add_2 _ _)
      (tuple_addW0 a b _ _ n n2 dd dd2 sl sl2 (by simp)) ⟨ho, ho2, ⟨.ref b, H, I, rfl, q⟩⟩
/-- t * n, n from 0 to below 1000 -/
theorem op_repT : OpR X (binaryOp .Mult) (fun x y H Q => ∃ l k xs, x = .ref l ∧ y = .int k ∧ SqT X.K H l xs ∧ xs ≠ [] ∧ 0 ≤ k ∧ k < 1000 ∧ xs.length ≤ 1000 ∧
    (k = 1 → Q (.ref l) H) ∧ (k ≠ 1 → ∀ p, H p = none → Q (.ref p) (upd H p (.tup (List.replicate k.toNat xs).flatten)))) := by
  intro pins s σ H x y v u Q I rx ry h
  obtain ⟨l, k, xs, rfl, rfl, ha, hx, h0, h1, hz, q1, q2⟩ := h
  cases rx
  obtain ⟨t, rfl⟩ := ry
  obtain ⟨its, r, p, _⟩ := I.tuple ha
  obtain ⟨⟨cls, dd, data, sl⟩, ho, hc, n, hd⟩ := id p
  simp only at hc hd
  subst hc hd
  have hl := r.length
  have hne : its.toArray.isEmpty = false := by
    cases its with
    | nil => cases r; exact absurd rfl hx
    | cons a b => simp
  refine wpAny_binaryOp_repeat_ref (T := "tuple") (U := "int") (by decide) ⟨_, ho, rfl⟩ (fun s' => typeIs_int s' k t) noFill_tuple_mul F.fills_int_mul F.slot_int_rmul repeat_tuple F.slot_int_index.lookup
    (call_meets F.slot_int_rmul (typeIs_int s k t) F.entry_int_rmul (F.args_int_rmul_2 _ _) (int_rmul_tuple k t l its.toArray n dd sl) ⟨ho, rfl, ⟨_, ho, rfl⟩, ?_⟩)
  by_cases hk1 : k = 1
  · exact call_meets F.slot_tuple_mul ⟨_, ho, rfl⟩ F.entry_tuple_mul (F.args_tuple_mul_2 _ _) (tuple_mul1 l its.toArray n dd sl k t hk1) ⟨ho, ⟨.ref l, H, I, rfl, q1 hk1⟩⟩
  · by_cases hk0 : k = 0
    · subst hk0
      refine call_meets F.slot_tuple_mul ⟨_, ho, rfl⟩ F.entry_tuple_mul (F.args_tuple_mul_2 _ _) (tuple_mul0 l its.toArray n dd sl 0 t hne (by decide) (by decide)) ⟨ho, ?_⟩
      exact ⟨.ref s.heap.objs.size, _, I.laid (t' := s.toks) (o := .tup []) (fun b ob q => Heap.get?_push_of_some _ q) (Nat.le_refl _) ⟨Nat.zero_le _, [], .nil, IsTup.new _ _⟩, rfl, q2 hk1 _ (I.hok.fresh (Nat.le_refl _))⟩
    · refine call_meets F.slot_tuple_mul ⟨_, ho, rfl⟩ F.entry_tuple_mul (F.args_tuple_mul_2 _ _) (tuple_mul2 l its.toArray n dd sl k t hne (by omega) h1 (by rw [List.size_toArray, ← hl]; exact hz)) ⟨ho, ?_⟩
      have f0 : List.foldl (fun x1 x2 => x1 ++ x2) #[] (List.replicate k.toNat its.toArray) = (List.replicate k.toNat its).flatten.toArray := by
        have := foldl_rep its k.toNat []
        rw [List.nil_append] at this
        exact this
      rw [f0]
      refine ⟨.ref s.heap.objs.size, _, I.laid (t' := s.toks) (o := .tup (List.replicate k.toNat xs).flatten) (fun b ob q => Heap.get?_push_of_some _ q) (Nat.le_refl _) ⟨?_, _, r.rep k.toNat, IsTup.new _ _⟩, rfl, q2 hk1 _ (I.hok.fresh (Nat.le_refl _))⟩
      rw [len_rep]
      have h2 : (1000000 : Nat) ≤ sizeLine := by decide
      have h3 : k.toNat * xs.length ≤ 1000 * 1000 := Nat.mul_le_mul (by omega) hz
      omega
end
/-! ### == and != of tuples and lists whose items are flat or tuples of flat ones -/
def eqVs : List V → List V → Bool
  | [], [] => true
  | x :: l, y :: m => eqV x y && eqVs l m
  | _, _ => false
theorem eqV_refl {x : V} (h : flatV x = true) : eqV x x = true := by
  cases x <;> first | rfl | exact beq_self_eq_true _ | (exact absurd (show false = true from h) Bool.false_ne_true)
theorem eqVs_refl : ∀ {l : List V}, l.all flatV = true → eqVs l l = true
  | [], _ => rfl
  | x :: l, h => by
    rw [List.all_cons, Bool.and_eq_true] at h
    show (eqV x x && eqVs l l) = true
    rw [eqV_refl h.1, eqVs_refl h.2]
    rfl
theorem all_range_succ (e : Nat → Bool) (n : Nat) : (List.range (n + 1)).all e = (e 0 && (List.range n).all fun j => e (j + 1)) := by
  rw [List.range_succ_eq_map, List.all_cons, List.all_map]
  rfl
theorem eqVs_range : ∀ (l m : List V) (e : Nat → Bool), (∀ j (h1 : j < l.length) (h2 : j < m.length), e j = eqV l[j] m[j]) →
    ((List.range (min l.length m.length)).all e && l.length == m.length) = eqVs l m
  | [], [], _, _ => rfl
  | [], _ :: _, _, _ => by simp [eqVs]
  | _ :: _, [], _, _ => by simp [eqVs]
  | x :: l, y :: m, e, h => by
    have ih := eqVs_range l m (fun j => e (j + 1)) fun j h1 h2 => h (j + 1) (by simpa using h1) (by simpa using h2)
    have h0 := h 0 (by simp) (by simp)
    have hmin : min (x :: l).length (y :: m).length = min l.length m.length + 1 := by
      rw [List.length_cons, List.length_cons]
      omega
    rw [hmin, all_range_succ, h0]
    show (eqV x y && _ && (l.length + 1 == m.length + 1)) = (eqV x y && eqVs l m)
    rw [← ih, Bool.and_assoc]
    congr 2
    rw [Bool.eq_iff_iff]
    simp
inductive F1 where
  | fl (x : V)
  | tp (l : List V)
def Den1 (K : PySem.W.Frag) (H : Hp) (v : V) : F1 → Prop
  | .fl x => v = x ∧ flatV x = true
  | .tp l => ∃ a, v = .ref a ∧ SqT K H a l ∧ l.all flatV = true
def F1.eq : F1 → F1 → Bool
  | .fl x, .fl y => eqV x y
  | .tp l, .tp m => eqVs l m
  | _, _ => false
def eqFs : List F1 → List F1 → Bool
  | [], [] => true
  | x :: l, y :: m => x.eq y && eqFs l m
  | _, _ => false
theorem eqFs_range : ∀ (l m : List F1) (e : Nat → Bool), (∀ j (h1 : j < l.length) (h2 : j < m.length), e j = l[j].eq m[j]) →
    ((List.range (min l.length m.length)).all e && l.length == m.length) = eqFs l m
  | [], [], _, _ => rfl
  | [], _ :: _, _, _ => by simp [eqFs]
  | _ :: _, [], _, _ => by simp [eqFs]
  | x :: l, y :: m, e, h => by
    have ih := eqFs_range l m (fun j => e (j + 1)) fun j h1 h2 => h (j + 1) (by simpa using h1) (by simpa using h2)
    have h0 := h 0 (by simp) (by simp)
    have hmin : min (x :: l).length (y :: m).length = min l.length m.length + 1 := by
      rw [List.length_cons, List.length_cons]
      omega
    rw [hmin, all_range_succ, h0]
    show (x.eq y && _ && (l.length + 1 == m.length + 1)) = (x.eq y && eqFs l m)
    rw [← ih, Bool.and_assoc]
    congr 2
    rw [Bool.eq_iff_iff]
    simp
theorem Paired.at {α β : Type} {F : α → β → Prop} : ∀ {l₁ : List α} {l₂ : List β}, Paired F l₁ l₂ → ∀ j (h1 : j < l₁.length) (h2 : j < l₂.length), F l₁[j] l₂[j]
  | _, _, .nil, j, h1, _ => absurd h1 (Nat.not_lt_zero j)
  | _, _, .cons h _, 0, _, _ => h
  | _, _, .cons _ t, j + 1, h1, h2 => Paired.at t j (by simpa using h1) (by simpa using h2)
section
variable {X : Cx} {pins : List (Addr × Obj)} {σ : St} {H : Hp} {s : Shared} {A : Around}
theorem eqAt_tup {a b : Addr} {l m : List V} (I : Inv X pins σ H s) (ha : SqT X.K H a l) (hb : SqT X.K H b m) (fl : l.all flatV = true) (fm : m.all flatV = true) (hu : A.units < cLine) : SeqAt.EqAt A s (.ref a) (.ref b) (eqVs l m) := by
  by_cases hab : a = b
  · subst hab
    rw [I.tuple_inj hb ha, eqVs_refl fl]
    exact SeqAt.EqAt.same _
  · obtain ⟨its, r1, p1, _⟩ := I.tuple ha
    obtain ⟨its2, r2, p2, _⟩ := I.tuple hb
    have h1 := r1.length
    have h2 := r2.length
    have key := SeqAt.RcAt.tuples (A := A) (s := s) (l := a) (b := b) (items := its.toArray) (items2 := its2.toArray) (e := fun j => eqV (l.getD j .non) (m.getD j .non)) p1 p2 hu fun j g1 g2 => by
      have g1' : j < l.length := by rw [h1]; simpa using g1
      have g2' : j < m.length := by rw [h2]; simpa using g2
      have e1 : l.getD j .non = l[j] := by simp [g1']
      have e2 : m.getD j .non = m[j] := by simp [g2']
      rw [e1, e2]
      have w1 := Paired.at r1 j g1' (by simpa using g1)
      have w2 := Paired.at r2 j g2' (by simpa using g2)
      exact eqAt_V (by simpa using w1) (by simpa using w2) (List.all_eq_true.mp fl _ (List.getElem_mem g1')) (List.all_eq_true.mp fm _ (List.getElem_mem g2'))
    have e3 : ((List.range (min its.toArray.size its2.toArray.size)).all (fun j => eqV (l.getD j .non) (m.getD j .non)) && its.toArray.size == its2.toArray.size) = eqVs l m := by
      rw [List.size_toArray, List.size_toArray, ← h1, ← h2]
      exact eqVs_range l m _ fun j g1 g2 => by simp [g1, g2]
    rw [e3] at key
    exact SeqAt.EqAt.of_refs hab key
theorem eqAt_1 {v v' : V} {u u' : Value} {f f' : F1} (I : Inv X pins σ H s) (r : RelV v u) (r' : RelV v' u') (d : Den1 X.K H v f) (d' : Den1 X.K H v' f') (hu : A.units < cLine) : SeqAt.EqAt A s u u' (f.eq f') := by
  cases f with
  | fl x =>
    obtain ⟨rfl, fx⟩ := d
    cases f' with
    | fl y =>
      obtain ⟨rfl, fy⟩ := d'
      exact eqAt_V r r' fx fy
    | tp m =>
      obtain ⟨b, rfl, hb, fm⟩ := d'
      cases r'
      obtain ⟨its2, r2, p2, _⟩ := I.tuple hb
      cases v with
      | non => cases r; exact SeqAt.EqAt.none_tuple p2 hu
      | bl c => cases r; exact SeqAt.EqAt.bool_tuple c p2 hu
      | int c => obtain ⟨t, rfl⟩ := r; exact SeqAt.EqAt.int_tuple c t p2 hu
      | str c => obtain ⟨t, rfl⟩ := r; exact SeqAt.EqAt.str_tuple c t p2 hu
      | _ => exact absurd (show false = true from fx) Bool.false_ne_true
  | tp l =>
    obtain ⟨a, rfl, ha, fl⟩ := d
    cases r
    cases f' with
    | fl y =>
      obtain ⟨rfl, fy⟩ := d'
      obtain ⟨its, r1, p1, _⟩ := I.tuple ha
      cases v' with
      | non => cases r'; exact SeqAt.EqAt.tuple_none p1 hu
      | bl c => cases r'; exact SeqAt.EqAt.tuple_bool c p1 hu
      | int c => obtain ⟨t, rfl⟩ := r'; exact SeqAt.EqAt.tuple_int c t p1 hu
      | str c => obtain ⟨t, rfl⟩ := r'; exact SeqAt.EqAt.tuple_str c t p1 hu
      | _ => exact absurd (show false = true from fy) Bool.false_ne_true
    | tp m =>
      obtain ⟨b, rfl, hb, fm⟩ := d'
      cases r'
      exact eqAt_tup I ha hb fl fm hu
abbrev Den1s (K : PySem.W.Frag) (H : Hp) : List V → List F1 → Prop := Paired (Den1 K H)
theorem eq_items {xs ys : List V} {fs gs : List F1} {its its2 : List Value} (I : Inv X pins σ H s) (r1 : Vals xs its) (r2 : Vals ys its2) (d1 : Den1s X.K H xs fs) (d2 : Den1s X.K H ys gs) (hu : A.units < cLine) :
    ∃ e : Nat → Bool, (∀ j (h1 : j < its.toArray.size) (h2 : j < its2.toArray.size), SeqAt.EqAt A s its.toArray[j] its2.toArray[j] (e j)) ∧
      ((List.range (min its.toArray.size its2.toArray.size)).all e && its.toArray.size == its2.toArray.size) = eqFs fs gs := by
  have h1 := r1.length
  have h2 := r2.length
  have k1 := Paired.length d1
  have k2 := Paired.length d2
  refine ⟨fun j => (fs.getD j (.tp [])).eq (gs.getD j (.tp [])), fun j g1 g2 => ?_, ?_⟩
  · have g1' : j < xs.length := by rw [h1]; simpa using g1
    have g2' : j < ys.length := by rw [h2]; simpa using g2
    have e1 : fs.getD j (.tp []) = fs[j]'(by omega) := by simp [show j < fs.length by omega]
    have e2 : gs.getD j (.tp []) = gs[j]'(by omega) := by simp [show j < gs.length by omega]
    show SeqAt.EqAt A s its.toArray[j] its2.toArray[j] ((fs.getD j (.tp [])).eq (gs.getD j (.tp [])))
    rw [e1, e2]
    have w1 := Paired.at r1 j g1' (by simpa using g1)
    have w2 := Paired.at r2 j g2' (by simpa using g2)
    exact eqAt_1 I (by simpa using w1) (by simpa using w2) (Paired.at d1 j g1' (by omega)) (Paired.at d2 j g2' (by omega)) hu
  · rw [List.size_toArray, List.size_toArray, ← h1, ← h2, k1, k2]
    exact eqFs_range fs gs _ fun j g1 g2 => by simp [g1, g2]
/-- both tuples, or both lists -/
def SqB (K : PySem.W.Frag) (H : Hp) (a b : Addr) (xs ys : List V) : Prop := (SqT K H a xs ∧ SqT K H b ys) ∨ (SqL K H a xs ∧ SqL K H b ys)
def rEq2 (K : PySem.W.Frag) (neg : Bool) : R2 := fun x y H Q => ∃ a b xs ys fs gs, x = .ref a ∧ y = .ref b ∧ SqB K H a b xs ys ∧ Den1s K H xs fs ∧ Den1s K H ys gs ∧ Q (.bl (if neg then !eqFs fs gs else eqFs fs gs)) H
theorem op_eq2 (hu : X.A.units + 1 < cLine) : OpR X (compareOp .Eq) (rEq2 X.K false) := by
  intro pins s σ H x y v u Q I rx ry h
  obtain ⟨a, b, xs, ys, fs, gs, rfl, rfl, hq, d1, d2, q⟩ := h
  cases rx
  cases ry
  rcases hq with ⟨ha, hb⟩ | ⟨ha, hb⟩
  · obtain ⟨its, r1, p1, _⟩ := I.tuple ha
    obtain ⟨its2, r2, p2, _⟩ := I.tuple hb
    obtain ⟨e, he, ee⟩ := eq_items (A := X.A.in1) I r1 r2 d1 d2 (by first | exact Nat.lt_of_succ_lt hu | exact hu)
    refine SeqAt.eq_tupleAt p1 p2 (Nat.lt_of_succ_lt hu) he ⟨.bl _, H, I, rfl, ?_⟩
    rw [ee]
    exact q
  · obtain ⟨its, r1, p1, _⟩ := I.list ha
    obtain ⟨its2, r2, p2, _⟩ := I.list hb
    obtain ⟨e, he, ee⟩ := eq_items (A := X.A.in1) I r1 r2 d1 d2 (by first | exact Nat.lt_of_succ_lt hu | exact hu)
    by_cases hz : its.toArray.size = its2.toArray.size
    · refine SeqAt.eq_listAt p1.isList p2.isList hz (Nat.lt_of_succ_lt hu) he ⟨.bl _, H, I, rfl, ?_⟩
      rw [← hz, Nat.min_self, beq_self_eq_true, Bool.and_true] at ee
      rw [ee]
      exact q
    · refine SeqAt.eq_list_lengthsAt p1.isList p2.isList (by simpa using hz) (Nat.lt_of_succ_lt hu) ⟨.bl _, H, I, rfl, ?_⟩
      have hb' : (its.toArray.size == its2.toArray.size) = false := by simpa using hz
      rw [hb', Bool.and_false] at ee
      rw [ee]
      exact q
theorem op_ne2 (hu : X.A.units + 1 < cLine) : OpR X (compareOp .NotEq) (rEq2 X.K true) := by
  intro pins s σ H x y v u Q I rx ry h
  obtain ⟨a, b, xs, ys, fs, gs, rfl, rfl, hq, d1, d2, q⟩ := h
  cases rx
  cases ry
  rcases hq with ⟨ha, hb⟩ | ⟨ha, hb⟩
  · obtain ⟨its, r1, p1, _⟩ := I.tuple ha
    obtain ⟨its2, r2, p2, _⟩ := I.tuple hb
    obtain ⟨e, he, ee⟩ := eq_items (A := X.A.in1) I r1 r2 d1 d2 (by first | exact Nat.lt_of_succ_lt hu | exact hu)
    refine SeqAt.RcNeAt.tuples p1 p2 (Nat.lt_of_succ_lt hu) he _ _ _ _ ⟨.bl _, H, I, rfl, ?_⟩
    rw [ee]
    exact q
  · obtain ⟨its, r1, p1, _⟩ := I.list ha
    obtain ⟨its2, r2, p2, _⟩ := I.list hb
    obtain ⟨e, he, ee⟩ := eq_items (A := X.A.in1) I r1 r2 d1 d2 (by first | exact Nat.lt_of_succ_lt hu | exact hu)
    by_cases hz : its.toArray.size = its2.toArray.size
    · refine SeqAt.RcNeAt.lists p1.isList p2.isList hz (Nat.lt_of_succ_lt hu) he _ _ _ _ ⟨.bl _, H, I, rfl, ?_⟩
      rw [← hz, Nat.min_self, beq_self_eq_true, Bool.and_true] at ee
      rw [ee]
      exact q
    · refine SeqAt.RcNeAt.lists_lengths p1.isList p2.isList (by simpa using hz) (Nat.lt_of_succ_lt hu) _ _ _ _ ⟨.bl _, H, I, rfl, ?_⟩
      have hb' : (its.toArray.size == its2.toArray.size) = false := by simpa using hz
      rw [hb', Bool.and_false] at ee
      rw [← ee] at q
      exact q
/-- flat lists of ints (as tuples or lists) -/
theorem den_ints {K : PySem.W.Frag} {H : Hp} : ∀ ns : List Int, Den1s K H (ns.map V.int) (ns.map fun n => F1.fl (.int n))
  | [] => .nil
  | n :: ns => .cons ⟨rfl, rfl⟩ (den_ints ns)
theorem eqFs_ints : ∀ ns ms : List Int, eqFs (ns.map fun n => F1.fl (.int n)) (ms.map fun n => F1.fl (.int n)) = decide (ns = ms)
  | [], [] => rfl
  | [], _ :: _ => rfl
  | _ :: _, [] => rfl
  | n :: ns, m :: ms => by
    show ((n == m) && eqFs _ _) = _
    rw [eqFs_ints ns ms, Bool.eq_iff_iff]
    simp
theorem flat_ints (ns : List Int) : (ns.map V.int).all flatV = true := by
  rw [List.all_map, List.all_eq_true]
  intro n _
  rfl
theorem eqVs_ints : ∀ ns ms : List Int, eqVs (ns.map V.int) (ms.map V.int) = decide (ns = ms)
  | [], [] => rfl
  | [], _ :: _ => rfl
  | _ :: _, [] => rfl
  | n :: ns, m :: ms => by
    show ((n == m) && eqVs _ _) = _
    rw [eqVs_ints ns ms, Bool.eq_iff_iff]
    simp
/-- a tuple of ints in a list of such -/
def Pts (K : PySem.W.Frag) (H : Hp) : List V → List (List Int) → Prop := Paired fun v l => ∃ a, v = .ref a ∧ SqT K H a (l.map V.int)
open Classical in
theorem op_notInP (hu : X.A.units + 1 < cLine) : OpR X (compareOp .NotIn) (fun x y H Q => ∃ b t p xs ls, x = .ref b ∧ SqT X.K H b (t.map V.int) ∧ y = .ref p ∧ SqL X.K H p xs ∧ Pts X.K H xs ls ∧ Q (.bl (!decide (t ∈ ls))) H) := by
  intro pins s σ H x y v u Q I rx ry h
  obtain ⟨b, t, p, xs, ls, rfl, ht, rfl, hq, hp, q⟩ := h
  cases rx
  cases ry
  obtain ⟨its, r, pl, hz⟩ := I.list hq
  have hinj : ∀ {ns ms : List Int}, ns.map V.int = ms.map V.int → ns = ms := fun {ns ms} e => by
    have := eqVs_ints ns ms
    rw [e, eqVs_refl (flat_ints ms)] at this
    exact of_decide_eq_true this.symm
  let e : Value → Bool := fun u => match u with
    | .ref a => decide (SqT X.K H a (t.map V.int))
    | _ => false
  have key : ∀ {xs : List V} {us : List Value} {ls : List (List Int)}, Vals xs us → Pts X.K H xs ls → (∀ w ∈ us, SeqAt.EqAt X.A.in1 s w (.ref b) (e w)) ∧ us.any e = decide (t ∈ ls) := by
    intro xs us ls r hp
    induction hp generalizing us with
    | nil => cases r; exact ⟨fun w hw => (by cases hw), by simp⟩
    | @cons x0 l0 xs0 ls0 h0 _ ih =>
      cases r with
      | cons r0 rr =>
        obtain ⟨ih1, ih2⟩ := ih rr
        obtain ⟨a, rfl, ha⟩ := h0
        cases r0
        have e1 : e (.ref a) = decide (l0 = t) := by
          show decide (SqT X.K H a (t.map V.int)) = decide (l0 = t)
          rw [decide_eq_decide]
          exact ⟨fun z => hinj (I.tuple_inj ha z), fun z => z ▸ ha⟩
        refine ⟨fun w hw => ?_, ?_⟩
        · rcases List.mem_cons.mp hw with rfl | hw
          · rw [e1, ← eqVs_ints]
            exact eqAt_tup I ha ht (flat_ints _) (flat_ints _) (by first | exact Nat.lt_of_succ_lt hu | exact hu)
          · exact ih1 w hw
        · rw [List.any_cons, ih2, e1, Bool.eq_iff_iff]
          simp only [Bool.or_eq_true, decide_eq_true_eq, List.mem_cons]
          exact ⟨fun z => z.elim (fun z => .inl z.symm) .inr, fun z => z.elim (fun z => .inl z.symm) .inr⟩
  obtain ⟨k1, k2⟩ := key r hp
  refine SeqAt.notIn_listAt e pl.isList (fun w hw => k1 w (by simpa using hw)) ⟨.bl _, H, I, rfl, ?_⟩
  rw [show its.toArray.any e = its.any e by simp, k2]
  exact q
end
/-! ### comprehensions in use -/
theorem clos_loop (env : Env) : ∀ (names : List (Str × NameKind)) (acc : List (Str × Addr)), (∀ y ∈ names, y.2 = .free → ∃ c, env.cells.lookup y.1 = some c) → (∀ x c, acc.lookup x = some c → env.cells.lookup x = some c) →
    ∃ cl, (forIn names acc (fun (x : Str × NameKind) (cs : List (Str × Addr)) => (if (x.2 == NameKind.free) = true then (do let a ← cellOf env x.1; pure (ForInStep.yield ((x.1, a) :: cs)) : Sem _) else pure (ForInStep.yield cs))) : Sem (List (Str × Addr))) = pure cl ∧
      (∀ x c, cl.lookup x = some c → env.cells.lookup x = some c) ∧ (∀ x, (∃ c, acc.lookup x = some c) ∨ (x, NameKind.free) ∈ names → ∃ c, cl.lookup x = some c)
  | [], acc, _, h2 => ⟨acc, rfl, h2, fun x hx => hx.elim id fun z => (by cases z)⟩
  | (n, k) :: r, acc, h1, h2 => by
    by_cases hk : k = .free
    · subst hk
      obtain ⟨c, hc⟩ := h1 (n, .free) List.mem_cons_self rfl
      obtain ⟨cl, e, a, b⟩ := clos_loop env r ((n, c) :: acc) (fun y hy => h1 y (List.mem_cons_of_mem _ hy)) (fun x c' hx => by
        cases hxn : x == n with
        | true =>
          simp only [List.lookup_cons, hxn] at hx
          have : x = n := eq_of_beq hxn
          subst this
          cases hx
          exact hc
        | false =>
          simp only [List.lookup_cons, hxn] at hx
          exact h2 x c' hx)
      refine ⟨cl, ?_, a, fun x hx => b x ?_⟩
      · rw [← e, List.forIn_cons]
        have ec : cellOf env n = pure c := by unfold cellOf; rw [hc]
        simp only [beq_self_eq_true, if_true, ec]
        rfl
      · rcases hx with ⟨c', hx⟩ | hx
        · refine .inl ?_
          cases hxn : x == n with
          | true => exact ⟨c, by simp only [List.lookup_cons, hxn]⟩
          | false => exact ⟨c', by simp only [List.lookup_cons, hxn]; exact hx⟩
        · rcases List.mem_cons.mp hx with z | z
          · cases z
            exact .inl ⟨c, by simp [List.lookup_cons]⟩
          · exact .inr z
    · obtain ⟨cl, e, a, b⟩ := clos_loop env r acc (fun y hy => h1 y (List.mem_cons_of_mem _ hy)) h2
      refine ⟨cl, ?_, a, fun x hx => b x ?_⟩
      · rw [← e, List.forIn_cons]
        have hb : (k == NameKind.free) = false := by simpa using hk
        simp only [hb, Bool.false_eq_true, if_false]
        rfl
      · rcases hx with hx | hx
        · exact .inl hx
        · rcases List.mem_cons.mp hx with z | z
          · cases z
            exact absurd rfl hk
          · exact .inr z
theorem comp_scope {X : Cx} {scope : Scope} {cap : List (Str × Nat)} (hcell : ∀ x, X.env.scope.names.lookup x = some .cell → ∃ c, X.env.cells.lookup x = some c) (kind : scope.kind = .function) (nocell : ∀ y ∈ scope.names, y.2 ≠ .cell)
    (names : ∀ y ∈ scope.names, y.2 = .local → scope.names.lookup y.1 = some .local) (free : ∀ y ∈ scope.names, y.2 = .free → X.env.scope.names.lookup y.1 = some .cell)
    (hcap : ∀ p ∈ cap, X.N[p.2]? = some p.1 ∧ scope.names.lookup p.1 = some .free ∧ X.env.scope.names.lookup p.1 = some .cell) : ∃ cl, CompScope X scope cap cl := by
  obtain ⟨cl, e, a, b⟩ := clos_loop X.env scope.names [] (fun y hy hf => hcell _ (free y hy hf)) (fun x c h => by simp at h)
  refine ⟨cl, ?_, kind, nocell, names, a, fun x hx => b x (.inr (PySem.mem_of_lookup hx)), hcap⟩
  unfold closureFor
  refine Eq.trans ?_ e
  simp only [bind_pure]
/-- a turn's end in a comprehension over n items -/
abbrev CTurn (n : Nat) (D : Addr) (Pv : Nat → List V → St → Hp → Prop) (i : Nat) (σ : St) (y : V) (H5 : Hp) : Prop :=
  ∃ ys, H5 D = some (.lst ys) ∧ ys.length < sizeLine ∧ ∃ m', m' < n - i ∧ m' = n - (i + 1) ∧ i + 1 ≤ n ∧ ∃ acc, Pv (i + 1) acc σ (upd H5 D (.lst (ys ++ [y])))
theorem cturn {n : Nat} {D : Addr} {Pv : Nat → List V → St → Hp → Prop} {i : Nat} {σ : St} {y : V} {H5 : Hp} {acc : List V} (h1 : H5 D = some (.lst acc)) (h2 : acc.length < sizeLine) (hi : i < n) (h3 : Pv (i + 1) (acc ++ [y]) σ (upd H5 D (.lst (acc ++ [y])))) : CTurn n D Pv i σ y H5 :=
  ⟨acc, h1, h2, n - (i + 1), by omega, rfl, hi, acc ++ [y], h3⟩
/-- over a list that the block leaves as it is -/
theorem comp_list {K : PySem.W.Frag} {a D : Addr} {xs : List V} {ni : Nat} {te : TE} {Q : VK} {σ : St} {H : Hp} (Pv : Nat → List V → St → Hp → Prop) (h0 : Pv 0 [] σ H) (hl : ∀ i acc σ H, i ≤ xs.length → Pv i acc σ H → SqL K H a xs)
    (hs : ∀ i x acc σ H, i < xs.length → xs[i]? = some x → Pv i acc σ H → te (σ.set ni (some x)) H fun y H5 => CTurn xs.length D Pv i (σ.set ni (some x)) y H5) (hd : ∀ acc σ H, Pv xs.length acc σ H → Q (.ref D) H) :
    CompW (Itl K a) D (gName ni) te Q σ H := by
  refine ⟨fun i m σ H => m = xs.length - i ∧ i ≤ xs.length ∧ ∃ acc, Pv i acc σ H, ⟨xs.length, by simp, Nat.zero_le _, [], h0⟩, ?_⟩
  rintro i m σ H ⟨rfl, hi, acc, p⟩
  have q := hl i acc σ H hi p
  by_cases hlt : i < xs.length
  · refine .inr ⟨⟨xs, xs[i], q, by simp [hlt]⟩, fun x H' y => ?_⟩
    obtain ⟨e, y⟩ := y
    subst e
    exact hs i x acc σ _ hlt (y xs q) p
  · have e : i = xs.length := by omega
    subst e
    exact .inl ⟨⟨xs, q, Nat.le_refl _⟩, hd acc σ H p⟩
/-- over a tuple -/
theorem comp_tup {K : PySem.W.Frag} {a D : Addr} {xs : List V} {ni : Nat} {te : TE} {Q : VK} {σ : St} {H : Hp} (Pv : Nat → List V → St → Hp → Prop) (h0 : Pv 0 [] σ H) (hl : ∀ i acc σ H, i ≤ xs.length → Pv i acc σ H → SqT K H a xs)
    (hs : ∀ i x acc σ H, i < xs.length → xs[i]? = some x → Pv i acc σ H → te (σ.set ni (some x)) H fun y H5 => CTurn xs.length D Pv i (σ.set ni (some x)) y H5) (hd : ∀ acc σ H, Pv xs.length acc σ H → Q (.ref D) H) :
    CompW (Itt K a) D (gName ni) te Q σ H := by
  refine ⟨fun i m σ H => m = xs.length - i ∧ i ≤ xs.length ∧ ∃ acc, Pv i acc σ H, ⟨xs.length, by simp, Nat.zero_le _, [], h0⟩, ?_⟩
  rintro i m σ H ⟨rfl, hi, acc, p⟩
  have q := hl i acc σ H hi p
  by_cases hlt : i < xs.length
  · refine .inr ⟨⟨xs, xs[i], q, by simp [hlt]⟩, fun x H' y => ?_⟩
    obtain ⟨e, y⟩ := y
    subst e
    exact hs i x acc σ _ hlt (y xs q) p
  · have e : i = xs.length := by omega
    subst e
    exact .inl ⟨⟨xs, q, Nat.le_refl _⟩, hd acc σ H p⟩
theorem comp_range {lo : Int} {n : Nat} {D : Addr} {ni : Nat} {te : TE} {Q : VK} {σ : St} {H : Hp} (Pv : Nat → List V → St → Hp → Prop) (h0 : Pv 0 [] σ H)
    (hs : ∀ i acc σ H, i < n → Pv i acc σ H → te (σ.set ni (some (.int (lo + i)))) H fun y H5 => CTurn n D Pv i (σ.set ni (some (.int (lo + i)))) y H5) (hd : ∀ acc σ H, Pv n acc σ H → Q (.ref D) H) :
    CompW (Itr lo n) D (gName ni) te Q σ H := by
  refine ⟨fun i m σ H => m = n - i ∧ i ≤ n ∧ ∃ acc, Pv i acc σ H, ⟨n, by simp, Nat.zero_le _, [], h0⟩, ?_⟩
  rintro i m σ H ⟨rfl, hi, acc, p⟩
  by_cases hlt : i < n
  · refine .inr ⟨hlt, fun x H' y => ?_⟩
    obtain ⟨e, y⟩ := y
    subst e y
    exact hs i acc σ _ hlt p
  · have e : i = n := by omega
    subst e
    exact .inl ⟨Nat.le_refl _, hd acc σ H p⟩
/-! ### deep things: flat ones, tuples and lists of such; == and in of them -/
inductive D where
  | fl (x : V)
  | tp (l : List D)
  | ls (l : List D)
mutual
def Den (K : PySem.W.Frag) (H : Hp) : D → V → Prop
  | .fl x, v => v = x ∧ flatV x = true
  | .tp l, v => ∃ a xs, v = .ref a ∧ SqT K H a xs ∧ Dens K H l xs
  | .ls l, v => ∃ a xs, v = .ref a ∧ SqL K H a xs ∧ Dens K H l xs
def Dens (K : PySem.W.Frag) (H : Hp) : List D → List V → Prop
  | [], xs => xs = []
  | d :: l, xs => ∃ x r, xs = x :: r ∧ Den K H d x ∧ Dens K H l r
end
mutual
def D.eq : D → D → Bool
  | .fl x, .fl y => eqV x y
  | .tp l, .tp m => D.eqs l m
  | .ls l, .ls m => D.eqs l m
  | _, _ => false
def D.eqs : List D → List D → Bool
  | [], [] => true
  | x :: l, y :: m => D.eq x y && D.eqs l m
  | _, _ => false
end
mutual
def D.dep : D → Nat
  | .fl _ => 0
  | .tp l => D.deps l + 1
  | .ls l => D.deps l + 1
def D.deps : List D → Nat
  | [] => 0
  | x :: l => max (D.dep x) (D.deps l)
end
theorem D.deps_at : ∀ {l : List D} {j : Nat} (h : j < l.length), (l[j]).dep ≤ D.deps l
  | x :: l, 0, _ => Nat.le_max_left _ _
  | x :: l, j + 1, h => Nat.le_trans (D.deps_at (l := l) (j := j) (by simpa using h)) (Nat.le_max_right _ _)
theorem Dens.length {K : PySem.W.Frag} {H : Hp} : ∀ {l : List D} {xs : List V}, Dens K H l xs → l.length = xs.length
  | [], xs, h => by rw [show xs = [] from h]; rfl
  | d :: l, xs, h => by
    obtain ⟨x, r, rfl, _, t⟩ := h
    rw [List.length_cons, List.length_cons, Dens.length t]
theorem Dens.at {K : PySem.W.Frag} {H : Hp} : ∀ {l : List D} {xs : List V}, Dens K H l xs → ∀ j (h1 : j < l.length) (h2 : j < xs.length), Den K H l[j] xs[j]
  | [], _, _, j, h1, _ => absurd h1 (Nat.not_lt_zero j)
  | d :: l, xs, h, 0, _, h2 => by
    obtain ⟨x, r, rfl, hd, t⟩ := h
    exact hd
  | d :: l, xs, h, j + 1, h1, h2 => by
    obtain ⟨x, r, rfl, hd, t⟩ := h
    exact Dens.at t j (by simpa using h1) (by simpa using h2)
theorem eqs_range : ∀ (l m : List D) (e : Nat → Bool), (∀ j (h1 : j < l.length) (h2 : j < m.length), e j = (l[j]).eq m[j]) →
    ((List.range (min l.length m.length)).all e && l.length == m.length) = D.eqs l m
  | [], [], _, _ => by simp [D.eqs]
  | [], _ :: _, _, _ => by simp [D.eqs]
  | _ :: _, [], _, _ => by simp [D.eqs]
  | x :: l, y :: m, e, h => by
    have ih := eqs_range l m (fun j => e (j + 1)) fun j h1 h2 => h (j + 1) (by simpa using h1) (by simpa using h2)
    have h0 := h 0 (by simp) (by simp)
    have hmin : min (x :: l).length (y :: m).length = min l.length m.length + 1 := by
      rw [List.length_cons, List.length_cons]
      omega
    rw [hmin, all_range_succ, h0, show D.eqs (x :: l) (y :: m) = ((x.eq y) && D.eqs l m) by rw [D.eqs], ← ih, Bool.and_assoc]
    congr 2
    rw [Bool.eq_iff_iff]
    simp
section
variable {X : Cx} {pins : List (Addr × Obj)} {σ : St} {H : Hp} {s : Shared}
theorem Inv.not_both {a : Addr} {xs ys : List V} (I : Inv X pins σ H s) (h : SqL X.K H a xs) (h' : SqT X.K H a ys) : False := by
  obtain ⟨its, r1, p1, _⟩ := I.list h
  obtain ⟨its2, r2, p2, _⟩ := I.tuple h'
  obtain ⟨o, ho, hc, _⟩ := p1.isList
  obtain ⟨o2, ho2, hc2, _⟩ := p2
  rw [ho] at ho2
  cases ho2
  rw [hc] at hc2
  simp at hc2
mutual
theorem eqD_self (I : Inv X pins σ H s) : ∀ (d e : D) {v : V}, Den X.K H d v → Den X.K H e v → d.eq e = true
  | .fl x, .fl y, v, h, h' => by
    obtain ⟨rfl, f⟩ := h
    obtain ⟨rfl, _⟩ := h'
    rw [D.eq]
    exact eqV_refl f
  | .fl x, .tp m, v, h, h' => by
    obtain ⟨rfl, f⟩ := h
    obtain ⟨a, xs, rfl, _⟩ := h'
    exact absurd (show false = true from f) Bool.false_ne_true
  | .fl x, .ls m, v, h, h' => by
    obtain ⟨rfl, f⟩ := h
    obtain ⟨a, xs, rfl, _⟩ := h'
    exact absurd (show false = true from f) Bool.false_ne_true
  | .tp l, .fl x, v, h', h => by
    obtain ⟨rfl, f⟩ := h
    obtain ⟨a, xs, rfl, _⟩ := h'
    exact absurd (show false = true from f) Bool.false_ne_true
  | .ls l, .fl x, v, h', h => by
    obtain ⟨rfl, f⟩ := h
    obtain ⟨a, xs, rfl, _⟩ := h'
    exact absurd (show false = true from f) Bool.false_ne_true
  | .tp l, .tp m, v, h, h' => by
    obtain ⟨a, xs, rfl, h1, h2⟩ := h
    obtain ⟨b, ys, e, h3, h4⟩ := h'
    cases e
    rw [I.tuple_inj h3 h1] at h4
    rw [D.eq]
    exact eqsD_self I l m h2 h4
  | .ls l, .ls m, v, h, h' => by
    obtain ⟨a, xs, rfl, h1, h2⟩ := h
    obtain ⟨b, ys, e, h3, h4⟩ := h'
    cases e
    rw [I.list_inj h3 h1] at h4
    rw [D.eq]
    exact eqsD_self I l m h2 h4
  | .tp l, .ls m, v, h, h' => by
    obtain ⟨a, xs, rfl, h1, h2⟩ := h
    obtain ⟨b, ys, e, h3, h4⟩ := h'
    cases e
    exact (I.not_both h3 h1).elim
  | .ls l, .tp m, v, h, h' => by
    obtain ⟨a, xs, rfl, h1, h2⟩ := h
    obtain ⟨b, ys, e, h3, h4⟩ := h'
    cases e
    exact (I.not_both h1 h3).elim
theorem eqsD_self (I : Inv X pins σ H s) : ∀ (l m : List D) {xs : List V}, Dens X.K H l xs → Dens X.K H m xs → D.eqs l m = true
  | [], [], xs, h, h' => by rw [D.eqs]
  | [], _ :: _, xs, h, h' => by
    obtain ⟨x, r, rfl, _⟩ := h'
    cases (show (x :: r) = [] from h)
  | _ :: _, [], xs, h', h => by
    obtain ⟨x, r, rfl, _⟩ := h'
    cases (show (x :: r) = [] from h)
  | d :: l, e :: m, xs, h, h' => by
    obtain ⟨x, r, rfl, h1, h2⟩ := h
    obtain ⟨y, r', q, h3, h4⟩ := h'
    cases q
    rw [D.eqs, eqD_self I d e h1 h3, eqsD_self I l m h2 h4]
    rfl
end
mutual
theorem eqAt_D (I : Inv X pins σ H s) : ∀ (d e : D) {v v' : V} {u u' : Value} {A : Around}, RelV v u → RelV v' u' → Den X.K H d v → Den X.K H e v' → A.units + d.dep + e.dep < cLine → SeqAt.EqAt A s u u' (d.eq e)
  | .fl x, .fl y, v, v', u, u', A, r, r', h, h', hu => by
    obtain ⟨rfl, f⟩ := h
    obtain ⟨rfl, f'⟩ := h'
    rw [D.eq]
    exact eqAt_V r r' f f'
  | .fl x, .tp m, v, v', u, u', A, r, r', h, h', hu => by
    obtain ⟨rfl, f⟩ := h
    obtain ⟨a, xs, rfl, hb, _⟩ := h'
    cases r'
    obtain ⟨its2, r2, p2, _⟩ := I.tuple hb
    rw [show D.eq (.fl v) (.tp m) = false by simp [D.eq]]
    have hu' : A.units < cLine := by omega
    cases v with
    | non => cases r; exact SeqAt.EqAt.none_tuple p2 hu'
    | bl c => cases r; exact SeqAt.EqAt.bool_tuple c p2 hu'
    | int c => obtain ⟨t, rfl⟩ := r; exact SeqAt.EqAt.int_tuple c t p2 hu'
    | str c => obtain ⟨t, rfl⟩ := r; exact SeqAt.EqAt.str_tuple c t p2 hu'
    | _ => exact absurd (show false = true from f) Bool.false_ne_true
  | .fl x, .ls m, v, v', u, u', A, r, r', h, h', hu => by
    obtain ⟨rfl, f⟩ := h
    obtain ⟨a, xs, rfl, hb, _⟩ := h'
    cases r'
    obtain ⟨its2, r2, p2, _⟩ := I.list hb
    rw [show D.eq (.fl v) (.ls m) = false by simp [D.eq]]
    have hu' : A.units < cLine := by omega
    cases v with
    | non => cases r; exact SeqAt.EqAt.none_list p2.isList hu'
    | bl c => cases r; exact SeqAt.EqAt.bool_list c p2.isList hu'
    | int c => obtain ⟨t, rfl⟩ := r; exact SeqAt.EqAt.int_list c t p2.isList hu'
    | str c => obtain ⟨t, rfl⟩ := r; exact SeqAt.EqAt.str_list c t p2.isList hu'
    | _ => exact absurd (show false = true from f) Bool.false_ne_true
  | .tp l, .fl x, v', v, u', u, A, r', r, h', h, hu => by
    obtain ⟨rfl, f⟩ := h
    obtain ⟨a, xs, rfl, hb, _⟩ := h'
    cases r'
    obtain ⟨its2, r2, p2, _⟩ := I.tuple hb
    rw [show D.eq (.tp l) (.fl v) = false by simp [D.eq]]
    have hu' : A.units < cLine := by omega
    cases v with
    | non => cases r; exact SeqAt.EqAt.tuple_none p2 hu'
    | bl c => cases r; exact SeqAt.EqAt.tuple_bool c p2 hu'
    | int c => obtain ⟨t, rfl⟩ := r; exact SeqAt.EqAt.tuple_int c t p2 hu'
    | str c => obtain ⟨t, rfl⟩ := r; exact SeqAt.EqAt.tuple_str c t p2 hu'
    | _ => exact absurd (show false = true from f) Bool.false_ne_true
  | .ls l, .fl x, v', v, u', u, A, r', r, h', h, hu => by
    obtain ⟨rfl, f⟩ := h
    obtain ⟨a, xs, rfl, hb, _⟩ := h'
    cases r'
    obtain ⟨its2, r2, p2, _⟩ := I.list hb
    rw [show D.eq (.ls l) (.fl v) = false by simp [D.eq]]
    have hu' : A.units < cLine := by omega
    cases v with
    | non => cases r; exact SeqAt.EqAt.list_none p2.isList hu'
    | bl c => cases r; exact SeqAt.EqAt.list_bool c p2.isList hu'
    | int c => obtain ⟨t, rfl⟩ := r; exact SeqAt.EqAt.list_int c t p2.isList hu'
    | str c => obtain ⟨t, rfl⟩ := r; exact SeqAt.EqAt.list_str c t p2.isList hu'
    | _ => exact absurd (show false = true from f) Bool.false_ne_true
  | .tp l, .ls m, v, v', u, u', A, r, r', h, h', hu => by
    obtain ⟨a, xs, rfl, h1, _⟩ := h
    obtain ⟨b, ys, rfl, h3, _⟩ := h'
    cases r
    cases r'
    obtain ⟨its, r1, p1, _⟩ := I.tuple h1
    obtain ⟨its2, r2, p2, _⟩ := I.list h3
    rw [show D.eq (.tp l) (.ls m) = false by simp [D.eq]]
    exact SeqAt.EqAt.tuple_list p1 p2.isList (by omega)
  | .ls l, .tp m, v, v', u, u', A, r, r', h, h', hu => by
    obtain ⟨a, xs, rfl, h1, _⟩ := h
    obtain ⟨b, ys, rfl, h3, _⟩ := h'
    cases r
    cases r'
    obtain ⟨its, r1, p1, _⟩ := I.list h1
    obtain ⟨its2, r2, p2, _⟩ := I.tuple h3
    rw [show D.eq (.ls l) (.tp m) = false by simp [D.eq]]
    exact SeqAt.EqAt.list_tuple p1.isList p2 (by omega)
  | .tp l, .tp m, v, v', u, u', A, r, r', h, h', hu => by
    by_cases hab : v = v'
    · subst hab
      rw [eqD_self I _ _ h h']
      rw [show u' = u from by obtain ⟨a, xs, rfl, _⟩ := h; cases r; cases r'; rfl]
      exact SeqAt.EqAt.same _
    · obtain ⟨a, xs, rfl, h1, h2⟩ := h
      obtain ⟨b, ys, rfl, h3, h4⟩ := h'
      cases r
      cases r'
      obtain ⟨its, r1, p1, _⟩ := I.tuple h1
      obtain ⟨its2, r2, p2, _⟩ := I.tuple h3
      rw [D.dep, D.dep] at hu
      obtain ⟨e, he, ee⟩ := eqsAt_D (A := A.in1) I l m r1 r2 h2 h4 (by show A.units + 1 + _ + _ < _; omega)
      have key := SeqAt.RcAt.tuples (A := A) (s := s) (l := a) (b := b) (items := its.toArray) (items2 := its2.toArray) (e := e) p1 p2 (by omega) (fun j g1 g2 => by
        have := he j (by simpa using g1) (by simpa using g2)
        simpa using this)
      rw [List.size_toArray, List.size_toArray, ee] at key
      rw [D.eq]
      exact SeqAt.EqAt.of_refs (fun z => hab (by rw [z])) key
  | .ls l, .ls m, v, v', u, u', A, r, r', h, h', hu => by
    by_cases hab : v = v'
    · subst hab
      rw [eqD_self I _ _ h h']
      rw [show u' = u from by obtain ⟨a, xs, rfl, _⟩ := h; cases r; cases r'; rfl]
      exact SeqAt.EqAt.same _
    · obtain ⟨a, xs, rfl, h1, h2⟩ := h
      obtain ⟨b, ys, rfl, h3, h4⟩ := h'
      cases r
      cases r'
      obtain ⟨its, r1, p1, _⟩ := I.list h1
      obtain ⟨its2, r2, p2, _⟩ := I.list h3
      rw [D.dep, D.dep] at hu
      obtain ⟨e, he, ee⟩ := eqsAt_D (A := A.in1) I l m r1 r2 h2 h4 (by show A.units + 1 + _ + _ < _; omega)
      rw [D.eq]
      refine SeqAt.EqAt.of_refs (fun z => hab (by rw [z])) ?_
      by_cases hz : its.toArray.size = its2.toArray.size
      · have key := SeqAt.RcAt.lists (A := A) (s := s) (l := a) (b := b) (items := its.toArray) (items2 := its2.toArray) (e := e) p1.isList p2.isList hz (by omega) (fun j g1 g2 => by
          have := he j (by simpa using g1) (by simpa using g2)
          simpa using this)
        rw [List.size_toArray, List.size_toArray] at hz
        rw [← hz, Nat.min_self, beq_self_eq_true, Bool.and_true] at ee
        rw [List.size_toArray, ee] at key
        exact key
      · have hb' : (its.length == its2.length) = false := by simpa using hz
        rw [hb', Bool.and_false] at ee
        rw [← ee]
        exact SeqAt.RcAt.lists_lengths p1.isList p2.isList (by simpa using hz) (by omega)
theorem eqsAt_D (I : Inv X pins σ H s) {A : Around} : ∀ (l m : List D) {xs ys : List V} {us ws : List Value}, Vals xs us → Vals ys ws → Dens X.K H l xs → Dens X.K H m ys → A.units + D.deps l + D.deps m < cLine →
    ∃ e : Nat → Bool, (∀ j (h1 : j < us.length) (h2 : j < ws.length), SeqAt.EqAt A s us[j] ws[j] (e j)) ∧ ((List.range (min us.length ws.length)).all e && us.length == ws.length) = D.eqs l m
  | [], m, xs, ys, us, ws, r, r', h, h', hu => by
    cases (show xs = [] from h)
    cases r
    refine ⟨fun _ => true, fun j h1 _ => absurd h1 (Nat.not_lt_zero j), ?_⟩
    cases m with
    | nil => cases (show ys = [] from h'); cases r'; rw [D.eqs]; rfl
    | cons e m =>
      obtain ⟨y, t, rfl, _⟩ := h'
      cases r'
      simp [D.eqs]
  | d :: l, [], xs, ys, us, ws, r, r', h, h', hu => by
    obtain ⟨x, t, rfl, _⟩ := h
    cases (show ys = [] from h')
    cases r
    cases r'
    exact ⟨fun _ => true, fun j _ h1 => absurd h1 (Nat.not_lt_zero j), by simp [D.eqs]⟩
  | d :: l, e :: m, xs, ys, us, ws, r, r', h, h', hu => by
    obtain ⟨x, t, rfl, h1, h2⟩ := h
    obtain ⟨y, t', rfl, h3, h4⟩ := h'
    cases r with
    | @cons _ u0 _ us0 ru rus =>
    cases r' with
    | @cons _ w0 _ ws0 rw0 rws =>
    have hu1 : A.units + d.dep + e.dep < cLine := by
      rw [D.deps, D.deps] at hu
      have := Nat.le_max_left d.dep (D.deps l)
      have := Nat.le_max_left e.dep (D.deps m)
      omega
    have hu2 : A.units + D.deps l + D.deps m < cLine := by
      rw [D.deps, D.deps] at hu
      have := Nat.le_max_right d.dep (D.deps l)
      have := Nat.le_max_right e.dep (D.deps m)
      omega
    have E0 := eqAt_D I d e (A := A) ru rw0 h1 h3 hu1
    obtain ⟨e', he, ee⟩ := eqsAt_D I l m rus rws h2 h4 hu2
    refine ⟨fun j => match j with | 0 => d.eq e | j + 1 => e' j, fun j g1 g2 => ?_, ?_⟩
    · cases j with
      | zero => exact E0
      | succ j => exact he j (by simpa using g1) (by simpa using g2)
    · have hmin : min (u0 :: us0).length (w0 :: ws0).length = min us0.length ws0.length + 1 := by
        rw [List.length_cons, List.length_cons]
        omega
      rw [hmin, all_range_succ, D.eqs, ← ee]
      show (d.eq e && (List.range (min us0.length ws0.length)).all e' && _) = _
      rw [Bool.and_assoc]
      congr 2
      rw [Bool.eq_iff_iff]
      simp
end
end
/-! ### the rules: ==, !=, in, not in of deep things -/
theorem rcAt_V {A : Around} {s : Shared} {y x : V} {u v : Value} (ry : RelV y u) (rx : RelV x v) (fy : flatV y = true) (fx : flatV x = true) : SeqAt.RcAt A s u v (eqV y x) ∧ SeqAt.RcNeAt A s u v (!eqV y x) := by
  cases y <;> first | exact absurd (show false = true from fy) Bool.false_ne_true | (cases x <;> first | exact absurd (show false = true from fx) Bool.false_ne_true | skip)
  all_goals first | obtain ⟨t1, rfl⟩ := ry | cases ry
  all_goals first | obtain ⟨t2, rfl⟩ := rx | cases rx
  · exact ⟨.none_none, .none_none⟩
  · exact ⟨.none_bool _, .none_bool _⟩
  · exact ⟨.none_int _ _, .none_int _ _⟩
  · exact ⟨.none_str _ _, .none_str _ _⟩
  · exact ⟨.bool_none _, .bool_none _⟩
  · exact ⟨.bool_bool _ _, .bool_bool _ _⟩
  · exact ⟨.bool_int _ _ _, .bool_int _ _ _⟩
  · exact ⟨.bool_str _ _ _, .bool_str _ _ _⟩
  · exact ⟨.int_none _ _, .int_none _ _⟩
  · exact ⟨.int_bool _ _ _, .int_bool _ _ _⟩
  · exact ⟨.int_int _ _ _ _, .int_int _ _ _ _⟩
  · exact ⟨.int_str _ _ _ _, .int_str _ _ _ _⟩
  · exact ⟨.str_none _ _, .str_none _ _⟩
  · exact ⟨.str_bool _ _ _, .str_bool _ _ _⟩
  · exact ⟨.str_int _ _ _ _, .str_int _ _ _ _⟩
  · exact ⟨.str_str _ _ _ _, .str_str _ _ _ _⟩
section
variable {X : Cx} {pins : List (Addr × Obj)} {σ : St} {H : Hp} {s : Shared}
theorem rcAt_D (I : Inv X pins σ H s) (d e : D) {v v' : V} {u u' : Value} {A : Around} (r : RelV v u) (r' : RelV v' u') (h : Den X.K H d v) (h' : Den X.K H e v') (hu : A.units + d.dep + e.dep < cLine) :
    SeqAt.RcAt A s u u' (d.eq e) ∧ SeqAt.RcNeAt A s u u' (!d.eq e) := by
  have hu' : A.units < cLine := by omega
  match d, e, h, h', hu with
  | .fl x, .fl y, h, h', hu =>
    obtain ⟨rfl, f⟩ := h
    obtain ⟨rfl, f'⟩ := h'
    rw [D.eq]
    exact rcAt_V r r' f f'
  | .fl x, .tp m, h, h', hu =>
    obtain ⟨rfl, f⟩ := h
    obtain ⟨a, xs, rfl, hb, _⟩ := h'
    cases r'
    obtain ⟨its2, r2, p2, _⟩ := I.tuple hb
    rw [show D.eq (.fl v) (.tp m) = false by simp [D.eq]]
    cases v with
    | non => cases r; exact ⟨.none_tuple p2 hu', .none_tuple p2 hu'⟩
    | bl c => cases r; exact ⟨.bool_tuple c p2 hu', .bool_tuple c p2 hu'⟩
    | int c => obtain ⟨t, rfl⟩ := r; exact ⟨.int_tuple c t p2 hu', .int_tuple c t p2 hu'⟩
    | str c => obtain ⟨t, rfl⟩ := r; exact ⟨.str_tuple c t p2 hu', .str_tuple c t p2 hu'⟩
    | _ => exact absurd (show false = true from f) Bool.false_ne_true
  | .fl x, .ls m, h, h', hu =>
    obtain ⟨rfl, f⟩ := h
    obtain ⟨a, xs, rfl, hb, _⟩ := h'
    cases r'
    obtain ⟨its2, r2, p2, _⟩ := I.list hb
    rw [show D.eq (.fl v) (.ls m) = false by simp [D.eq]]
    have p2 := p2.isList
    cases v with
    | non => cases r; exact ⟨.none_list p2 hu', .none_list p2 hu'⟩
    | bl c => cases r; exact ⟨.bool_list c p2 hu', .bool_list c p2 hu'⟩
    | int c => obtain ⟨t, rfl⟩ := r; exact ⟨.int_list c t p2 hu', .int_list c t p2 hu'⟩
    | str c => obtain ⟨t, rfl⟩ := r; exact ⟨.str_list c t p2 hu', .str_list c t p2 hu'⟩
    | _ => exact absurd (show false = true from f) Bool.false_ne_true
  | .tp m, .fl x, h', h, hu =>
    obtain ⟨rfl, f⟩ := h
    obtain ⟨a, xs, rfl, hb, _⟩ := h'
    cases r
    obtain ⟨its2, r2, p2, _⟩ := I.tuple hb
    rw [show D.eq (.tp m) (.fl v') = false by simp [D.eq]]
    cases v' with
    | non => cases r'; exact ⟨.tuple_none p2 hu', .tuple_none p2 hu'⟩
    | bl c => cases r'; exact ⟨.tuple_bool c p2 hu', .tuple_bool c p2 hu'⟩
    | int c => obtain ⟨t, rfl⟩ := r'; exact ⟨.tuple_int c t p2 hu', .tuple_int c t p2 hu'⟩
    | str c => obtain ⟨t, rfl⟩ := r'; exact ⟨.tuple_str c t p2 hu', .tuple_str c t p2 hu'⟩
    | _ => exact absurd (show false = true from f) Bool.false_ne_true
  | .ls m, .fl x, h', h, hu =>
    obtain ⟨rfl, f⟩ := h
    obtain ⟨a, xs, rfl, hb, _⟩ := h'
    cases r
    obtain ⟨its2, r2, p2, _⟩ := I.list hb
    rw [show D.eq (.ls m) (.fl v') = false by simp [D.eq]]
    have p2 := p2.isList
    cases v' with
    | non => cases r'; exact ⟨.list_none p2 hu', .list_none p2 hu'⟩
    | bl c => cases r'; exact ⟨.list_bool c p2 hu', .list_bool c p2 hu'⟩
    | int c => obtain ⟨t, rfl⟩ := r'; exact ⟨.list_int c t p2 hu', .list_int c t p2 hu'⟩
    | str c => obtain ⟨t, rfl⟩ := r'; exact ⟨.list_str c t p2 hu', .list_str c t p2 hu'⟩
    | _ => exact absurd (show false = true from f) Bool.false_ne_true
  | .tp l, .ls m, h, h', hu =>
    obtain ⟨a, xs, rfl, h1, _⟩ := h
    obtain ⟨b, ys, rfl, h3, _⟩ := h'
    cases r
    cases r'
    obtain ⟨its, r1, p1, _⟩ := I.tuple h1
    obtain ⟨its2, r2, p2, _⟩ := I.list h3
    rw [show D.eq (.tp l) (.ls m) = false by simp [D.eq]]
    exact ⟨.tuple_list p1 p2.isList hu', .tuple_list p1 p2.isList hu'⟩
  | .ls l, .tp m, h, h', hu =>
    obtain ⟨a, xs, rfl, h1, _⟩ := h
    obtain ⟨b, ys, rfl, h3, _⟩ := h'
    cases r
    cases r'
    obtain ⟨its, r1, p1, _⟩ := I.list h1
    obtain ⟨its2, r2, p2, _⟩ := I.tuple h3
    rw [show D.eq (.ls l) (.tp m) = false by simp [D.eq]]
    exact ⟨.list_tuple p1.isList p2 hu', .list_tuple p1.isList p2 hu'⟩
  | .tp l, .tp m, h, h', hu =>
    obtain ⟨a, xs, rfl, h1, h2⟩ := h
    obtain ⟨b, ys, rfl, h3, h4⟩ := h'
    cases r
    cases r'
    obtain ⟨its, r1, p1, _⟩ := I.tuple h1
    obtain ⟨its2, r2, p2, _⟩ := I.tuple h3
    rw [D.dep, D.dep] at hu
    obtain ⟨e, he, ee⟩ := eqsAt_D (A := A.in1) I l m r1 r2 h2 h4 (by show A.units + 1 + _ + _ < _; omega)
    have hj : ∀ j (g1 : j < its.toArray.size) (g2 : j < its2.toArray.size), SeqAt.EqAt A.in1 s its.toArray[j] its2.toArray[j] (e j) := fun j g1 g2 => by
      have := he j (by simpa using g1) (by simpa using g2)
      simpa using this
    have k1 := SeqAt.RcAt.tuples p1 p2 hu' hj
    have k2 := SeqAt.RcNeAt.tuples p1 p2 hu' hj
    rw [List.size_toArray, List.size_toArray, ee] at k1 k2
    rw [D.eq]
    exact ⟨k1, k2⟩
  | .ls l, .ls m, h, h', hu =>
    obtain ⟨a, xs, rfl, h1, h2⟩ := h
    obtain ⟨b, ys, rfl, h3, h4⟩ := h'
    cases r
    cases r'
    obtain ⟨its, r1, p1, _⟩ := I.list h1
    obtain ⟨its2, r2, p2, _⟩ := I.list h3
    rw [D.dep, D.dep] at hu
    obtain ⟨e, he, ee⟩ := eqsAt_D (A := A.in1) I l m r1 r2 h2 h4 (by show A.units + 1 + _ + _ < _; omega)
    have hj : ∀ j (g1 : j < its.toArray.size) (g2 : j < its2.toArray.size), SeqAt.EqAt A.in1 s its.toArray[j] its2.toArray[j] (e j) := fun j g1 g2 => by
      have := he j (by simpa using g1) (by simpa using g2)
      simpa using this
    rw [D.eq]
    by_cases hz : its.toArray.size = its2.toArray.size
    · have k1 := SeqAt.RcAt.lists p1.isList p2.isList hz hu' hj
      have k2 := SeqAt.RcNeAt.lists p1.isList p2.isList hz hu' hj
      rw [List.size_toArray, List.size_toArray] at hz
      rw [← hz, Nat.min_self, beq_self_eq_true, Bool.and_true] at ee
      rw [List.size_toArray, ee] at k1 k2
      exact ⟨k1, k2⟩
    · have hb' : (its.length == its2.length) = false := by simpa using hz
      rw [hb', Bool.and_false] at ee
      rw [← ee]
      exact ⟨.lists_lengths p1.isList p2.isList (by simpa using hz) hu', .lists_lengths p1.isList p2.isList (by simpa using hz) hu'⟩
/-- a thing is what it is -/
theorem Den.inj (I : Inv X pins σ H s) : ∀ (d : D) (e : D) {v : V}, Den X.K H d v → Den X.K H e v → d = e := by
  have key : ∀ (n : Nat) (d e : D) {v : V}, d.dep ≤ n → Den X.K H d v → Den X.K H e v → d = e := by
    intro n
    induction n with
    | zero =>
      intro d e v hn h h'
      match d, e, h, h', hn with
      | .fl x, .fl y, h, h', _ => rw [← h.1, ← h'.1]
      | .fl x, .tp m, h, h', _ => obtain ⟨rfl, f⟩ := h; obtain ⟨a, xs, rfl, _⟩ := h'; exact absurd (show false = true from f) Bool.false_ne_true
      | .fl x, .ls m, h, h', _ => obtain ⟨rfl, f⟩ := h; obtain ⟨a, xs, rfl, _⟩ := h'; exact absurd (show false = true from f) Bool.false_ne_true
      | .tp l, _, _, _, hn => rw [D.dep] at hn; omega
      | .ls l, _, _, _, hn => rw [D.dep] at hn; omega
    | succ n ih =>
      have items : ∀ (l m : List D) {xs : List V}, D.deps l ≤ n → Dens X.K H l xs → Dens X.K H m xs → l = m := by
        intro l
        induction l with
        | nil =>
          intro m xs _ h h'
          cases (show xs = [] from h)
          cases m with
          | nil => rfl
          | cons e m => obtain ⟨y, t, q, _⟩ := h'; cases q
        | cons d l il =>
          intro m xs hn h h'
          obtain ⟨x, t, rfl, h1, h2⟩ := h
          cases m with
          | nil => cases (show (x :: t) = [] from h')
          | cons e m =>
            obtain ⟨y, t', q, h3, h4⟩ := h'
            cases q
            rw [D.deps] at hn
            have a1 := Nat.le_max_left d.dep (D.deps l)
            have a2 := Nat.le_max_right d.dep (D.deps l)
            rw [ih d e (by omega) h1 h3, il m (by omega) h2 h4]
      intro d e v hn h h'
      match d, e, h, h', hn with
      | .fl x, .fl y, h, h', _ => rw [← h.1, ← h'.1]
      | .fl x, .tp m, h, h', _ => obtain ⟨rfl, f⟩ := h; obtain ⟨a, xs, rfl, _⟩ := h'; exact absurd (show false = true from f) Bool.false_ne_true
      | .fl x, .ls m, h, h', _ => obtain ⟨rfl, f⟩ := h; obtain ⟨a, xs, rfl, _⟩ := h'; exact absurd (show false = true from f) Bool.false_ne_true
      | .tp m, .fl x, h', h, _ => obtain ⟨rfl, f⟩ := h; obtain ⟨a, xs, rfl, _⟩ := h'; exact absurd (show false = true from f) Bool.false_ne_true
      | .ls m, .fl x, h', h, _ => obtain ⟨rfl, f⟩ := h; obtain ⟨a, xs, rfl, _⟩ := h'; exact absurd (show false = true from f) Bool.false_ne_true
      | .tp l, .ls m, h, h', _ => obtain ⟨a, xs, rfl, h1, _⟩ := h; obtain ⟨b, ys, e, h3, _⟩ := h'; cases e; exact (I.not_both h3 h1).elim
      | .ls l, .tp m, h, h', _ => obtain ⟨a, xs, rfl, h1, _⟩ := h; obtain ⟨b, ys, e, h3, _⟩ := h'; cases e; exact (I.not_both h1 h3).elim
      | .tp l, .tp m, h, h', hn =>
        obtain ⟨a, xs, rfl, h1, h2⟩ := h
        obtain ⟨b, ys, e, h3, h4⟩ := h'
        cases e
        rw [I.tuple_inj h3 h1] at h4
        rw [D.dep] at hn
        rw [items l m (by omega) h2 h4]
      | .ls l, .ls m, h, h', hn =>
        obtain ⟨a, xs, rfl, h1, h2⟩ := h
        obtain ⟨b, ys, e, h3, h4⟩ := h'
        cases e
        rw [I.list_inj h3 h1] at h4
        rw [D.dep] at hn
        rw [items l m (by omega) h2 h4]
  exact fun d e v h h' => key _ d e (Nat.le_refl _) h h'
def rEqD (K : PySem.W.Frag) (neg : Bool) : R2 := fun x y H Q => ∃ d e, Den K H d x ∧ Den K H e y ∧ d.dep + e.dep ≤ 100 ∧ Q (.bl (if neg then !d.eq e else d.eq e)) H
theorem op_eqD (hu : X.A.units + 101 < cLine) : OpR X (compareOp .Eq) (rEqD X.K false) := by
  intro pins s σ H x y v u Q I rx ry h
  obtain ⟨d, e, h1, h2, hd, q⟩ := h
  exact (rcAt_D (A := X.A) I d e rx ry h1 h2 (by omega)).1 _ _ _ _ ⟨.bl _, H, I, rfl, q⟩
theorem op_neD (hu : X.A.units + 101 < cLine) : OpR X (compareOp .NotEq) (rEqD X.K true) := by
  intro pins s σ H x y v u Q I rx ry h
  obtain ⟨d, e, h1, h2, hd, q⟩ := h
  exact (rcAt_D (A := X.A) I d e rx ry h1 h2 (by omega)).2 _ _ _ _ ⟨.bl _, H, I, rfl, q⟩
def rInD (K : PySem.W.Frag) (neg : Bool) : R2 := fun x y H Q => ∃ d p xs l, Den K H d x ∧ y = .ref p ∧ (SqL K H p xs ∨ SqT K H p xs) ∧ Dens K H l xs ∧ d.dep + D.deps l ≤ 99 ∧
  Q (.bl (if neg then !(l.any fun e => e.eq d) else l.any fun e => e.eq d)) H
open Classical in
theorem inD_items (I : Inv X pins σ H s) {d : D} {x : V} {v : Value} (rx : RelV x v) (hx : Den X.K H d x) {A : Around} : ∀ {l : List D} {xs : List V} {us : List Value}, Vals xs us → Dens X.K H l xs → A.units + d.dep + D.deps l < cLine →
    ∃ e : Value → Bool, (e = fun w => decide (∃ d' x', RelV x' w ∧ Den X.K H d' x' ∧ d'.eq d = true)) ∧ (∀ w ∈ us, SeqAt.EqAt A s w v (e w)) ∧ us.any e = l.any fun e => e.eq d := by
  intro l
  induction l with
  | nil =>
    intro xs us r h hu
    cases (show xs = [] from h)
    cases r
    exact ⟨_, rfl, fun w hw => (by cases hw), rfl⟩
  | cons d0 l ih =>
    intro xs us r h hu
    obtain ⟨x0, t, rfl, h1, h2⟩ := h
    cases r with
    | @cons _ u0 _ us0 r0 rr =>
    rw [D.deps] at hu
    have a1 := Nat.le_max_left d0.dep (D.deps l)
    have a2 := Nat.le_max_right d0.dep (D.deps l)
    obtain ⟨e, ee, i1, i2⟩ := ih rr h2 (by omega)
    have e0 : e u0 = d0.eq d := by
      rw [ee]
      by_cases hq : d0.eq d = true
      · rw [hq]; exact decide_eq_true ⟨d0, x0, r0, h1, hq⟩
      · rw [Bool.not_eq_true] at hq
        rw [hq]
        refine decide_eq_false ?_
        rintro ⟨d', x', r', h', q'⟩
        cases RelV.inj r' r0
        rw [Den.inj I d' d0 h' h1, hq] at q'
        cases q'
    refine ⟨e, ee, fun w hw => ?_, ?_⟩
    · rcases List.mem_cons.mp hw with rfl | hw
      · rw [e0]
        exact eqAt_D I d0 d r0 rx h1 hx (by omega)
      · exact i1 w hw
    · rw [List.any_cons, List.any_cons, i2, e0]
theorem op_inD (hu : X.A.units + 101 < cLine) : OpR X (compareOp .In) (rInD X.K false) := by
  intro pins s σ H x y v u Q I rx ry h
  obtain ⟨d, p, xs, l, h1, rfl, hq, h2, hd, q⟩ := h
  cases ry
  rcases hq with hq | hq
  · obtain ⟨its, r, pl, hz⟩ := I.list hq
    obtain ⟨e, _, i1, i2⟩ := inD_items (A := X.A.in1) I rx h1 r h2 (by show X.A.units + 1 + _ + _ < _; omega)
    refine SeqAt.in_listAt e pl.isList (fun w hw => i1 w (by simpa using hw)) ⟨.bl _, H, I, rfl, ?_⟩
    rw [show its.toArray.any e = its.any e by simp, i2]
    exact q
  · obtain ⟨its, r, pl, hz⟩ := I.tuple hq
    obtain ⟨e, _, i1, i2⟩ := inD_items (A := X.A.in1) I rx h1 r h2 (by show X.A.units + 1 + _ + _ < _; omega)
    refine SeqAt.in_tupleAt e pl (fun w hw => i1 w (by simpa using hw)) ⟨.bl _, H, I, rfl, ?_⟩
    rw [show its.toArray.any e = its.any e by simp, i2]
    exact q
theorem op_notInD (hu : X.A.units + 101 < cLine) : OpR X (compareOp .NotIn) (rInD X.K true) := by
  intro pins s σ H x y v u Q I rx ry h
  obtain ⟨d, p, xs, l, h1, rfl, hq, h2, hd, q⟩ := h
  cases ry
  rcases hq with hq | hq
  · obtain ⟨its, r, pl, hz⟩ := I.list hq
    obtain ⟨e, _, i1, i2⟩ := inD_items (A := X.A.in1) I rx h1 r h2 (by show X.A.units + 1 + _ + _ < _; omega)
    refine SeqAt.notIn_listAt e pl.isList (fun w hw => i1 w (by simpa using hw)) ⟨.bl _, H, I, rfl, ?_⟩
    rw [show its.toArray.any e = its.any e by simp, i2]
    exact q
  · obtain ⟨its, r, pl, hz⟩ := I.tuple hq
    obtain ⟨e, _, i1, i2⟩ := inD_items (A := X.A.in1) I rx h1 r h2 (by show X.A.units + 1 + _ + _ < _; omega)
    refine SeqAt.notIn_tupleAt e pl (fun w hw => i1 w (by simpa using hw)) ⟨.bl _, H, I, rfl, ?_⟩
    rw [show its.toArray.any e = its.any e by simp, i2]
    exact q
end
/-! ### deep things, tracked ones, none of their lists at a -/
mutual
def DenN (Av : Addr → Prop) (H : Hp) : D → V → Prop
  | .fl x, v => v = x ∧ flatV x = true
  | .tp l, v => ∃ p xs, v = .ref p ∧ H p = some (.tup xs) ∧ DensN Av H l xs
  | .ls l, v => ∃ p xs, v = .ref p ∧ ¬ Av p ∧ H p = some (.lst xs) ∧ DensN Av H l xs
def DensN (Av : Addr → Prop) (H : Hp) : List D → List V → Prop
  | [], xs => xs = []
  | d :: l, xs => ∃ x r, xs = x :: r ∧ DenN Av H d x ∧ DensN Av H l r
end
section
variable {Av : Addr → Prop} {H H' : Hp}
mutual
theorem DenN.mono (k1 : ∀ b xs, H b = some (.tup xs) → H' b = some (.tup xs)) (k2 : ∀ b xs, ¬ Av b → H b = some (.lst xs) → H' b = some (.lst xs)) : ∀ (d : D) {v : V}, DenN Av H d v → DenN Av H' d v
  | .fl x, v, h => h
  | .tp l, v, h => by
    obtain ⟨p, xs, e, hp, t⟩ := h
    exact ⟨p, xs, e, k1 _ _ hp, DensN.mono k1 k2 l t⟩
  | .ls l, v, h => by
    obtain ⟨p, xs, e, n, hp, t⟩ := h
    exact ⟨p, xs, e, n, k2 _ _ n hp, DensN.mono k1 k2 l t⟩
theorem DensN.mono (k1 : ∀ b xs, H b = some (.tup xs) → H' b = some (.tup xs)) (k2 : ∀ b xs, ¬ Av b → H b = some (.lst xs) → H' b = some (.lst xs)) : ∀ (l : List D) {xs : List V}, DensN Av H l xs → DensN Av H' l xs
  | [], xs, h => h
  | d :: l, xs, h => by
    obtain ⟨x, r, e, h1, h2⟩ := h
    exact ⟨x, r, e, DenN.mono k1 k2 d h1, DensN.mono k1 k2 l h2⟩
end
mutual
theorem DenN.den (K : PySem.W.Frag) : ∀ (d : D) {v : V}, DenN Av H d v → Den K H d v
  | .fl x, v, h => h
  | .tp l, v, h => by
    obtain ⟨p, xs, e, hp, t⟩ := h
    exact ⟨p, xs, e, SqT.of hp, DensN.dens K l t⟩
  | .ls l, v, h => by
    obtain ⟨p, xs, e, n, hp, t⟩ := h
    exact ⟨p, xs, e, SqL.of hp, DensN.dens K l t⟩
theorem DensN.dens (K : PySem.W.Frag) : ∀ (l : List D) {xs : List V}, DensN Av H l xs → Dens K H l xs
  | [], xs, h => h
  | d :: l, xs, h => by
    obtain ⟨x, r, e, h1, h2⟩ := h
    exact ⟨x, r, e, DenN.den K d h1, DensN.dens K l h2⟩
end
mutual
theorem DenN.weak {Bv : Addr → Prop} (k : ∀ b, Bv b → Av b) : ∀ (d : D) {v : V}, DenN Av H d v → DenN Bv H d v
  | .fl x, v, h => h
  | .tp l, v, h => by
    obtain ⟨p, xs, e, hp, t⟩ := h
    exact ⟨p, xs, e, hp, DensN.weak k l t⟩
  | .ls l, v, h => by
    obtain ⟨p, xs, e, n, hp, t⟩ := h
    exact ⟨p, xs, e, fun z => n (k p z), hp, DensN.weak k l t⟩
theorem DensN.weak {Bv : Addr → Prop} (k : ∀ b, Bv b → Av b) : ∀ (l : List D) {xs : List V}, DensN Av H l xs → DensN Bv H l xs
  | [], xs, h => h
  | d :: l, xs, h => by
    obtain ⟨x, r, e, h1, h2⟩ := h
    exact ⟨x, r, e, DenN.weak k d h1, DensN.weak k l h2⟩
end
theorem DensN.length : ∀ {l : List D} {xs : List V}, DensN Av H l xs → l.length = xs.length
  | [], xs, h => by rw [show xs = [] from h]; rfl
  | d :: l, xs, h => by
    obtain ⟨x, r, rfl, _, t⟩ := h
    rw [List.length_cons, List.length_cons, DensN.length t]
theorem DensN.get : ∀ {l : List D} {xs : List V} {i : Nat} {x : V}, DensN Av H l xs → xs[i]? = some x → ∃ d, l[i]? = some d ∧ DenN Av H d x
  | [], xs, i, x, h, e => by rw [show xs = [] from h] at e; simp at e
  | d :: l, xs, 0, x, h, e => by
    obtain ⟨y, r, rfl, h1, _⟩ := h
    simp at e
    subst e
    exact ⟨d, rfl, h1⟩
  | d :: l, xs, i + 1, x, h, e => by
    obtain ⟨y, r, rfl, _, h2⟩ := h
    obtain ⟨d', e1, e2⟩ := DensN.get (i := i) h2 (by simpa using e)
    exact ⟨d', by simpa using e1, e2⟩
theorem DensN.set : ∀ {l : List D} {xs : List V} {d : D} {x : V} (i : Nat), DensN Av H l xs → DenN Av H d x → DensN Av H (l.set i d) (xs.set i x)
  | [], xs, d, x, i, h, e => by rw [show xs = [] from h]; exact rfl
  | d :: l, xs, d', x, 0, h, e => by
    obtain ⟨y, r, rfl, h1, h2⟩ := h
    exact ⟨x, r, rfl, e, h2⟩
  | d :: l, xs, d', x, i + 1, h, e => by
    obtain ⟨y, r, rfl, h1, h2⟩ := h
    exact ⟨y, _, rfl, h1, DensN.set i h2 e⟩
theorem DensN.app : ∀ {l m : List D} {xs ys : List V}, DensN Av H l xs → DensN Av H m ys → DensN Av H (l ++ m) (xs ++ ys)
  | [], m, xs, ys, h, h' => by rw [show xs = [] from h]; exact h'
  | d :: l, m, xs, ys, h, h' => by
    obtain ⟨y, r, rfl, h1, h2⟩ := h
    exact ⟨y, _, rfl, h1, DensN.app h2 h'⟩
theorem DensN.one {d : D} {x : V} (h : DenN Av H d x) : DensN Av H [d] [x] := ⟨x, [], rfl, h, rfl⟩
theorem DenN.fl {x : V} (h : flatV x = true := by rfl) : DenN Av H (.fl x) x := ⟨rfl, h⟩
theorem DensN.cons {d : D} {x : V} {l : List D} {xs : List V} (h : DenN Av H d x) (t : DensN Av H l xs) : DensN Av H (d :: l) (x :: xs) := ⟨x, xs, rfl, h, t⟩
theorem DensN.nil : DensN Av H [] [] := rfl
mutual
theorem DenN.refl : ∀ (d : D) {v : V}, DenN Av H d v → d.eq d = true
  | .fl x, v, h => by
    rw [D.eq]
    exact eqV_refl h.2
  | .tp l, v, h => by
    obtain ⟨p, xs, e, hp, t⟩ := h
    rw [D.eq]
    exact DensN.refl l t
  | .ls l, v, h => by
    obtain ⟨p, xs, e, n, hp, t⟩ := h
    rw [D.eq]
    exact DensN.refl l t
theorem DensN.refl : ∀ (l : List D) {xs : List V}, DensN Av H l xs → D.eqs l l = true
  | [], xs, h => by rw [D.eqs]
  | d :: l, xs, h => by
    obtain ⟨x, r, e, h1, h2⟩ := h
    rw [D.eqs, DenN.refl d h1, DensN.refl l h2]
    rfl
end
end
theorem new_of {H H1 : Hp} {p : Addr} {o : HO} (h : H p = none) (e : upd H p o = H1) : Same H H1 ∧ H1 p = some o := by
  subst e
  refine ⟨fun b u q => ?_, upd_same⟩
  rw [upd_ne (ne_of_none q h)]
  exact q
/-! ### displays of constants and flat names -/
def tF (Av : Addr → Prop) (f : St → Option D) : TE := fun σ H Q => ∃ d, f σ = some d ∧ (∀ b, Av b → H b ≠ none) ∧ ∀ v H', Same H H' → DenN Av H' d v → Q v H'
def aF (Av : Addr → Prop) (f : St → Option (List D)) : TA := fun σ H Q => ∃ l, f σ = some l ∧ (∀ b, Av b → H b ≠ none) ∧ ∀ vs H', Same H H' → DensN Av H' l vs → Q vs H'
theorem pe_weak {X : Cx} {e : Expr} {t t' : TE} (h : PE X e t) (k : ∀ σ H Q, t' σ H Q → t σ H Q) : PE X e t' := fun pins s σ H Q I w => h pins s σ H Q I (k σ H Q w)
theorem pa_weak {X : Cx} {es : List Expr} {t t' : TA} (h : PA X es t) (k : ∀ σ H Q, t' σ H Q → t σ H Q) : PA X es t' := fun pos pins s σ H Q I w => h pos pins s σ H Q I (k σ H Q w)
theorem some_of_same {H H' : Hp} {b : Addr} (s : Same H H') (h : H b ≠ none) : H' b ≠ none := by
  cases e : H b with
  | none => exact absurd e h
  | some o => rw [s _ _ e]; intro z; cases z
section
variable {X : Cx} {Av : Addr → Prop}
theorem pf_c {e : Expr} {x : V} (h : PE X e (tC x)) (f : flatV x = true := by rfl) : PE X e (tF Av fun _ => some (.fl x)) := pe_weak h fun σ H Q ⟨d, e, _, q⟩ => by
  cases e
  exact q x H (Same.refl H) ⟨rfl, f⟩
def flatAt (i : Nat) (σ : St) : Option D := match σ[i]? with
  | some (some v) => if flatV v then some (.fl v) else none
  | _ => none
theorem pf_v {e : Expr} {i : Nat} (h : PE X e (tVar i)) : PE X e (tF Av (flatAt i)) := pe_weak h fun σ H Q ⟨d, e, _, q⟩ => by
  unfold flatAt at e
  split at e
  · rename_i v hv
    by_cases hf : flatV v = true
    · rw [if_pos hf] at e
      cases e
      exact ⟨v, hv, q v H (Same.refl H) ⟨rfl, hf⟩⟩
    · rw [if_neg hf] at e
      cases e
  · cases e
theorem pf_neg {n : Int} {j : Nat} {p pos : Pos} : PE X (.UnaryOp .USub (.Constant (.int n) j p) pos) (tF Av fun _ => some (.fl (.int (-n)))) := pe_weak (pe_un un_neg pe_int) fun σ H Q ⟨d, e, _, q⟩ => by
  cases e
  exact ⟨n, rfl, q _ H (Same.refl H) ⟨rfl, rfl⟩⟩
theorem pf_nil : PA X [] (aF Av fun _ => some []) := pa_weak pa_nil fun σ H Q ⟨d, e, _, q⟩ => by
  cases e
  exact q [] H (Same.refl H) rfl
theorem pf_cons {e : Expr} {es : List Expr} {f : St → Option D} {g : St → Option (List D)} (h : PE X e (tF Av f)) (t : PA X es (aF Av g)) (hs : starEach (e :: es) X.env = (false, eval e X.env) :: starEach es X.env := by rfl) :
    PA X (e :: es) (aF Av fun σ => (f σ).bind fun d => (g σ).map fun l => d :: l) := pa_weak (pa_cons h t hs) fun σ H Q ⟨l, e, ho, q⟩ => by
  obtain ⟨d, e1, e2⟩ := Option.bind_eq_some_iff.mp e
  obtain ⟨l', e3, rfl⟩ := Option.map_eq_some_iff.mp e2
  refine ⟨d, e1, ho, fun v H1 s1 d1 => ⟨l', e3, fun b hb => some_of_same s1 (ho b hb), fun vs H2 s2 d2 => q (v :: vs) H2 (s1.trans s2) ?_⟩⟩
  exact .cons (DenN.mono (fun _ _ e => s2 _ _ e) (fun _ _ _ e => s2 _ _ e) d d1) d2
theorem pf_tup {es : List Expr} {g : St → Option (List D)} {x1 pos} (t : PA X es (aF Av g)) : PE X (.Tuple es x1 pos) (tF Av fun σ => (g σ).bind fun l => if l.length ≤ 1000 then some (.tp l) else none) := pe_weak (pe_tup t) fun σ H Q ⟨d, e, ho, q⟩ => by
  obtain ⟨l, e1, e2⟩ := Option.bind_eq_some_iff.mp e
  by_cases hl : l.length ≤ 1000
  · rw [if_pos hl] at e2
    cases e2
    refine ⟨l, e1, ho, fun vs H1 s1 d1 => ⟨?_, fun p hp => ?_⟩⟩
    · rw [← d1.length]
      have : (1000 : Nat) ≤ sizeLine := by decide
      omega
    · have s2 : Same H1 (upd H1 p (.tup vs)) := (new_of hp rfl).1
      exact q _ _ (s1.trans s2) ⟨p, vs, rfl, upd_same, DensN.mono (fun _ _ e => s2 _ _ e) (fun _ _ _ e => s2 _ _ e) l d1⟩
  · rw [if_neg hl] at e2
    cases e2
theorem pf_lst {es : List Expr} {g : St → Option (List D)} {pos} (t : PA X es (aF Av g)) : PE X (.List es pos) (tF Av fun σ => (g σ).bind fun l => if l.length ≤ 1000 then some (.ls l) else none) := pe_weak (pe_lst t) fun σ H Q ⟨d, e, ho, q⟩ => by
  obtain ⟨l, e1, e2⟩ := Option.bind_eq_some_iff.mp e
  by_cases hl : l.length ≤ 1000
  · rw [if_pos hl] at e2
    cases e2
    refine ⟨l, e1, ho, fun vs H1 s1 d1 => ⟨?_, fun p hp => ?_⟩⟩
    · rw [← d1.length]
      have : (1000 : Nat) ≤ sizeLine := by decide
      omega
    · have s2 : Same H1 (upd H1 p (.lst vs)) := (new_of hp rfl).1
      exact q _ _ (s1.trans s2) ⟨p, vs, rfl, fun z => some_of_same s1 (ho p z) hp, upd_same, DensN.mono (fun _ _ e => s2 _ _ e) (fun _ _ _ e => s2 _ _ e) l d1⟩
  · rw [if_neg hl] at e2
    cases e2
end
/-! ### calls bundled -/
structure Cal (P : Program) (w : World) (K : PySem.W.Frag) (mg : Str → Option Value) (base : Heap) (CX : CXT) (k : Nat) (x : Str) (ps : List Str) (sp : Sp) : Prop where
  ex : ∃ f fd, FnOk P w K mg base CX k f fd ps sp ∧ mg x = some (.ref f) ∧ PySem.W.keepIn K (.ref f) = true ∧ Binds K fd ps []
theorem pe_c {X : Cx} {CX : CXT} {k : Nat} {x : Str} {ps : List Str} {sp : Sp} {E : XK} {e : Expr} {es : List Expr} {t : TA} {p pos : Pos} (C : Cal X.prog X.w X.K X.mg X.base CX k x ps sp) (hr : Room k X.A) (hg : Gl X x) (hx : Passes CX X E)
    (ha : PA X (e :: es) t) (hdb : (x == ("__debug__" : Str)) = false := by decide) (he : starEach (e :: es) X.env = (false, eval e X.env) :: starEach es X.env := by rfl) (hpl : (backTo pos (starEach es X.env)).any (·.1) = false := by rfl) :
    PE X (.Call (.Name x p) (e :: es) [] pos) (tCall sp [] E t) := by
  obtain ⟨f, fd, F, hm, hk, hb⟩ := C.ex
  exact pe_call F hr hg hm hk hb .nil hx ha hdb he hpl
/-! ### comprehensions whose scope is decided -/
abbrev CompOk (scope sc0 : Scope) (cap : List (Str × Nat)) (N : List Str) : Prop := scope.kind = .function ∧ (∀ y ∈ scope.names, y.2 ≠ .cell) ∧ (∀ y ∈ scope.names, y.2 = .local → scope.names.lookup y.1 = some .local) ∧
  (∀ y ∈ scope.names, y.2 = .free → sc0.names.lookup y.1 = some .cell) ∧ (∀ p ∈ cap, N[p.2]? = some p.1 ∧ scope.names.lookup p.1 = some .free ∧ sc0.names.lookup p.1 = some .cell)
section
variable {X : Cx}
theorem cs_of {scope : Scope} {cap : List (Str × Nat)} {sc0 : Scope} {N0 : List Str} (hs : X.env.scope = sc0) (hN : X.N = N0) (hcell : ∀ x, X.env.scope.names.lookup x = some .cell → ∃ c, X.env.cells.lookup x = some c) (ok : CompOk scope sc0 cap N0) : ∃ cl, CompScope X scope cap cl := by
  subst hs hN
  exact comp_scope hcell ok.1 ok.2.1 ok.2.2.1 ok.2.2.2.1 ok.2.2.2.2
theorem pe_cp {elt iter tg : Expr} {scope : Scope} {own : List Str} {cap : List (Str × Nat)} {pos : Pos} {wi : TI} {g : TG} {te : TE} (sc0 : Scope) (N0 : List Str) (hsc : X.env.scope = sc0) (hN : X.N = N0) (hcell : ∀ x, X.env.scope.names.lookup x = some .cell → ∃ c, X.env.cells.lookup x = some c)
    (ok : CompOk scope sc0 cap N0) (hc : X.calm = true) (hi : PI X tg iter wi)
    (hg : ∀ cl C s2 H2 fp, PG (cxComp X (capN own cap) scope cl C s2 H2 fp) tg g) (he : ∀ cl C s2 H2 fp, PE (cxComp X (capN own cap) scope cl C s2 H2 fp) elt te)
    (hs : ∀ x, foldedSetIterable iter X.env x = pure x := by intro _; rfl) : PE X (.ListComp elt [⟨tg, iter, [], 0⟩] scope pos) (tComp own.length cap wi g te) := by
  obtain ⟨cl, S⟩ := cs_of hsc hN hcell ok
  exact pe_comp S hc hi (hg cl) (he cl) hs
theorem ps_cp {i : Nat} {x : Str} {elt iter tg : Expr} {scope : Scope} {own : List Str} {cap : List (Str × Nat)} {pos spos py : Pos} {wi : TI} {g : TG} {te : TE} (hnd : X.N.Nodup) (hi' : X.N[i]? = some x) (hx : Loc X.env.scope x)
    (sc0 : Scope) (N0 : List Str) (hsc : X.env.scope = sc0) (hN : X.N = N0) (hcell : ∀ x, X.env.scope.names.lookup x = some .cell → ∃ c, X.env.cells.lookup x = some c)
    (ok : CompOk scope sc0 cap N0) (hc : X.calm = true) (hi : PI X tg iter wi)
    (hg : ∀ cl C s2 H2 fp, PG (cxComp X (capN own cap) scope cl C s2 H2 fp) tg g) (he : ∀ cl C s2 H2 fp, PE (cxComp X (capN own cap) scope cl C s2 H2 fp) elt te)
    (hsw : swapsWith (.ListComp elt [⟨tg, iter, [], 0⟩] scope pos) (some (.Name x py)) spos.line X.env = pure true := by rfl)
    (hs : ∀ x, foldedSetIterable iter X.env x = pure x := by intro _; rfl) (hf : X.fn x = true ∨ X.env.scope.names.lookup x = some .local := by first | exact .inl rfl | exact .inr rfl | assumption) :
    PS X (.Assign [.Name x py] (.ListComp elt [⟨tg, iter, [], 0⟩] scope pos) spos) (tAsg (tComp own.length cap wi g te) (gName i)) := by
  obtain ⟨cl, S⟩ := cs_of hsc hN hcell ok
  exact ps_setComp hnd hi' hx S hc hi (hg cl) (he cl) hsw hs hf
end
/-! ### an attribute stored at an exception of an own class -/
section
variable {prog : Program} {w : World} {A : Around} {E : Value → Shared → Prop} {s : Shared} {K : PySem.W.Frag} {x C : Addr}
/-- own classes, then ValueError's line -/
def excTail : List Value := [.type "ValueError", .type "Exception", .type "BaseException", .type "object"]
def overVE : List Value → Bool
  | .ref _ :: r => overVE r
  | l => l == excTail
theorem overVE_pass (self : Value) : ∀ {l : List Value}, overVE l = true → refuseLoop self "__setattr__" l = pure () ∧ l.contains (.type "object") = true ∧ l.isEmpty = false
  | [], e => by cases (show ([] == excTail) = true from e)
  | v :: r, e => by
    cases v with
    | ref c =>
      have ih := overVE_pass self (l := r) e
      refine ⟨by rw [refuseLoop_ref]; exact ih.1, ?_, rfl⟩
      rw [List.contains_cons, ih.2.1, Bool.or_true]
    | type n =>
      have q : (Value.type n :: r) = excTail := beq_iff_eq.mp (show ((Value.type n :: r) == excTail) = true from e)
      rw [q]
      exact ⟨PySem.F.store_ValueError.passes self, by decide, rfl⟩
    | none => have q : (Value.none :: r) = excTail := beq_iff_eq.mp (show ((Value.none :: r) == excTail) = true from e); cases q
    | ellipsis => have q : (Value.ellipsis :: r) = excTail := beq_iff_eq.mp (show ((Value.ellipsis :: r) == excTail) = true from e); cases q
    | notImplemented => have q : (Value.notImplemented :: r) = excTail := beq_iff_eq.mp (show ((Value.notImplemented :: r) == excTail) = true from e); cases q
    | bool z => have q : (Value.bool z :: r) = excTail := beq_iff_eq.mp (show ((Value.bool z :: r) == excTail) = true from e); cases q
    | int z u => have q : (Value.int z u :: r) = excTail := beq_iff_eq.mp (show ((Value.int z u :: r) == excTail) = true from e); cases q
    | float z u => have q : (Value.float z u :: r) = excTail := beq_iff_eq.mp (show ((Value.float z u :: r) == excTail) = true from e); cases q
    | str z u => have q : (Value.str z u :: r) = excTail := beq_iff_eq.mp (show ((Value.str z u :: r) == excTail) = true from e); cases q
    | bytes z u => have q : (Value.bytes z u :: r) = excTail := beq_iff_eq.mp (show ((Value.bytes z u :: r) == excTail) = true from e); cases q
    | builtin z => have q : (Value.builtin z :: r) = excTail := beq_iff_eq.mp (show ((Value.builtin z :: r) == excTail) = true from e); cases q
def overE (K : PySem.W.Frag) (C : Addr) : Bool := (PySem.W.clsIn K C).any fun cd => overVE cd.mro
/-- object.__setattr__ at an exception: into its own dict -/
theorem osa_exc {ox : Obj} {od : Option Obj} {name : Str} {tk : Tok} {v : Value} {R : Result → Shared → Prop} (X : K.In s.heap) (I : PySem.W.InstAt s.heap x ox C od) (hp : overE K C = true) (ht : PySem.W.takerIn K C name = some none)
    (h : ∀ b, wpAny (model prog w) A.in1 (Builtin.ObjectAttr.storeInOwnDict (.ref x) (.ref C) (.str name tk) name v b)
      (fun fin s' => match fin with | .done f => R (.ok f) s' | .again c' => c'.quiet = true ∧ codeAny (model prog w) A c' R s') (fun e s' => R (.error e) s') s) :
    codeAny (model prog w) A (.call (.builtin "object.__setattr__") ⟨[.ref x, .str name tk, v], []⟩) R s := by
  have SF := PySem.F.store_object
  obtain ⟨cd, hc, ho⟩ := PySem.W.any_some hp
  obtain ⟨pass, has, ne⟩ := overVE_pass (.ref x) ho
  have sub : PySem.W.Looks (model prog w) s.heap (isInstance (.ref x) (.type "object")) true := I.type.andThen (PySem.W.looks_mroIn X (by unfold PySem.W.mroIn; rw [hc, Option.bind_some, if_neg (by rw [ne]; decide), has]))
  refine codeAny_call_builtin SF.slot.plain SF.entry (@PySem.W.check_slot (model prog w) _ _ s "object.__setattr__" "object" "__setattr__" (.ref x) [.str name tk, v] [] _ SF.kind SF.split sub (SF.args (.ref x) (.str name tk) v) ?_)
  obtain ⟨attr, ha, hr⟩ := Option.bind_eq_some_iff.mp ht
  have hm : PySem.W.Looks (model prog w) s.heap (mroOf (.ref C)) cd.mro := (PySem.W.looks_clsIn X hc).andThen .now
  have L3 : PySem.W.Looks (model prog w) s.heap (Builtin.ObjectAttr.storeTaker? attr) none := by
    cases attr with
    | none => exact .now
    | some a =>
      obtain ⟨b, hb, e⟩ := Option.map_eq_some_iff.mp hr
      refine (PySem.W.looks_takesIn X hb).andThen ?_
      cases b
      · exact .now
      · cases e
  rw [PySem.W.osa_eq, refuse_eq]
  refine wpAny_bind (wpAny_bind (I.type.here (wpAny_bind (hm.here ?_)))); rw [pass]
  refine wpAny_pure (wpAny_bind (I.type.here (wpAny_bind ((PySem.W.looks_findIn X ha).here (wpAny_bind (L3.here ?_))))))
  exact h _
/-- x.name = v, the exception x without a dict yet: it gets one -/
theorem set_exc {ox : Obj} {name : Str} {v : Value} {Q : Unit → Shared → Prop} (X : K.In s.heap) (hx : s.heap.get? x = some ox) (hcl : ox.cls = .ref C) (hnc : ∀ c, ox.data ≠ .cls c) (hdn : ox.dict = none)
    (hs : PySem.W.findIn K (.ref C) "__setattr__" = some (some (.builtin "object.__setattr__"))) (hp : overE K C = true) (ht : PySem.W.takerIn K C name = some none) (hh : PySem.W.hasDictIn K C = true)
    (h : ∀ h', h'.get? x = some { ox with dict := some s.heap.objs.size } → h'.Ns1 s.heap.objs.size (fun y => if y = name then some v else none) → s.heap.objs.size < h'.objs.size → (∀ b o, b ≠ x → s.heap.get? b = some o → h'.get? b = some o) → Q () { s with heap := h', toks := s.toks + 2 }) :
    wpAny (model prog w) A (setAttr (.ref x) name v) Q E s := by
  have hno : PySem.W.notCls ox = true := by
    unfold PySem.W.notCls
    cases e : ox.data with
    | cls c => exact absurd e (hnc c)
    | _ => rfl
  have I : PySem.W.InstAt s.heap x ox C none := ⟨hx, hcl, hno, by rw [hdn]; trivial⟩
  obtain ⟨hp0, gg, dw, tt, oo⟩ := s
  refine PySem.W.set_plain X I hs (osa_exc (s := ⟨hp0, gg, dw, tt + 1, oo⟩) X I hp ht fun b => ?_)
  obtain ⟨cd, hc, hd'⟩ := PySem.W.any_some hh
  obtain ⟨oc, odi, oda, osl⟩ := ox
  have e1 : oc = .ref C := hcl
  have e2 : odi = none := hdn
  subst e1 e2
  refine wpAny_bind (wpAny_pure (wpAny_bind (wpAny_bind (wpAny_loadPart hx ?_))))
  refine wpAny_bind (PySem.W.Looks.here (s := ⟨hp0, gg, dw, tt + 1, oo⟩) (PySem.W.looks_clsIn X hc) ?_)
  rw [hd']
  have hx1 : (hp0.push { cls := .type "dict", data := .dict #[] }).get? x = some ⟨.ref C, none, oda, osl⟩ := Heap.get?_push_of_some _ hx
  have hxs : x ≠ hp0.objs.size := Nat.ne_of_lt (Heap.lt_size hx)
  have go : wpAny (model prog w) A.in1 (do let d ← alloc { cls := Value.type "dict", data := Data.dict #[] }; update x fun o => { cls := o.cls, dict := some d, data := o.data, slots := o.slots }; dictMade (.ref C) x d)
      (fun a s' => a = some hp0.objs.size ∧ s' = ⟨(hp0.push { cls := .type "dict", data := .dict #[] }).update x fun o => { cls := o.cls, dict := some hp0.objs.size, data := o.data, slots := o.slots }, gg, dw, tt + 1, oo⟩)
      (fun _ _ => False) ⟨hp0, gg, dw, tt + 1, oo⟩ := wpAny_bind (wpAny_alloc' (wpAny_bind (wpAny_update' hx1 (wpAny_pure ⟨rfl, rfl⟩))))
  have step : wpAny (model prog w) A.in1 (match oda with
      | .cls _ => pure none
      | _ => do let d ← alloc { cls := Value.type "dict", data := Data.dict #[] }; update x fun o => { cls := o.cls, dict := some d, data := o.data, slots := o.slots }; dictMade (.ref C) x d)
      (fun a s' => a = some hp0.objs.size ∧ s' = ⟨(hp0.push { cls := .type "dict", data := .dict #[] }).update x fun o => { cls := o.cls, dict := some hp0.objs.size, data := o.data, slots := o.slots }, gg, dw, tt + 1, oo⟩)
      (fun _ _ => False) ⟨hp0, gg, dw, tt + 1, oo⟩ := by
    cases oda with
    | cls c => exact absurd rfl (hnc c)
    | _ => exact go
  refine wpAny_mono step (fun a s' ⟨ea, es⟩ => ?_) fun _ _ z => z.elim
  subst ea es
  have hfr : (⟨.ref C, some hp0.objs.size, oda, osl⟩ : Obj).isFreed = false := by
    have := (Heap.get?_some_iff.mp hx).2
    cases oda <;> first | rfl | exact this
  have hgd : ((hp0.push { cls := .type "dict", data := .dict #[] }).update x fun o => { cls := o.cls, dict := some hp0.objs.size, data := o.data, slots := o.slots }).get? hp0.objs.size = some { cls := .type "dict", data := .dict #[] } :=
    (Heap.get?_update_ne _ _ _ _ hxs.symm).trans (Heap.get?_push_at rfl rfl)
  have hnd : ((hp0.push { cls := .type "dict", data := .dict #[] }).update x fun o => { cls := o.cls, dict := some hp0.objs.size, data := o.data, slots := o.slots }).Ns hp0.objs.size (fun _ => none) := ⟨_, #[], _, hgd, rfl, fun e he => absurd he (by simp), fun _ => rfl⟩
  show wpAny _ _ (Builtin.ObjectAttr.storeInDict hp0.objs.size (.str name tt) name v) _ _ _
  unfold Builtin.ObjectAttr.storeInDict Builtin.ObjectAttr.newKeyGuard
  refine wpAny_bind (wpAny_pure (wpAny_bind (wpAny_nsSet1 (Heap.Ns1.of_empty hnd) fun h' hn' hsb => ?_)))
  obtain ⟨oD, esD, epD, hoD, hdD, hcD⟩ := hn'.count (PySem.Within.cons name v PySem.Within.nil)
  refine wpAny_bind (wpAny_lookBehind hoD (by rw [hdD]; exact pastItsLine_dict (Nat.le_trans hcD (by rw [List.length_cons, List.length_nil, sizeLine_eq]; omega))) ?_)
  refine wpAny_pure (h h' ?_ hn' (Heap.lt_size hoD) fun b o hb eb => ?_)
  · exact (hsb.2 x hxs).trans (Heap.get?_update_self _ hx1 hfr)
  · exact (hsb.2 b (Nat.ne_of_lt (Heap.lt_size eb))).trans ((Heap.get?_update_ne _ _ _ _ hb).trans (Heap.get?_push_of_some _ eb))
end
/-! ### ValueError.__init__(x, v) at an exception of an own class -/
section
variable {prog : Program} {w : World} {A : Around} {E : Value → Shared → Prop} {s : Shared} {K : PySem.W.Frag} {x C : Addr}
/-- the class object as the library names it, with ValueError in its line -/
theorem ve_check {nm qn : Str} {N : Addr} {bs bm : List Value} {hdct : Bool} {sn : List Str} {sub : List Value} {ab : Bool} {col : Option Bool} {dd : Option Addr} {k0 k1 k2 k3 k5 : Option Value} {newId : String} {ox : Obj} {v : Value} {M : Model} {Q : Unit → Shared → Prop}
    {hp : Heap} {gg : Array GenState} {dw : Drawn} {tt : Nat} {oo : OsState}
    (hC : hp.get? C = some (excClassObj nm qn C N bs bm hdct sn sub ab col dd k0 k1 k2 k3 k5 newId)) (hbm : bm.contains (.type "ValueError") = true) (hx : hp.get? x = some ox) (hcl : ox.cls = .ref C) (hq : Q () ⟨hp, gg, dw, tt, oo⟩) :
    wpAny M A (checkBuiltinCall "ValueError.__init__" ⟨[.ref x, v], []⟩) Q E ⟨hp, gg, dw, tt, oo⟩ := by
  have F := PySem.F.excCall_ValueError
  have has : (Value.ref C :: bm).contains (.type "ValueError") = true := by rw [List.contains_cons, hbm, Bool.or_true]
  have hshort := F.noStar
  simp only [checkBuiltinCall, F.initKind, F.initSplit, F.initRow]
  unfold isInstance
  repeat (first | (with_reducible refine wpAny_loadPart_at hx ?_; rw [hcl]) | (with_reducible refine wpAny_isSubtype_exc hC ?_; rw [has]) | with_reducible refine wpAny_loadPart_at hC ?_ | wp_step)
  exact hq
theorem ve_call {ox : Obj} {vs : Array Value} {v : Value} {Q : Value → Shared → Prop} (X : K.In s.heap) (hx : s.heap.get? x = some ox) (hcl : ox.cls = .ref C) (hd : ox.data = .fields vs) (hsz : vs.size = 6)
    (hm : PySem.W.ktsIn K C "ValueError" = true)
    (h : ∀ (h' : Heap) (vs' : Array Value), h'.get? x = some { ox with data := .fields vs' } → vs'.size = 6 → vs'[1]? = vs[1]? → (∀ b o, b ≠ x → s.heap.get? b = some o → h'.get? b = some o) → Q .none { s with heap := h' }) :
    wpAny (model prog w) A (call (.builtin "ValueError.__init__") [.ref x, v]) Q E s := by
  have F := PySem.F.excCall_ValueError
  obtain ⟨nm, qn, N, bs, bm, hdct, sn, sub, ab, col, dd, k0, k1, k2, k3, k5, newId, hC, _, hbm⟩ := PySem.W.kts_cls X hm
  obtain ⟨hp0, gg, dw, tt, oo⟩ := s
  refine wpAny_call (codeAny_call_builtin F.init.plain F.initEntry (ve_check hC hbm hx hcl ?_))
  have hx1 : (hp0.push { cls := .type "tuple", data := .seq [v].toArray }).get? x = some ox := Heap.get?_push_of_some _ hx
  have h0 : ∃ a0, vs[0]? = some a0 := ⟨vs[0], by simp [hsz]⟩
  obtain ⟨a0, h0⟩ := h0
  show wpAny _ _ (do let t ← newTuple [v]; Builtin.BaseException.bexcPut (.ref x) 0 t; ret .none) _ _ _
  refine wpAny_bind (wpAny_newTuple (wpAny_bind ?_))
  unfold Builtin.BaseException.bexcPut
  refine wpAny_bind (wpAny_field hx1 hd h0 (wpAny_bind (wpAny_setField hx1 hd (by omega) ?_)))
  have hd2 := Obj.data_mapFields hd (·.setIfInBounds 0 (Value.ref hp0.objs.size))
  have hx2 := Heap.get?_update_self (Obj.mapFields (·.setIfInBounds 0 (Value.ref hp0.objs.size))) hx1 (Obj.isFreed_of_fields hd2)
  have fin : Q .none ⟨(hp0.push { cls := .type "tuple", data := .seq [v].toArray }).update x (Obj.mapFields (·.setIfInBounds 0 (Value.ref hp0.objs.size))), gg, dw, tt, oo⟩ := by
    refine h _ (vs.setIfInBounds 0 (Value.ref hp0.objs.size)) ?_ (by simp [hsz]) (by simp) fun b o hb eb => ?_
    · rw [hx2]
      congr 1
      obtain ⟨oc, od, oda, osl⟩ := ox
      have e : oda = .fields vs := hd
      subst e
      rfl
    · rw [Heap.get?_update_other _ _ (Ne.symm hb)]
      exact Heap.get?_push_of_some _ eb
  cases a0 <;> first | exact wpAny_pure (wpAny_pure fin) | exact wpAny_letGo (wpAny_pure fin)
end
/-! ### an exception of an own class as a tracked thing, and the two statements of its __init__ -/
def ExcH (e C : Addr) (od : Option Addr) : HO := .ext fun h => ∃ vs sl, h.get? e = some ⟨.ref C, od, .fields vs, sl⟩ ∧ vs.size = 6 ∧ vs[1]? = some .none
theorem excH_ok {P : Program} {w : World} {H : Hp} {h : Heap} {e C : Addr} {od : Option Addr} {vs : Array Value} {sl : Array (Option Value)} (hx : h.get? e = some ⟨.ref C, od, .fields vs, sl⟩) (hs : vs.size = 6) (h1 : vs[1]? = some .none) : ObjOk P w H h e (ExcH e C od) :=
  ⟨⟨vs, sl, hx, hs, h1⟩, ⟨_, hx⟩, fun h1 h2 ⟨vs, sl, a, b, c⟩ k => ⟨vs, sl, k _ a, b, c⟩⟩
theorem upd_self {H : Hp} {a : Addr} {o : HO} (h : H a = some o) : upd H a o = H := by
  funext b
  by_cases e : b = a
  · subst e; rw [upd_same, h]
  · rw [upd_ne e]
section
variable {X : Cx} {a b : Expr} {ta tb : TE} {p apos pos : Pos}
theorem type_ga : (PySem.W.findIn [] (.type "type") "__getattribute__") = some (some (.builtin "type.__getattribute__")) := by decide +kernel
theorem ve_found (K : PySem.W.Frag) : PySem.W.findCls K (.type "ValueError") (.type "type") "__init__" = some (.val (.builtin "ValueError.__init__")) := by
  have : PySem.W.findCls [] (.type "ValueError") (.type "type") "__init__" = some (.val (.builtin "ValueError.__init__")) := by kernel_rfl
  exact this
theorem ve_method {prog : Program} {w : World} {A : Around} {E : Value → Shared → Prop} {s : Shared} {K : PySem.W.Frag} {pl : Sem Bool} {Q : Value × List Value → Shared → Prop} (X : K.In s.heap) (h : Q (.builtin "ValueError.__init__", []) { s with toks := s.toks + 1 }) :
    wpAny (model prog w) A (getMethod (.type "ValueError") "__init__" pl) Q E s := by
  have hs : Manifest.isStub "ValueError" = false := by decide +kernel
  have ht : typeOf (.type "ValueError") = pure (.type "type") := by kernel_rfl
  have hstub : opaqueClassAbove (.type "ValueError") = pure none := by unfold opaqueClassAbove; dsimp only; rw [hs]; rfl
  have L0 : PySem.W.Looks (model prog w) s.heap (typeOf (.type "ValueError")) (.type "type") := PySem.W.Looks.of_pure ht
  have hg : PySem.W.findIn K (.type "type") "__getattribute__" = some (some (.builtin "type.__getattribute__")) := type_ga
  unfold getMethod specialOf
  refine wpAny_bind (wpAny_bind (L0.here ((PySem.W.looks_findIn X hg).here ?_)))
  dsimp only
  rw [if_pos PySem.W.canon_tga]
  refine wpAny_bind (wpAny_mono (Q := fun v => Q (v, [])) (E := E) ?_ (fun _ _ z => wpAny_pure z) fun _ _ z => z)
  have LO : PySem.W.Looks (model prog w) s.heap (opaqueClassAbove (.type "ValueError")) none := PySem.W.Looks.of_pure hstub
  refine PySem.W.cls_open X LO L0 hg (PySem.W.looks_hook X (r := none) (by rfl)) (by show PySem.W.subIn K _ _ = _; rfl) (ve_found K) (wpAny_pure ?_)
  show wpAny _ _ (handedOut (.builtin "ValueError.__init__")) _ _ _
  rw [PySem.W.handedOut_of (show PySem.W.handedIn (.builtin "ValueError.__init__") = true by decide +kernel)]
  exact wpAny_pure h
/-- ValueError.__init__(a, b), a an exception of an own class -/
def tVe (K : PySem.W.Frag) (t : TA) : TE := fun σ H Q => t σ H fun vs H2 => ∃ e C y od, vs = [.ref e, y] ∧ H2 e = some (ExcH e C od) ∧ PySem.W.ktsIn K C "ValueError" = true ∧ Q .non H2
theorem pe_ve {t : TA} {pl : Sem Bool} (hg : Gl X "ValueError") (hm : X.mg "ValueError" = none) (ha : PA X [a, b] t) (hs : starEach [a, b] X.env = [(false, eval a X.env), (false, eval b X.env)] := by rfl)
    (he : eval (.Call (.Attribute (.Name "ValueError" p) "__init__" apos) [a, b] [] pos) X.env = (do
      let ov ← eval (.Name "ValueError" p) X.env
      standAt apos.atName
      let (f, first) ← holding [ov] (getMethod ov "__init__" pl)
      callWith pos f first (backTo pos (starEach [a, b] X.env)) (backToKw pos (keywordEach [] X.env))) := by rfl) :
    PE X (.Call (.Attribute (.Name "ValueError" p) "__init__" apos) [a, b] [] pos) (tVe X.K t) := by
  intro pins s σ H Q I h
  have hv : bootBuiltins "ValueError" = some (.type "ValueError") := by decide +kernel
  have hn : PE X (.Name "ValueError" p) (tC (.ty "ValueError")) := pe_bltn (v := .ty "ValueError") hg hm hv rfl (by decide) (by decide)
  refine PySem.W.methodCall_KW (pl := pl) (thn (hn pins s σ H (fun x H1 => x = .ty "ValueError" ∧ H1 = H) I ⟨rfl, rfl⟩) fun u s1 ⟨x, H1, I1, rx, e1, e2⟩ => ?_) he
  subst e1 e2
  obtain rfl : u = Value.type "ValueError" := rx
  refine ve_method I1.kIn ?_
  have I2 := I1.tok (s1.toks + 1)
  have hA := ha pos pins _ σ H1 _ I2 h
  rw [hs] at hA
  show wpAny _ _ (callWith pos (.builtin "ValueError.__init__") [] (backTo pos (starEach [a, b] X.env)) (backToKw pos (keywordEach [] X.env))) _ _ _
  rw [hs]
  refine Calls.callWith_builtin rfl (Calls.evalArgs_plain ?_)
  refine thn hA fun us s2 ⟨vs, H2, I3, r2, e, C, y, od, ev, hH, hk, q⟩ => ?_
  subst ev
  obtain ⟨u1, u2, rfl, r1, ry⟩ := r2.two
  cases r1
  obtain ⟨⟨ws, sl, hx, hsz, h1⟩, _, _⟩ := I3.hok e _ hH
  refine ve_call I3.kIn hx rfl rfl hsz hk fun h' vs' hx' hsz' h1' keep => ?_
  have J := I3.write (x := e) (e := e) (o := ExcH e C od) (h' := h') (t' := s2.toks) (by rw [hH]; exact True.intro) (.inl rfl) (fun b o hb eb => keep b o hb eb) ⟨_, hx'⟩ (excH_ok hx' hsz' (by rw [h1', h1]))
  rw [upd_self hH] at J
  exact ⟨.non, H2, J, rfl, q⟩
/-- x.f = v, x an exception of an own class without attributes yet -/
structure ExcCls (K : PySem.W.Frag) (C : Addr) : Prop where
  sa : PySem.W.findIn K (.ref C) "__setattr__" = some (some (.builtin "object.__setattr__"))
  over : overE K C = true
  hd : PySem.W.hasDictIn K C = true
  kts : PySem.W.ktsIn K C "ValueError" = true
def sExcFld (K : PySem.W.Frag) (f : Str) (to tv : TE) : TS := fun D σ H => tv σ H fun y H1 => to σ H1 fun x H2 => ∃ e C, x = .ref e ∧ H2 e = some (ExcH e C none) ∧ ExcCls K C ∧ PySem.W.takerIn K C f = some none ∧
  ∀ dx, H2 dx = none → dx ≠ e → D.nx σ (upd (upd H2 dx (.xd [(f, y)])) e (ExcH e C (some dx)))
theorem ps_excfld {o value : Expr} {to tv : TE} {f : Str} {pos' : Pos} (ho : PE X o to) (hv : PE X value tv) (hs : swapsWith value (some (.Attribute o f pos')) pos.line X.env = pure false) : PS X (.Assign [.Attribute o f pos'] value pos) (sExcFld X.K f to tv) := by
  intro pins s σ H D I h
  refine plainObj_wpAny_Assign_Attribute (thn (hv pins s σ H _ I h) fun u s1 ⟨y, H1, I1, ry, q⟩ => thn (ho pins s1 σ H1 _ I1 q) fun ov s2 ⟨x, H2, I2, rx, e, C, ex, hH, c, tk, q2⟩ => ?_) hs
  subst ex
  obtain rfl : ov = Value.ref e := rx
  obtain ⟨⟨ws, sl, hx, hsz, h1⟩, _, _⟩ := I2.hok e _ hH
  have hxs : s2.heap.objs.size ≠ e := Ne.symm (Nat.ne_of_lt (Heap.lt_size hx))
  refine set_exc I2.kIn hx rfl (fun c z => by cases z) rfl c.sa c.over tk c.hd fun h' hx' hn hlt keep => ?_
  have hfr : (⟨.ref C, none, .fields ws, sl⟩ : Obj).isFreed = false := rfl
  have he : (h'.update e fun _ => ⟨.ref C, none, .fields ws, sl⟩).get? e = some ⟨.ref C, none, .fields ws, sl⟩ := Heap.get?_update_self (fun _ => ⟨.ref C, none, .fields ws, sl⟩) hx' hfr
  have ho : ∀ b, b ≠ e → (h'.update e fun _ => ⟨.ref C, none, .fields ws, sl⟩).get? b = h'.get? b := fun b hb => Heap.get?_update_other _ _ (Ne.symm hb)
  have J1 := I2.laid (a := s2.heap.objs.size) (o := .xd [(f, y)]) (h' := h'.update e fun _ => ⟨.ref C, none, .fields ws, sl⟩) (t' := s2.toks + 2) (fun b o eb => by
    by_cases hb : b = e
    · subst hb; rw [he, ← eb, hx]
    · rw [ho b hb]; exact keep b o hb eb) (Nat.le_refl _) ⟨fun z => if z = f then some u else none, by
      obtain ⟨o', es, ep, e1, e2⟩ := hn
      exact ⟨o', es, ep, (ho _ hxs).trans e1, e2⟩, fun z => by
      show RelO (List.lookup z [(f, y)]) (if z = f then some u else none)
      by_cases hz : z = f
      · have hb : (z == f) = true := beq_iff_eq.mpr hz
        simp only [List.lookup, hb, if_pos hz]
        exact ry
      · have hb : (z == f) = false := beq_eq_false_iff_ne.mpr hz
        simp only [List.lookup, hb, if_neg hz]
        trivial⟩
  have hH' : upd H2 s2.heap.objs.size (.xd [(f, y)]) e = some (ExcH e C none) := by rw [upd_ne (Ne.symm hxs)]; exact hH
  have J2 := J1.write (x := e) (e := e) (o := ExcH e C (some s2.heap.objs.size)) (h' := h') (t' := s2.toks + 2) (by rw [hH']; exact True.intro) (.inl rfl) (fun b o hb eb => (ho b hb).symm.trans eb) ⟨_, hx'⟩ (excH_ok hx' hsz h1)
  exact ⟨σ, _, J2, q2 _ (I2.hok.fresh (Nat.le_refl _)) hxs⟩
end
/-! ### an exception of an own class made: its __new__ is ValueError's, its __init__ an own def -/
def excIn (K : PySem.W.Frag) (C : Addr) : Bool := match K.lookup C with
  | some ⟨.type "type", _, .cls cd, sl⟩ => (match cd.mro, sl.toList with
    | .ref C' :: bm, [_, _, _, _, some (.builtin n), _] => C' == C && !cd.hasDel && bm.contains (.type "BaseException") && bm.contains (.type "ValueError") && !bm.contains (.type "AttributeError") && !bm.contains (.type "NameError") && n == "ValueError.__new__"
    | _, _ => false)
  | _ => false
theorem exc_cls {K : PySem.W.Frag} {h : Heap} {C : Addr} (X : K.In h) (q : excIn K C = true) : ∃ nm qn N bs bm hdct sn sub ab col dd k0 k1 k2 k3 k5,
    h.get? C = some (excClassObj nm qn C N bs bm hdct sn sub ab col dd k0 k1 k2 k3 k5 "ValueError.__new__") ∧ bm.contains (.type "BaseException") = true ∧ bm.contains (.type "ValueError") = true ∧ bm.contains (.type "AttributeError") = false ∧ bm.contains (.type "NameError") = false := by
  unfold excIn at q
  split at q
  · rename_i dd cd sl ho
    split at q
    · rename_i C' bm k0 k1 k2 k3 n k5 hm hs
      simp only [Bool.and_eq_true, beq_iff_eq, Bool.not_eq_true'] at q
      obtain ⟨⟨⟨⟨⟨⟨rfl, hdel⟩, hb⟩, hv⟩, ha⟩, hn⟩, rfl⟩ := q
      obtain ⟨nm, bs, mro, ns, qn, hd, sn, sub, ab, col, del⟩ := cd
      dsimp only at hm hdel
      subst hm hdel
      have hsl : sl = #[k0, k1, k2, k3, some (.builtin "ValueError.__new__"), k5] := by
        obtain ⟨l⟩ := sl
        simp only at hs
        rw [hs]
      subst hsl
      exact ⟨nm, qn, ns, bs, bm, hd, sn, sub, ab, col, dd, k0, k1, k2, k3, k5, X _ _ ho, hb, hv, ha, hn⟩
    · cases q
  · cases q
section
variable {prog : Program} {w : World} {A : Around} {E : Value → Shared → Prop} {hp : Heap} {gg : Array GenState} {dw : Drawn} {tt : Nat} {oo : OsState}
variable {nm qn : Str} {C N : Addr} {bs bm : List Value} {hdct : Bool} {sn : List Str} {sub : List Value} {ab : Bool} {col : Option Bool} {dd : Option Addr} {k0 k1 k2 k3 k5 : Option Value}
theorem new_check {M : Model} {rest : List Value} {Q : Unit → Shared → Prop} (hC : hp.get? C = some (excClassObj nm qn C N bs bm hdct sn sub ab col dd k0 k1 k2 k3 k5 "ValueError.__new__")) (hv : bm.contains (.type "ValueError") = true)
    (hq : Q () ⟨hp, gg, dw, tt, oo⟩) : wpAny M A (checkBuiltinCall "ValueError.__new__" ⟨.ref C :: rest, []⟩) Q E ⟨hp, gg, dw, tt, oo⟩ := by
  have Fn := PySem.F.excBase_ValueError
  have has : (Value.ref C :: bm).contains (.type "ValueError") = true := by rw [List.contains_cons, hv, Bool.or_true]
  have star := Fn.noStar
  simp only [checkBuiltinCall, Fn.newKind, Fn.newSplit, Fn.newRow]
  repeat (first | refine wpAny_loadPart_at hC ?_ | (refine wpAny_isSubtype_exc hC ?_; rw [has]) | refine wpAny_staticBase_exc hC ?_ | refine wpAny_madeBy_exc hC ?_ | simp only [bne_self_eq_false, Bool.false_eq_true, if_false] | wp_step)
  exact hq
theorem new_run {R : Result → Shared → Prop} {rest : List Value} (hC : hp.get? C = some (excClassObj nm qn C N bs bm hdct sn sub ab col dd k0 k1 k2 k3 k5 "ValueError.__new__"))
    (hv : bm.contains (.type "ValueError") = true) (ha : bm.contains (.type "AttributeError") = false) (hn : bm.contains (.type "NameError") = false)
    (hq : R (.ok (.ret (.ref (hp.objs.size + 1)))) ⟨(hp.push { cls := .type "tuple", data := .seq rest.toArray }).push { cls := .ref C, data := .fields #[.ref hp.objs.size, .none, .none, .none, .bool false, .none] }, gg, dw, tt, oo⟩) (hrest : rest.length ≤ sizeLine) :
    codeAny (model prog w) A (.builtin "ValueError.__new__" ⟨.ref C :: rest, []⟩) R ⟨hp, gg, dw, tt, oo⟩ := by
  have Fn := PySem.F.excBase_ValueError
  have ends := Fn.ends
  have hcV : (Value.ref C :: bm).contains (.type "ValueError") = true := by rw [List.contains_cons, hv, Bool.or_true]
  have hcA : (Value.ref C :: bm).contains (.type "AttributeError") = false := by rw [List.contains_cons, ha]; rfl
  have hcN : (Value.ref C :: bm).contains (.type "NameError") = false := by rw [List.contains_cons, hn]; rfl
  refine codeAny_builtinAt Fn.entry ?_
  unfold Builtin.«BaseException.__new__»
  refine PySem.wpAt_bind ?_; show PySem.wpAt _ _ _ (stack >>= _) _ _ _
  refine PySem.wpAt_bind (PySem.wpAt_stack fun p below => PySem.wpAt_of_wpAny ?_); wp_walk
  refine PySem.wpAt_of_wpAny ?_; rw [Fn.owner]
  repeat (first | with_reducible refine wpAny_madeHere_exc Fn.canon hC ?_ | with_reducible refine wpAny_loadPart_at hC ?_ | (with_reducible refine wpAny_isSubtype_exc hC ?_; first | rw [hcV] | rw [hcA] | rw [hcN]) | wp_step)
  show R _ _; rw [Heap.size_push]; exact hq
/-- type.__call__ of such a class: made, then its own __init__ -/
theorem exc_type_call {K : PySem.W.Frag} {fI : Addr} {rest : List Value} {Q : Fin → Shared → Prop} (X : K.In hp) (hx : excIn K C = true) (hi : PySem.W.findIn K (.ref C) "__init__" = some (some (.ref fI))) (hf : PySem.W.typeIn K (.ref fI) = some (.type "function"))
    (hq : wpAny (model prog w) A (call (.ref fI) (.ref (hp.objs.size + 1) :: rest)) (fun r s' => r = .none ∧ Q (.done (.ret (.ref (hp.objs.size + 1)))) s') E
      ⟨(hp.push { cls := .type "tuple", data := .seq rest.toArray }).push { cls := .ref C, data := .fields #[.ref hp.objs.size, .none, .none, .none, .bool false, .none] }, gg, dw, tt, oo⟩) (hrest : rest.length ≤ sizeLine) :
    wpAny (model prog w) A (Builtin.«type.__call__» ⟨.ref C :: rest, []⟩) Q E ⟨hp, gg, dw, tt, oo⟩ := by
  obtain ⟨nm, qn, N, bs, bm, hdct, sn, sub, ab, col, dd, k0, k1, k2, k3, k5, hC, hb, hv, ha, hn⟩ := exc_cls X hx
  repeat (first | with_reducible refine wpAny_loadPart_at hC ?_ | with_reducible refine wpAny_madeBy_exc hC ?_ | wp_step)
  refine codeAny_call_builtin_code (Code.quiet_builtin _ PySem.F.excBase_ValueError.quiet) (new_check hC hv ?_)
  refine new_run hC hv ha hn ?_ hrest
  show wpAny _ _ _ _ _ _
  have keep : ∀ b o, hp.get? b = some o → ((hp.push { cls := .type "tuple", data := .seq rest.toArray }).push { cls := .ref C, data := .fields #[.ref hp.objs.size, .none, .none, .none, .bool false, .none] }).get? b = some o := fun b o e => Heap.get?_push_of_some _ (Heap.get?_push_of_some _ e)
  have hC1 := keep _ _ hC
  have X1 := X.keeps keep
  have at1 : ((hp.push { cls := .type "tuple", data := .seq rest.toArray }).push { cls := .ref C, data := .fields #[.ref hp.objs.size, .none, .none, .none, .bool false, .none] }).get? (hp.objs.size + 1) = some { cls := .ref C, data := .fields #[.ref hp.objs.size, .none, .none, .none, .bool false, .none] } := by heap_get
  have has : (Value.ref C :: bm).contains (.ref C) = true := by simp
  unfold isInstance
  repeat (first | with_reducible refine wpAny_loadPart_at at1 ?_ | (with_reducible refine wpAny_isSubtype_exc hC1 ?_; rw [has]) | wp_step)
  show wpAny _ _ (typeLookup (.ref C) _) _ _ _
  refine (PySem.W.looks_findIn X1 hi).here ?_
  refine wpAny_holding (wpAny_bind ((PySem.W.bind_fn X1 _ hf).here ?_))
  refine wpAny_bind (wpAny_mono hq (fun r s' hr => ?_) fun _ _ z => z)
  obtain ⟨rfl, hQ⟩ := hr
  wp_walk
  exact hQ
theorem exc_call {K : PySem.W.Frag} {fI : Addr} {rest : List Value} {Q : Value → Shared → Prop} (X : K.In hp) (hx : excIn K C = true) (hi : PySem.W.findIn K (.ref C) "__init__" = some (some (.ref fI))) (hf : PySem.W.typeIn K (.ref fI) = some (.type "function"))
    (hq : wpAny (model prog w) (A.under (.builtin "type.__call__" ⟨.ref C :: rest, []⟩)) (call (.ref fI) (.ref (hp.objs.size + 1) :: rest)) (fun r s' => r = .none ∧ Q (.ref (hp.objs.size + 1)) s') E
      ⟨(hp.push { cls := .type "tuple", data := .seq rest.toArray }).push { cls := .ref C, data := .fields #[.ref hp.objs.size, .none, .none, .none, .bool false, .none] }, gg, dw, tt, oo⟩) (hrest : rest.length ≤ sizeLine) :
    wpAny (model prog w) A (call (.ref C) rest) Q E ⟨hp, gg, dw, tt, oo⟩ := by
  obtain ⟨nm, qn, N, bs, bm, hdct, sn, sub, ab, col, dd, k0, k1, k2, k3, k5, hC, _⟩ := exc_cls X hx
  have f1 := tc_lookup
  have f2 := tc_bind (.ref C)
  have hT : (⟨hp, gg, dw, tt, oo⟩ : Shared).TypeIs (.ref C) "type" := ⟨_, hC, rfl⟩
  refine wpAny_call (codeAny_of_tree ?_)
  show wpAny _ _ (callAny (.ref C) _) _ _ _
  repeat (any_goals (first | assumption | with_reducible refine wpAny_loadPart_at hC ?_ | wp_step))
  refine ⟨rfl, codeAny_call_builtin_at (Code.quiet_builtin _ (by decide +kernel)) entry_typeCall (wpAny_check_type_call_sub hC (exc_type_call X hx hi hf ?_ hrest))⟩
  exact hq
end
/-! ### an exception leaves a frame: all stays but the exception itself, its entry and the frames' slots -/
section
variable {M : Model} {A : Around} {E : Value → Shared → Prop} {s : Shared}
/-- it is not yet traced, or was traced in a frame that it has left -/
def Loose (h : Heap) (e : Addr) (vs : Array Value) : Prop := vs[1]? = some .none ∨ ∃ T oT ts, vs[1]? = some (.ref T) ∧ T ≠ e ∧ h.get? T = some oT ∧ oT.data = .fields ts ∧ ts[3]? = some .none
/-- what a new entry leaves -/
structure Noted (l : List Env) (e : Addr) (oe : Obj) (fl : Value) (h h' : Heap) (old : Option Addr) : Prop where
  at_ : ∃ vs' T' oT' ts', h'.get? e = some { oe with data := .fields vs' } ∧ vs'.size = 6 ∧ vs'[1]? = some (.ref T') ∧ T' ≠ e ∧ h.objs.size ≤ T' ∧ h'.get? T' = some oT' ∧ oT'.data = .fields ts' ∧ ts'[3]? = some fl
  keep : ∀ b o, h.get? b = some o → b ≠ e → some b ≠ old → b ∉ frs l → h'.get? b = some o
  slots : ∀ b o, h.get? b = some o → b ∈ frs l → ∃ sl, h'.get? b = some { o with slots := sl }
theorem entry_new {base : Heap} {env : Env} {outer : List Env} {L e : Addr} {oe : Obj} {vs : Array Value} {head : Value} {hadNext : Bool} {Q : Unit → Shared → Prop}
    (hfr : A.frames = some (env :: outer)) (hl : s.heap.FunFrames base (env :: outer)) (hf : env.frame = some L) (he : s.heap.get? e = some oe) (hd : oe.data = .fields vs) (hsz : vs.size = 6)
    (h : ∀ h', Noted (env :: outer) e oe (rawInt L) s.heap h' none → Q () { s with heap := h' }) :
    wpAny M A (do let a ← frameOf env; let pl ← entryPlaceOf L hadNext; let b ← EntryCells.newEntry head a .none (rawInt L) .none pl; setField (.ref e) 1 b) Q E s := by
  have hne : e ∉ frs (env :: outer) := fun hm => by
    obtain ⟨_, o, ho, hnf⟩ := hl.mem hm
    rw [he] at ho
    cases ho
    exact hnf vs hd
  refine wpAny_bind (wpAny_frameOf_fun hfr hl hf fun h1 hs1 => wpAny_bind (wpAny_entryPlaceOf fun pl hpl => ?_))
  unfold EntryCells.newEntry newFields
  refine wpAny_bind (wpAny_newObj_type ?_ (hpl.sizeOk5 _ _ _ _ _))
  have he1 : h1.get? e = some oe := (hs1.2.1 e hne).trans he
  generalize hT : ({ cls := .type "traceback", dict := none, data := .fields ([head, .ref L, .none, rawInt L, .none] ++ (if pl.isEmpty then List.replicate 6 Value.none else pl)).toArray } : Obj) = oT
  have hT3 : ∃ ts, oT.data = .fields ts ∧ ts[3]? = some (rawInt L) ∧ oT.isFreed = false := ⟨_, by rw [← hT], by first | (simp; done) | (rcases hpl with rfl | ⟨_, _, _, _, _, _, _, rfl⟩ <;> simp), by rw [← hT]; rfl⟩
  obtain ⟨ts, hts, h3, hfz⟩ := hT3
  have he2 := Heap.get?_push_of_some (h := h1) oT he1
  refine wpAny_setField he2 hd (by omega) (h _ ?_)
  have hTe : h1.objs.size ≠ e := Nat.ne_of_gt (Heap.lt_size he1)
  have hd3 := Obj.data_mapFields hd (·.setIfInBounds 1 (Value.ref h1.objs.size))
  have he3 := Heap.get?_update_self (Obj.mapFields (·.setIfInBounds 1 (Value.ref h1.objs.size))) he2 (Obj.isFreed_of_fields hd3)
  have hTnew : s.heap.objs.size ≤ h1.objs.size := by rw [hs1.1]; exact Nat.le_refl _
  refine ⟨⟨vs.setIfInBounds 1 (Value.ref h1.objs.size), h1.objs.size, oT, ts, ?_, by simp [hsz], by simp [hsz], hTe, hTnew, (Heap.get?_update_other _ _ (Ne.symm hTe)).trans (Heap.get?_push_size h1 hfz), hts, h3⟩, fun b o eb hb _ hbf => ?_, fun b o eb hbf => ?_⟩
  · rw [he3]
    congr 1
    obtain ⟨oc, od, oda, osl⟩ := oe
    have e1 : oda = .fields vs := hd
    subst e1
    rfl
  · rw [Heap.get?_update_other _ _ (Ne.symm hb)]
    exact Heap.get?_push_of_some _ ((hs1.2.1 b hbf).trans eb)
  · obtain ⟨sl, hs⟩ := hs1.2.2 b o eb
    refine ⟨sl, ?_⟩
    have hbe : e ≠ b := fun z => hne (by rw [z]; exact hbf)
    rw [Heap.get?_update_other _ _ hbe]
    exact Heap.get?_push_of_some _ hs
/-- noteFrame of one that is loose -/
theorem note_loose {base : Heap} {env : Env} {outer : List Env} {L e : Addr} {oe : Obj} {vs : Array Value} {Q : Unit → Shared → Prop}
    (hfr : A.frames = some (env :: outer)) (hl : s.heap.FunFrames base (env :: outer)) (hf : env.frame = some L) (he : s.heap.get? e = some oe) (hd : oe.data = .fields vs) (hsz : vs.size = 6) (hz : Loose s.heap e vs)
    (h : ∀ h' old, (∀ T, old = some T → vs[1]? = some (.ref T)) → Noted (env :: outer) e oe (rawInt L) s.heap h' old → Q () { s with heap := h' }) : wpAny M A (noteFrame (.ref e) env) Q E s := by
  unfold noteFrame
  simp only [hf]
  rcases hz with hz | ⟨T, oT, ts, h1, hTe, hT, hdT, h3⟩
  · refine wpAny_bind (wpAny_field he hd hz ?_)
    rw [if_neg (by decide)]
    exact entry_new hfr hl hf he hd hsz fun h' n => h h' none (fun T z => by cases z) n
  · refine wpAny_bind (wpAny_field he hd h1 ?_)
    rw [if_pos (show (Value.ref T != Value.none) = true by simp)]
    refine wpAny_bind (wpAny_field hT hdT h3 ?_)
    rw [if_neg (show ¬ ((Value.none == rawInt L) = true) by simp [rawInt])]
    refine wpAny_bind (wpAny_setField hT hdT (Array.getElem?_eq_some_iff.mp h3).1 ?_)
    have other : ∀ b, b ≠ T → (s.heap.update T (Obj.mapFields (·.setIfInBounds 3 Value.none))).get? b = s.heap.get? b := fun b hb => Heap.get?_update_other _ _ (Ne.symm hb)
    have nrec : ∀ b o, s.heap.get? b = some o → (∀ vs, o.data ≠ .fields vs) → b ≠ T := fun b o eb hn q => by
      subst q
      rw [hT] at eb
      cases eb
      exact hn ts hdT
    have hfT : T ∉ frs (env :: outer) := fun hm => by
      obtain ⟨_, o, ho, hnf⟩ := hl.mem hm
      exact nrec T o ho hnf rfl
    have hsome : ∀ b, (s.heap.update T (Obj.mapFields (·.setIfInBounds 3 Value.none))).get? b = none → s.heap.get? b = none := fun b eb => by
      by_cases hb : b = T
      · subst hb
        rw [Heap.get?_update_self _ hT (Obj.isFreed_of_fields (Obj.data_mapFields hdT _))] at eb
        cases eb
      · rw [other b hb] at eb
        exact eb
    refine entry_new hfr (hl.of_keeps fun b o eb hn => ⟨o, (other b (nrec b o eb hn)).trans eb, rfl⟩) hf ((other e (Ne.symm hTe)).trans he) hd hsz fun h' n => ?_
    refine h h' (some T) (fun T' z => by cases z; exact h1) ⟨?_, fun b o eb hb ho hbf => ?_, fun b o eb hbf => ?_⟩
    · obtain ⟨vs', T', oT', ts', a1, a2, a3, a4, a5, a6⟩ := n.at_
      exact ⟨vs', T', oT', ts', a1, a2, a3, a4, by rw [Heap.size_update] at a5; exact a5, a6⟩
    · exact n.keep b o ((other b (fun z => ho (by rw [z]))).trans eb) hb (fun z => by cases z) hbf
    · exact n.slots b o ((other b (fun z => hfT (by rw [← z]; exact hbf))).trans eb) hbf
/-- then setFlight none: it is loose again -/
structure Left (l : List Env) (e : Addr) (oe : Obj) (h h' : Heap) (old : Option Addr) : Prop where
  at_ : ∃ vs' T' oT' ts', h'.get? e = some { oe with data := .fields vs' } ∧ vs'.size = 6 ∧ vs'[1]? = some (.ref T') ∧ T' ≠ e ∧ h.objs.size ≤ T' ∧ h'.get? T' = some oT' ∧ oT'.data = .fields ts' ∧ ts'[3]? = some .none
  keep : ∀ b o, h.get? b = some o → b ≠ e → some b ≠ old → b ∉ frs l → h'.get? b = some o
  slots : ∀ b o, h.get? b = some o → b ∈ frs l → ∃ sl, h'.get? b = some { o with slots := sl }
theorem flight_none {l : List Env} {e : Addr} {oe : Obj} {fl : Value} {h0 : Heap} {old : Option Addr} {Q : Unit → Shared → Prop} (hfe : e ∉ frs l) (n : Noted l e oe fl h0 s.heap old)
    (h : ∀ h', Left l e oe h0 h' old → Q () { s with heap := h' }) : wpAny M A (setFlight (.ref e) none) Q E s := by
  obtain ⟨vs, T, oT, ts, he, hsz, h1, hTe, hTs, hT, hdT, h3⟩ := n.at_
  have hTn : h0.get? T = none := Heap.get?_none_of_le hTs
  have hsz3 : 3 < ts.size := (Array.getElem?_eq_some_iff.mp h3).1
  unfold setFlight
  refine wpAny_bind (wpAny_field he rfl h1 ?_)
  rw [if_pos (show (Value.ref T != Value.none) = true by simp)]
  have other : ∀ b, b ≠ T → (s.heap.update T (Obj.mapFields (·.setIfInBounds 3 ((none : Option Addr).elim Value.none fun f => rawInt f)))).get? b = s.heap.get? b := fun b hb => Heap.get?_update_other _ _ (Ne.symm hb)
  refine wpAny_setField hT hdT hsz3 (h _ ⟨⟨vs, T, _, _, (other e (Ne.symm hTe)).trans he, hsz, h1, hTe, hTs, Heap.get?_update_self _ hT (Obj.isFreed_of_fields (Obj.data_mapFields hdT _)), Obj.data_mapFields hdT _, by simp [hsz3]⟩, fun b o eb hb ho hbf => ?_, fun b o eb hbf => ?_⟩)
  · have hbT : b ≠ T := fun z => by rw [z, hTn] at eb; cases eb
    exact (other b hbT).trans (n.keep b o eb hb ho hbf)
  · have hbT : b ≠ T := fun z => by rw [z, hTn] at eb; cases eb
    obtain ⟨sl, hs⟩ := n.slots b o eb hbf
    exact ⟨sl, (other b hbT).trans hs⟩
/-- an exception that is loose leaves the frame -/
theorem leave_loose {base : Heap} {env : Env} {outer : List Env} {L e : Addr} {oe : Obj} {vs : Array Value} {Q : Unit → Shared → Prop}
    (hfr : A.frames = some (env :: outer)) (hl : s.heap.FunFrames base (env :: outer)) (hf : env.frame = some L) (he : s.heap.get? e = some oe) (hd : oe.data = .fields vs) (hsz : vs.size = 6) (hz : Loose s.heap e vs)
    (h : ∀ h' old, (∀ T, old = some T → vs[1]? = some (.ref T)) → Left (env :: outer) e oe s.heap h' old → Q () { s with heap := h' }) : wpAny M A (leaving env (.ref e)) Q E s := by
  have hne : e ∉ frs (env :: outer) := fun hm => by
    obtain ⟨_, o, ho, hnf⟩ := hl.mem hm
    rw [he] at ho
    cases ho
    exact hnf vs hd
  unfold leaving
  refine wpAny_bind (note_loose hfr hl hf he hd hsz hz fun h1 old ho n => ?_)
  exact flight_none (s := { s with heap := h1 }) hne n fun h' l => h h' old ho l
end
/-! ### raise, and what lies behind a call that an exception leaves -/
def drop1 (H : Hp) (e : Addr) : Hp := fun b => if b = e then none else H b
theorem drop1_ne {H : Hp} {e b : Addr} (h : b ≠ e) : drop1 H e b = H b := by unfold drop1; rw [if_neg h]
theorem drop1_at {H : Hp} {e : Addr} : drop1 H e e = none := by unfold drop1; rw [if_pos rfl]
theorem HOk.drop {P : Program} {w : World} {H : Hp} {h : Heap} {e : Addr} {φ : Heap → Prop} (ok : HOk P w H h) (he : H e = some (.ext φ)) : HOk P w (drop1 H e) h := fun a o ea => by
  by_cases hae : a = e
  · subst hae; rw [drop1_at] at ea; cases ea
  · rw [drop1_ne hae] at ea
    refine (ok a o ea).stay (fun b u _ q => q) (fun b q => ?_) fun b xs q => ?_
    · rw [drop1_ne (fun z => by subst z; rw [he] at q; cases q)]; exact q
    · rw [drop1_ne (fun z => by subst z; rw [he] at q; cases q)]; exact q
/-- an exception in flight, loose: its entry, if it has one, is known to nobody -/
structure Flies (h0 : Heap) (H : Hp) (h : Heap) (e C dx : Addr) : Prop where
  ob : ∃ vs sl, h.get? e = some ⟨.ref C, some dx, .fields vs, sl⟩ ∧ vs.size = 6 ∧ Loose h e vs ∧ ∀ T, vs[1]? = some (.ref T) → H T = none ∧ h0.objs.size ≤ T
  free : H e = none
  new : h0.objs.size ≤ e
/-- behind a call that an exception leaves -/
def CXe (P : Program) (w : World) : CXT := fun outer H s E ev s' => ∃ e C dx H', ev = .ref e ∧ s'.os = s.os ∧ AllBare s'.gens ∧ Un (frs outer) [] H H' s.heap s'.heap ∧ HOk P w H' s'.heap ∧ Flies s.heap H' s'.heap e C dx ∧ E (.ref C) (some dx) H'
/-- the state in which a body raises -/
structure Rz (X : Cx) (H1 : Hp) (s1 : Shared) (e C dx : Addr) : Prop where
  os : s1.os = X.s₀.os
  bare : AllBare s1.gens
  un : Un X.fs [] X.H₀ H1 X.s₀.heap s1.heap
  hok : HOk X.prog X.w H1 s1.heap
  funs : s1.heap.FunFrames X.base X.stack
  stkFree : ∀ b ∈ frs X.stack, H1 b = none
  sz : X.s₀.heap.objs.size ≤ s1.heap.objs.size
  fr : X.A.frames = some X.stack
  fl : Flies X.s₀.heap H1 s1.heap e C dx
/-- the wish of a body that may raise -/
def Wish (X : Cx) (E : XK) : Prop := ∀ H1 s1 e C dx, Rz X H1 s1 e C dx → E (.ref C) (some dx) H1 → X.xe (.ref e) s1
theorem none_of_there {fs : List Addr} {H H' : Hp} {h h' : Heap} (u : Un fs [] H H' h h') {b : Addr} (e : h'.get? b = none) : h.get? b = none := by
  cases q : h.get? b with
  | none => rfl
  | some o =>
    obtain ⟨o', e'⟩ := u.there b o q (by simp)
    rw [e] at e'
    cases e'
/-- leaving the frame of a def -/
theorem wish_def {P : Program} {w : World} {K : PySem.W.Frag} {mg : Str → Option Value} {base : Heap} {N : List Str} {qual : Str} {scope : Scope} {f : Addr} {cd : Value} {A : Around} {outer : List Env} {s : Shared} {H : Hp} {E : XK}
    : Wish (cxOf (CXe P w) P w K mg base N qual scope f cd A outer s H E) E := by
  intro H1 s1 e C dx R hE
  obtain ⟨os, bare, un, hok, funs, stkFree, sz, fr, ⟨⟨vs, sl, he, hsz, hz, hT⟩, free, new⟩⟩ := R
  have hfr : (A.deeper (envOfC qual scope s.heap.objs.size f cd)).frames = some (envOfC qual scope s.heap.objs.size f cd :: outer) := fr
  replace os : s1.os = s.os := os
  replace un : Un (frs outer) [] H H1 s.heap s1.heap := un
  replace hok : HOk P w H1 s1.heap := hok
  replace stkFree : ∀ b ∈ frs (envOfC qual scope s.heap.objs.size f cd :: outer), H1 b = none := stkFree
  replace hT : ∀ T, vs[1]? = some (.ref T) → H1 T = none ∧ s.heap.objs.size ≤ T := hT
  replace new : s.heap.objs.size ≤ e := new
  replace sz : s.heap.objs.size ≤ s1.heap.objs.size := sz
  have hL : s.heap.get? s.heap.objs.size = none := Heap.get?_none_of_le (Nat.le_refl _)
  refine leave_loose (L := s.heap.objs.size) hfr funs rfl he rfl hsz hz fun h' old hold l => ?_
  have oldn : ∀ b o, s.heap.get? b = some o → some b ≠ old := fun b o eb z => by
    have := Heap.get?_none_of_le (hT b (hold b z.symm)).2
    rw [eb] at this
    cases this
  have oldH : ∀ b o, H1 b = some o → some b ≠ old := fun b o eb z => by
    have := (hT b (hold b z.symm)).1
    rw [eb] at this
    cases this
  have nef : ∀ b o, s.heap.get? b = some o → b ∉ frs outer → b ∉ frs (envOfC qual scope s.heap.objs.size f cd :: outer) := fun b o eb hb hm => by
    rcases List.mem_cons.mp (show b ∈ s.heap.objs.size :: frs outer from hm) with z | z
    · rw [z, hL] at eb; cases eb
    · exact hb z
  have infs : ∀ b, b ∈ frs outer → b ∈ frs (envOfC qual scope s.heap.objs.size f cd :: outer) := fun b hb => List.mem_cons_of_mem (s.heap.objs.size) hb
  have ne : ∀ b o, s.heap.get? b = some o → b ≠ e := fun b o eb z => by rw [z, Heap.get?_none_of_le new] at eb; cases eb
  obtain ⟨vs', T', oT', ts', a1, a2, a3, a4, a5, a6, a7, a8⟩ := l.at_
  refine ⟨e, C, dx, H1, rfl, os, bare, ⟨fun b o eb n hb _ => ?_, fun b o eb n hb _ => ?_, un.free, fun b o eb hx => ?_, un.tups, un.frzs, un.tbls⟩, fun b o eb => ?_, ⟨⟨vs', sl, a1, a2, .inr ⟨T', oT', ts', a3, a4, a6, a7, a8⟩, fun T z => ?_⟩, free, new⟩, hE⟩
  · exact l.keep b o (un.keep b o eb n hb (by simp)) (ne b o eb) (oldn b o eb) (nef b o eb hb)
  · obtain ⟨sl1, e1⟩ := un.slot b o eb n hb (by simp)
    obtain ⟨sl2, e2⟩ := l.slots b _ e1 (infs b hb)
    exact ⟨sl2, e2⟩
  · obtain ⟨o', e1⟩ := un.there b o eb (by simp)
    by_cases hb : b ∈ frs outer
    · obtain ⟨sl2, e2⟩ := l.slots b _ e1 (infs b hb)
      exact ⟨_, e2⟩
    · exact ⟨o', l.keep b o' e1 (ne b o eb) (oldn b o eb) (nef b o eb hb)⟩
  · have trk : ∀ c oc u, H1 c = some oc → s1.heap.get? c = some u → h'.get? c = some u := fun c oc u ec eu => l.keep c u eu (fun z => by rw [z, free] at ec; cases ec) (oldH c oc ec) (fun z => by rw [stkFree c z] at ec; cases ec)
    refine (hok b o eb).stay (fun c u hc eu => ?_) (fun _ q => q) fun _ _ q => q
    rcases hc with rfl | hc
    · exact trk _ o u eb eu
    · exact trk c _ u hc eu
  · have ez : T' = T := by
      rw [a3] at z
      cases z
      rfl
    subst ez
    refine ⟨?_, Nat.le_trans sz a5⟩
    cases q : H1 T' with
    | none => rfl
    | some o =>
      have := (hok T' o q).lt
      obtain ⟨u, hu⟩ : ∃ u, s1.heap.get? T' = some u := by
        have h1 := hok T' o q
        cases o with
        | lst xs => obtain ⟨_, _, _, _, e⟩ := h1; exact ⟨_, e⟩
        | tup xs => obtain ⟨_, _, _, o, e, _⟩ := h1; exact ⟨_, e⟩
        | dK kvs => obtain ⟨_, _, _, _, o, _, _, e, _⟩ := h1; exact ⟨_, e⟩
        | dT kvs => obtain ⟨_, _, _, _, o, _, _, e, _⟩ := h1; exact ⟨_, e⟩
        | set S n => obtain ⟨o, _, _, _, e, _⟩ := h1; exact ⟨_, e⟩
        | ins C dx fs => obtain ⟨_, _, _, e, _⟩ := h1; exact ⟨_, e⟩
        | own y => exact h1
        | xd fs => obtain ⟨_, ⟨_, _, _, e, _⟩, _⟩ := h1; exact ⟨_, e⟩
        | rng lo hi => obtain ⟨_, _, _, e⟩ := h1; exact ⟨_, e⟩
        | frz ob u => obtain ⟨e, _⟩ := h1; exact ⟨_, e⟩
        | tbl ps => exact ⟨_, h1⟩
        | met f y => exact ⟨_, h1⟩
        | ext φ => obtain ⟨_, ⟨_, e⟩, _⟩ := h1; exact ⟨_, e⟩
      rw [Heap.get?_none_of_le a5] at hu
      cases hu
/-! ### raise C(..), and an exception of a callee that a def lets pass -/
section
variable {X : Cx} {pins : List (Addr × Obj)} {σ : St} {H : Hp} {s : Shared} {E : XK}
theorem rz_of {e C dx : Addr} (hex : X.ex = []) (I : Inv X pins σ H s) (f : Flies X.s₀.heap H s.heap e C dx) : Rz X H s e C dx :=
  ⟨I.os, I.bare, by have := I.base; rw [hex] at this; exact this, I.hok, I.stack, I.stkFree, I.sz, I.ok.frames, f⟩
theorem Flies.back {h0 h1 h : Heap} {H' : Hp} {e C dx : Addr} (f : Flies h1 H' h e C dx) (u : h0.objs.size ≤ h1.objs.size) : Flies h0 H' h e C dx := by
  obtain ⟨⟨vs, sl, he, hsz, hz, hT⟩, free, new⟩ := f
  exact ⟨⟨vs, sl, he, hsz, hz, fun T z => ⟨(hT T z).1, Nat.le_trans u (hT T z).2⟩⟩, free, Nat.le_trans u new⟩
theorem passE (hex : X.ex = []) (hW : Wish X E) : Passes (CXe X.prog X.w) X E := by
  intro pins σ H s ev s' I h
  obtain ⟨e, C, dx, H', rfl, os, bare, un, hok, fl, hE⟩ := h
  have I' : Inv X pins σ H' s' := I.call' (ch := []) os un hok bare (fun b z => absurd z (by simp))
  exact hW H' s' e C dx (rz_of hex I' (fl.back I.sz)) hE
end
section
variable {M : Model} {A : Around} {E : Value → Shared → Prop} {env : Env}
variable {nm q : Str} {C N : Addr} {bs bm : List Value} {hdct : Bool} {sn : List Str} {sub : List Value} {ab : Bool} {col : Option Bool} {dd : Option Addr} {k0 k1 k2 k3 k5 : Option Value} {newId : String}
theorem raise_own {s : Shared} {x : Sem Value} {Q : Flow → Shared → Prop} (hbase : bm.contains (.type "BaseException") = true) (hh : A.handled = none)
    (h : wpAny M A x (fun v s₁ => ∃ e vs od sl, v = .ref e ∧ s₁.heap.get? C = some (excClassObj nm q C N bs bm hdct sn sub ab col dd k0 k1 k2 k3 k5 newId) ∧
      s₁.heap.get? e = some ⟨.ref C, od, .fields vs, sl⟩ ∧ vs[1]? = some .none ∧ E (.ref e) s₁) E s) :
    wpAny M A (raiseStmt env (some x) none) Q E s := by
  have hcB : (Value.ref C :: bm).contains (.type "BaseException") = true := by rw [List.contains_cons, hbase, Bool.or_true]
  unfold raiseStmt
  refine wpAny_bind (wpAny_mono h (fun v s₁ h₁ => ?_) fun _ _ x => x)
  obtain ⟨e, vs, od, sl, rfl, hC, he, h1, hE⟩ := h₁
  obtain ⟨hp, g, d, tk, os⟩ := s₁
  repeat (first | with_reducible refine wpAny_field he rfl h1 ?_ | with_reducible refine wpAny_loadPart_at he ?_ | with_reducible refine wpAny_loadPart_at hC ?_ | (with_reducible refine wpAny_isSubtype_exc hC ?_; rw [hcB]) | wp_step)
  exact wpAny_raiseNew_none hh hE
end
/-- a class of exceptions that is made and raised -/
structure Rs (K : PySem.W.Frag) (C f : Addr) : Prop where
  exc : excIn K C = true
  init : PySem.W.findIn K (.ref C) "__init__" = some (some (.ref f))
  fn : PySem.W.typeIn K (.ref f) = some (.type "function")
  kp : PySem.W.keepIn K (.ref C) = true
section
variable {X : Cx} {pins : List (Addr × Obj)} {σ : St} {H : Hp} {s : Shared} {E : XK} {k : Nat} {f C : Addr} {fd : FuncData} {ps : List Str} {sp : Sp} {x : Str} {p pos apos : Pos} {e : Expr} {es : List Expr} {t : TA}
theorem Inv.madeE {us : List Value} (I : Inv X pins σ H s) : Inv X pins σ (upd H (s.heap.objs.size + 1) (ExcH (s.heap.objs.size + 1) C none))
    { s with heap := (s.heap.push { cls := .type "tuple", data := .seq us.toArray }).push { cls := .ref C, data := .fields #[.ref s.heap.objs.size, .none, .none, .none, .bool false, .none] } } := by
  have I1 := I.kept (h' := s.heap.push { cls := .type "tuple", data := .seq us.toArray }) (t' := s.toks) (fun b u q => Heap.get?_push_of_some _ q)
  have e2 : ((s.heap.push { cls := .type "tuple", data := .seq us.toArray }).push { cls := .ref C, data := .fields #[.ref s.heap.objs.size, .none, .none, .none, .bool false, .none] }).get? (s.heap.objs.size + 1) = some { cls := .ref C, data := .fields #[.ref s.heap.objs.size, .none, .none, .none, .bool false, .none] } := by
    have := Heap.get?_push_size (s.heap.push { cls := .type "tuple", data := .seq us.toArray }) (o := { cls := .ref C, data := .fields #[.ref s.heap.objs.size, .none, .none, .none, .bool false, .none] }) rfl
    rwa [Heap.size_push] at this
  exact I1.laid (a := s.heap.objs.size + 1) (o := ExcH (s.heap.objs.size + 1) C none) (t' := s.toks) (fun b u q => Heap.get?_push_of_some _ q) (Nat.le_of_eq (Heap.size_push _ _)) (excH_ok e2 rfl rfl)
theorem run_exc {Q : Value → Shared → Prop} {W : VK} {us : List Value} {vs : List V} (M : Rs X.K C f) (F : FnOk X.prog X.w X.K X.mg X.base CX0 k f fd ps sp) (hr : Room (k + 1) X.A) (hb : Binds X.K fd ps []) (I : Inv X pins σ H s) (r : Vals vs us) (hz : us.length ≤ sizeLine)
    (h : sp (.ref (s.heap.objs.size + 1) :: vs) (upd H (s.heap.objs.size + 1) (ExcH (s.heap.objs.size + 1) C none)) (fun v H2 => v = .non ∧ W (.ref (s.heap.objs.size + 1)) H2) E0)
    (hq : ∀ s' H2, Inv X pins σ H2 s' → W (.ref (s.heap.objs.size + 1)) H2 → Q (.ref (s.heap.objs.size + 1)) s') :
    wpAny (model X.prog X.w) X.A (call (.ref C) us) Q X.xe s := by
  have I2 := Inv.madeE (C := C) (us := us) I
  have r2 : Vals (V.ref (s.heap.objs.size + 1) :: vs) (Value.ref (s.heap.objs.size + 1) :: us) := .cons rfl r
  have hl : (Value.ref (s.heap.objs.size + 1) :: us ++ []).length = ps.length := by
    have e := r2.length
    rw [F.len _ _ _ _ h] at e
    rw [List.append_nil]
    exact e.symm
  have hbb := hb _ (Value.ref (s.heap.objs.size + 1) :: us) I2.kIn hl
  rw [List.append_nil] at hbb
  obtain ⟨hp, gg, dw, tt, oo⟩ := s
  refine exc_call I.kIn M.exc M.init M.fn ?_ hz
  refine wpAny_call (codeAny_mono (F.run _ X.stack _ _ ⟨Value.ref (hp.objs.size + 1) :: us, []⟩ (Value.ref (hp.objs.size + 1) :: us) _ _ E0 (hr.make C us []) (I2.env0.make C us []) hbb r2 h) fun r s' hq' => ?_)
  cases r with
  | error e => exact (pass0 (X := X) pins σ _ _ e s' I2 hq')
  | ok fl =>
    cases fl with
    | ret u =>
      obtain ⟨v, H', I3, rv, ev, q3⟩ := I2.after hq'
      subst ev
      exact ⟨rv, hq s' H' I3 q3⟩
    | next => exact False.elim hq'
    | brk => exact False.elim hq'
    | cont => exact False.elim hq'
/-- the state in which an exception that was made here is raised -/
theorem rz_made {e dx : Addr} (hex : X.ex = []) (I : Inv X pins σ H s) (hH : H e = some (ExcH e C (some dx))) (new : X.s₀.heap.objs.size ≤ e) : Rz X (drop1 H e) s e C dx := by
  have u := I.base
  rw [hex] at u
  have hd : ∀ b, H b = none → drop1 H e b = none := fun b hb => by
    by_cases z : b = e
    · rw [z]; exact drop1_at
    · rw [drop1_ne z]; exact hb
  obtain ⟨⟨vs, sl, hx, hs, h1⟩, _, _⟩ := I.hok e _ hH
  refine ⟨I.os, I.bare, ⟨u.keep, u.slot, fun b o eb n hx => hd b (u.free b o eb n hx), u.there, fun b xs q => ?_, fun b o v q => ?_, fun b ps q => ?_⟩, I.hok.drop hH, I.stack, fun b hb => hd b (I.stkFree b hb), I.sz, I.ok.frames, ⟨⟨vs, sl, hx, hs, .inl h1, fun T z => ?_⟩, drop1_at, new⟩⟩
  · have := u.tups b xs q
    rw [drop1_ne (fun z => by rw [z, hH] at this; cases this)]
    exact this
  · have := u.frzs b o v q
    rw [drop1_ne (fun z => by rw [z, hH] at this; cases this)]
    exact this
  · obtain ⟨more, this⟩ := u.tbls b ps q
    refine ⟨more, ?_⟩
    rw [drop1_ne (fun z => by rw [z, hH] at this; cases this)]
    exact this
  · rw [h1] at z
    cases z
/-- raise C(..) -/
def sRaise (C : Addr) (sp : Sp) (E : XK) (t : TA) : TS := fun _ σ H => t σ H fun vs H1 => vs.length ≤ sizeLine ∧ ∀ e, H1 e = none → sp (.ref e :: vs) (upd H1 e (ExcH e C none)) (fun v H2 => v = .non ∧ ∃ dx, H2 e = some (ExcH e C (some dx)) ∧ E (.ref C) (some dx) (drop1 H2 e)) E0
theorem ps_raise (M : Rs X.K C f) (F : FnOk X.prog X.w X.K X.mg X.base CX0 k f fd ps sp) (hr : Room (k + 1) X.A) (hg : Gl X x) (hm : X.mg x = some (.ref C)) (hb : Binds X.K fd ps []) (hc : X.calm = true) (hex : X.ex = []) (hW : Wish X E)
    (ha : PA X (e :: es) t) (hdb : (x == ("__debug__" : Str)) = false := by decide) (he : starEach (e :: es) X.env = (false, eval e X.env) :: starEach es X.env := by rfl) (hpl : (backTo apos (starEach es X.env)).any (·.1) = false := by rfl) :
    PS X (.Raise (some (.Call (.Name x p) (e :: es) [] apos)) none pos) (sRaise C sp E t) := by
  intro pins s σ H D I h
  obtain ⟨nm, qn, N, bs, bm, hdct, sn, sub, ab, col, dd, k0, k1, k2, k3, k5, hC, hbs, hv, hna, hnn⟩ := exc_cls I.ok.mod.kin M.exc
  rw [arm_exec_Raise]
  refine wpAny_bind (wpAny_standAt ?_)
  show wpAny _ _ (raiseStmt X.env (some (do let v ← eval (.Call (.Name x p) (e :: es) [] apos) X.env; standAt pos; pure v)) none) _ _ _
  refine raise_own hbs (I.ok.hd hc) (wpAny_bind (wpAny_mono (Q := fun v s₁ => ∃ e vs od sl, v = .ref e ∧ s₁.heap.get? C = some (excClassObj nm qn C N bs bm hdct sn sub ab col dd k0 k1 k2 k3 k5 "ValueError.__new__") ∧
      s₁.heap.get? e = some ⟨.ref C, od, .fields vs, sl⟩ ∧ vs[1]? = some .none ∧ X.xe (.ref e) s₁) ?_ (fun v s₃ h₃ => wpAny_bind (wpAny_standAt (wpAny_pure h₃))) fun _ _ x => x))
  refine wpAny_Call_Name_kw (ld_glob I hg hm ?_ hdb)
  refine PySem.W.callWith_K (h₀ := X.base) I.ok.mod.kin M.kp (thn (ha apos pins s σ H _ I h) fun us s1 ⟨vs, H1, I1, r, hz, q⟩ => ⟨I1.kIn, ?_⟩) he hpl
  refine run_exc (W := fun v H2 => ∃ dx, H2 (s1.heap.objs.size + 1) = some (ExcH (s1.heap.objs.size + 1) C (some dx)) ∧ E (.ref C) (some dx) (drop1 H2 (s1.heap.objs.size + 1))) M F hr hb I1 r (show us.length ≤ sizeLine by rw [← r.length]; exact hz) (q _ (I1.hok.fresh (Nat.le_succ _))) fun s' H2 I2 ⟨dx, hH, hE⟩ => ?_
  obtain ⟨⟨ws, sl, hx, hs, h1⟩, _, _⟩ := I2.hok _ _ hH
  exact ⟨_, ws, some dx, sl, rfl, I2.bk _ _ hC, hx, h1, hW _ _ _ _ _ (rz_made hex I2 hH (Nat.le_trans I1.sz (Nat.le_succ _))) hE⟩
end
/-! ### try: .. except T as n: .. -/
/-- an exception that was caught, of an own class, with a dict -/
def ExcC (e C dx : Addr) : HO := .ext fun h => ∃ vs sl, h.get? e = some ⟨.ref C, some dx, .fields vs, sl⟩ ∧ vs.size = 6
theorem excC_ok {P : Program} {w : World} {H : Hp} {h : Heap} {e C dx : Addr} {vs : Array Value} {sl : Array (Option Value)} (hx : h.get? e = some ⟨.ref C, some dx, .fields vs, sl⟩) (hs : vs.size = 6) : ObjOk P w H h e (ExcC e C dx) :=
  ⟨⟨vs, sl, hx, hs⟩, ⟨_, hx⟩, fun h1 h2 ⟨vs, sl, a, b⟩ k => ⟨vs, sl, k _ a, b⟩⟩
def nones (σ : St) : St := σ.map fun _ => none
theorem nones_len {σ : St} : (nones σ).length = σ.length := List.length_map ..
theorem nones_no {σ : St} {i : Nat} {v : V} (h : (nones σ)[i]? = some (some v)) : False := by
  unfold nones at h
  rw [List.getElem?_map] at h
  cases q : σ[i]? with
  | none => rw [q] at h; cases h
  | some y => rw [q] at h; cases h
section
variable {X : Cx} {pins : List (Addr × Obj)} {σ : St} {H : Hp} {s : Shared}
theorem Inv.nones (I : Inv X pins σ H s) : Inv X pins (nones σ) H s := I.weak nones_len fun _ _ h => (nones_no h).elim
/-- an untracked thing of ours is tracked -/
theorem Inv.take {e : Addr} {o : HO} (I : Inv X pins σ H s) (hn : H e = none) (new : X.s₀.heap.objs.size ≤ e) (hL : e ≠ X.env.locals) (hc : ∀ x c, X.env.cells.lookup x = some c → c ≠ e) (hp : ∀ p ∈ X.pn ++ pins, p.1 ≠ e)
    (ok : ObjOk X.prog X.w (upd H e o) s.heap e o) : Inv X pins σ (upd H e o) s := by
  have ne : ∀ b u, X.s₀.heap.get? b = some u → b ≠ e := fun b u eb z => by rw [z, Heap.get?_none_of_le new] at eb; cases eb
  have nh : ∀ b u, H b = some u → b ≠ e := fun b u eb z => by rw [z, hn] at eb; cases eb
  refine ⟨I.ok, I.os, I.bare, ⟨I.base.keep, I.base.slot, fun b u eb n hx => ?_, I.base.there, fun b xs q => ?_, fun b u v q => ?_, fun b ps q => ?_⟩, I.loc, I.cell, ?_, fun x c q => ?_, fun p q => ?_, fun b u q => ?_, I.len⟩
  · rw [upd_ne (ne b u eb)]; exact I.base.free b u eb n hx
  · have := I.base.tups b xs q
    rw [upd_ne (nh b _ this)]; exact this
  · have := I.base.frzs b u v q
    rw [upd_ne (nh b _ this)]; exact this
  · obtain ⟨more, this⟩ := I.base.tbls b ps q
    exact ⟨more, by rw [upd_ne (nh b _ this)]; exact this⟩
  · rw [upd_ne (Ne.symm hL)]; exact I.free
  · rw [upd_ne (hc x c q)]; exact I.freeC x c q
  · obtain ⟨a1, a2, a3, a4, a5⟩ := I.pin p q
    exact ⟨a1, by rw [upd_ne (hp p q)]; exact a2, a3, a4, a5⟩
  · by_cases z : b = e
    · subst z; rw [upd_same] at q; cases q; exact ok
    · rw [upd_ne z] at q
      exact (I.hok b u q).stay (fun _ _ _ y => y) (fun c y => by rw [upd_ne (nh c _ y)]; exact y) fun c xs y => by rw [upd_ne (nh c _ y)]; exact y
/-- the frame's map is another one: all its names are forgotten -/
theorem Inv.forget {h' : Heap} {m' : Str → Option Value} {t' : Nat} (I : Inv X pins σ H s) (hn : h'.Ns X.env.locals m') (hs : Heap.SameBut X.env.locals s.heap h') : Inv X pins (L2.nones σ) H { s with heap := h', toks := t' } := by
  have neL : ∀ b o, X.s₀.heap.get? b = some o → b ≠ X.env.locals := fun b o e => Nat.ne_of_lt (Nat.lt_of_lt_of_le (Heap.lt_size e) I.ok.above)
  refine ⟨I.ok, I.os, I.bare, ⟨fun b o e n hb hx => (hs.2 b (neL b o e)).trans (I.base.keep b o e n hb hx), fun b o e n hb hx => ?_, I.base.free, fun b o e hx => ?_, I.base.tups, I.base.frzs, I.base.tbls⟩, ⟨m', hn, fun j y v' _ e2 _ => (nones_no e2).elim⟩, fun y c e => ?_, I.free, I.freeC, fun p hp => ?_, fun b u q => ?_, by rw [nones_len]; exact I.len⟩
  · obtain ⟨sl, e1⟩ := I.base.slot b o e n hb hx
    exact ⟨sl, (hs.2 b (neL b o e)).trans e1⟩
  · obtain ⟨o', e1⟩ := I.base.there b o e hx
    exact ⟨o', (hs.2 b (neL b o e)).trans e1⟩
  · obtain ⟨w', z⟩ := I.cell y c e
    exact ⟨w', z.sameBut hs (I.cne y c e)⟩
  · obtain ⟨e, n, ne, nf, d⟩ := I.pin p hp
    exact ⟨(hs.2 p.1 ne).trans e, n, ne, nf, d⟩
  · refine (I.hok b u q).stay (fun c v hc y => (hs.2 c ?_).trans y) (fun _ y => y) fun _ _ y => y
    rintro rfl
    rcases hc with rfl | hc
    · rw [I.free] at q; cases q
    · rw [I.free] at hc; cases hc
/-- what a call in a try leaves -/
def WishI (X : Cx) (E : XK) : Prop := ∀ pins σ H s H1 s1 e C dx, Inv X pins σ H s → Inv X pins σ H1 s1 → Flies s.heap H1 s1.heap e C dx → E (.ref C) (some dx) H1 → X.xe (.ref e) s1
theorem passI {E : XK} (hW : WishI X E) : Passes (CXe X.prog X.w) X E := by
  intro pins σ H s ev s' I h
  obtain ⟨e, C, dx, H', rfl, os, bare, un, hok, fl, hE⟩ := h
  exact hW pins σ H s H' s' e C dx I (I.call' (ch := []) os un hok bare (fun b z => absurd z (by simp))) fl hE
end
/-- the context of a try's body -/
abbrev Cx.tried (X : Cx) (pins : List (Addr × Obj)) (W : Value → Shared → Prop) : Cx := { X with pn := X.pn ++ pins, xe := W }
/-- the context of a suite that handles the exception at e -/
abbrev Cx.suite (X : Cx) (e : Addr) : Cx := { X with A := X.A.mark (some (.ref e)), calm := false, xe := fun _ _ => False }
section
variable {X : Cx} {pins pins' : List (Addr × Obj)} {σ : St} {H : Hp} {s : Shared} {W : Value → Shared → Prop} {e : Addr}
theorem Inv.tried (I : Inv X pins σ H s) : Inv (X.tried pins W) [] σ H s :=
  ⟨⟨I.ok.mod, I.ok.kind, I.ok.glob, I.ok.blt, I.ok.above, I.ok.inj, I.ok.has, I.ok.cab, I.ok.hd, I.ok.frames, I.ok.stk, I.ok.exf, I.ok.bs, I.ok.bsz, I.ok.noex, I.ok.exfs, I.ok.funs, I.ok.frf⟩, I.os, I.bare, I.base, I.loc, I.cell, I.free, I.freeC, fun p hp => I.pin p (by simpa using hp), I.hok, I.len⟩
theorem Inv.untried (I : Inv (X.tried pins W) pins' σ H s) : Inv X pins σ H s :=
  ⟨⟨I.ok.mod, I.ok.kind, I.ok.glob, I.ok.blt, I.ok.above, I.ok.inj, I.ok.has, I.ok.cab, I.ok.hd, I.ok.frames, I.ok.stk, I.ok.exf, I.ok.bs, I.ok.bsz, I.ok.noex, I.ok.exfs, I.ok.funs, I.ok.frf⟩, I.os, I.bare, I.base, I.loc, I.cell, I.free, I.freeC, fun p hp => I.pin p (List.mem_append_left _ hp), I.hok, I.len⟩
theorem SP.untried {D : Ends} {f : Flow} {s' : Shared} (h : SP (X.tried pins W) pins' D f s') : SP X pins D f s' := by
  cases f with
  | next => obtain ⟨σ', H', I, q⟩ := h; exact ⟨σ', H', I.untried, q⟩
  | brk => obtain ⟨σ', H', I, q⟩ := h; exact ⟨σ', H', I.untried, q⟩
  | cont => obtain ⟨σ', H', I, q⟩ := h; exact ⟨σ', H', I.untried, q⟩
  | ret u => obtain ⟨v, σ', H', I, r, q⟩ := h; exact ⟨v, σ', H', I.untried, r, q⟩
theorem Inv.suite (I : Inv X pins σ H s) : Inv (X.suite e) pins σ H s :=
  ⟨⟨I.ok.mod, I.ok.kind, I.ok.glob, I.ok.blt, I.ok.above, I.ok.inj, I.ok.has, I.ok.cab, fun z => (nomatch z), I.ok.frames, I.ok.stk, I.ok.exf, I.ok.bs, I.ok.bsz, I.ok.noex, I.ok.exfs, I.ok.funs, I.ok.frf⟩, I.os, I.bare, I.base, I.loc, I.cell, I.free, I.freeC, I.pin, I.hok, I.len⟩
theorem Inv.unsuite (hh : X.calm = true → X.A.handled = none) (I : Inv (X.suite e) pins σ H s) : Inv X pins σ H s :=
  ⟨⟨I.ok.mod, I.ok.kind, I.ok.glob, I.ok.blt, I.ok.above, I.ok.inj, I.ok.has, I.ok.cab, hh, I.ok.frames, I.ok.stk, I.ok.exf, I.ok.bs, I.ok.bsz, I.ok.noex, I.ok.exfs, I.ok.funs, I.ok.frf⟩, I.os, I.bare, I.base, I.loc, I.cell, I.free, I.freeC, I.pin, I.hok, I.len⟩
end
/-! ### try: .. except T as n: .., the rule -/
section
variable {X : Cx} {pins : List (Addr × Obj)} {σ : St} {H H1 : Hp} {s s1 : Shared} {e C dx : Addr}
theorem Inv.older (I : Inv X pins σ H s) {b : Addr} (hb : s.heap.objs.size ≤ b) : X.s₀.heap.objs.size ≤ b ∧ b ≠ X.env.locals ∧ (∀ x c, X.env.cells.lookup x = some c → c ≠ b) ∧ ∀ p ∈ X.pn ++ pins, p.1 ≠ b := by
  refine ⟨Nat.le_trans I.sz hb, fun z => ?_, fun x c q z => ?_, fun p q z => ?_⟩
  · have := I.lt; rw [z] at hb; exact absurd (Nat.lt_of_lt_of_le this hb) (Nat.lt_irrefl _)
  · obtain ⟨v, o, ho, _⟩ := I.cell x c q
    rw [z] at ho
    exact absurd (Nat.lt_of_lt_of_le (Heap.lt_size ho) hb) (Nat.lt_irrefl _)
  · have ho := (I.pin p q).1
    rw [z] at ho
    exact absurd (Nat.lt_of_lt_of_le (Heap.lt_size ho) hb) (Nat.lt_irrefl _)
theorem landed {oe : Obj} {h' : Heap} {old : Option Addr} (I : Inv X pins σ H s) (I1 : Inv X pins σ H1 s1) (new : s.heap.objs.size ≤ e) (free : H1 e = none) (hT : ∀ T, old = some T → H1 T = none ∧ s.heap.objs.size ≤ T) (l : Left X.stack e oe s1.heap h' old) :
    Inv X pins σ H1 { s1 with heap := h' } := by
  have nch : ∀ b, b ∉ e :: old.toList → b ≠ e ∧ some b ≠ old := fun b hb => ⟨fun z => hb (by rw [z]; exact List.mem_cons_self), fun z => hb (List.mem_cons_of_mem _ (by rw [← z]; simp))⟩
  have hch : ∀ b ∈ e :: old.toList, H1 b = none ∧ s.heap.objs.size ≤ b := fun b hb => by
    rcases List.mem_cons.mp hb with rfl | hb
    · exact ⟨free, new⟩
    · exact hT b (by simpa using hb)
  refine I1.call (g' := s1.gens) (d' := s1.drawn) (t' := s1.toks) (ch := e :: old.toList) ⟨fun b o eb n hb hx => l.keep b o eb (nch b hx).1 (nch b hx).2 hb, fun b o eb n hb hx => l.slots b o eb hb, fun b o eb n hx => n, fun b o eb hx => ?_, fun _ _ q => q, fun _ _ _ q => q, fun b ps q => ⟨#[], by rw [q]; simp⟩⟩ (fun b u q => ?_) I1.bare fun b hb => ?_
  · by_cases hb : b ∈ frs X.stack
    · obtain ⟨sl, q⟩ := l.slots b o eb hb
      exact ⟨_, q⟩
    · exact ⟨o, l.keep b o eb (nch b hx).1 (nch b hx).2 hb⟩
  · have trk : ∀ c oc v, H1 c = some oc → s1.heap.get? c = some v → h'.get? c = some v := fun c oc v ec ev => l.keep c v ev (fun z => by rw [z, free] at ec; cases ec) (fun z => by rw [(hT c z.symm).1] at ec; cases ec) (fun z => by rw [I1.stkFree c z] at ec; cases ec)
    refine (I1.hok b u q).stay (fun c v hc ev => ?_) (fun _ y => y) fun _ _ y => y
    rcases hc with rfl | hc
    · exact trk _ u v q ev
    · exact trk c _ v hc ev
  · obtain ⟨a1, a2, a3, a4⟩ := I.older (hch b hb).2
    exact ⟨.inr a1, a2, a3, a4⟩
theorem flight_again {M : Model} {A : Around} {E : Value → Shared → Prop} {T : Addr} {oe oT : Obj} {vs ts : Array Value} {Q : Unit → Shared → Prop} (he : s.heap.get? e = some oe) (hd : oe.data = .fields vs) (h1 : vs[1]? = some (.ref T)) (hT : s.heap.get? T = some oT) (hdT : oT.data = .fields ts) (h3 : ts[3]? = some .none)
    (h : ∀ h', (∀ b, b ≠ T → h'.get? b = s.heap.get? b) → Q () { s with heap := h' }) : wpAny M A (setFlight (.ref e) none) Q E s := by
  have hsz3 : 3 < ts.size := (Array.getElem?_eq_some_iff.mp h3).1
  unfold setFlight
  refine wpAny_bind (wpAny_field he hd h1 ?_)
  rw [if_pos (show (Value.ref T != Value.none) = true by simp)]
  exact wpAny_setField hT hdT hsz3 (h _ fun b hb => Heap.get?_update_other _ _ (Ne.symm hb))
/-- the ends of a suite whose frame's names are forgotten -/
def Ends.gone (D : Ends) : Ends := ⟨fun σ H => D.nx (nones σ) H, D.rt, fun σ H => D.bk (nones σ) H, fun σ H => D.ct (nones σ) H⟩
/-- what is wanted where the exception comes -/
def xTry (K : PySem.W.Frag) (CT : Addr) (i k : Nat) (ts : TS) (D : Ends) : XK := fun cls od H1 => ∃ C dx, cls = .ref C ∧ od = some dx ∧ PySem.W.exmOne K (.ref C) (.ref CT) = some true ∧
  ∀ e, H1 e = none → ts D.gone ((List.replicate k none).set i (some (.ref e))) (upd H1 e (ExcC e C dx))
theorem nones_eq {σ : St} {k : Nat} (h : σ.length = k) : nones σ = List.replicate k none := by
  unfold nones
  rw [List.map_const']
  rw [h]
theorem caught {D : Ends} {ts : TS} {x n : Str} {CT : Addr} {i : Nat} {p pos : Pos} {b₀ : Stmt} {rest : List Stmt} (hst : X.stack = X.env :: X.outer) (hf : X.env.frame = some X.env.locals) (hg : Gl X x) (hm : X.mg x = some (.ref CT)) (hN : X.N.Nodup) (hi : X.N[i]? = some n)
    (hloc : X.env.kindOf n = some .local) (hlx : X.env.scope.names.lookup n = some .local) (hs : ∀ e, PSs (X.suite e) (b₀ :: rest) ts) (hdb : (x == ("__debug__" : Str)) = false)
    (I : Inv X pins σ H s) (I1 : Inv X pins σ H1 s1) (f : Flies s.heap H1 s1.heap e C dx) (hE : xTry X.K CT i X.N.length ts D (.ref C) (some dx) H1) :
    wpAny (model X.prog X.w) X.A (noteFrame (.ref e) X.env) (fun _ s₂ => wpAny (model X.prog X.w) X.A (setFlight (.ref e) none) (fun _ s₃ => wpAny (model X.prog X.w) X.A (handleBy (.ref e) X.env [.ExceptHandler (some (.Name x p)) (some n) (b₀ :: rest) pos]) (SP X pins D) X.xe s₃) X.xe s₂) X.xe s1 := by
  obtain ⟨⟨vs, sl, he, hsz, hz, hT⟩, free, new⟩ := f
  obtain ⟨C', dx', eC, ed, hx, hq⟩ := hE
  cases eC
  cases ed
  have hfr : X.A.frames = some (X.env :: X.outer) := by rw [← hst]; exact I.ok.frames
  have hfun : s1.heap.FunFrames X.base (X.env :: X.outer) := by have := I1.stack; rw [hst] at this; exact this
  have hne : e ∉ frs (X.env :: X.outer) := fun hm => by
    obtain ⟨_, o, ho, hnf⟩ := hfun.mem hm
    rw [he] at ho
    cases ho
    exact hnf vs rfl
  refine note_loose hfr hfun hf he rfl hsz hz fun h1 old hold nt => ?_
  refine flight_none (s := { s1 with heap := h1 }) hne nt fun h2 l => ?_
  have hl2 : Left X.stack e ⟨.ref C, some dx, .fields vs, sl⟩ s1.heap h2 old := by rw [hst]; exact l
  have I2 := landed I I1 new free (fun T z => hT T (hold T z)) hl2
  obtain ⟨vs', T', oT', ts', a1, a2, a3, a4, a5, a6, a7, a8⟩ := l.at_
  obtain ⟨b1, b2, b3, b4⟩ := I.older new
  obtain ⟨c1, c2, c3, c4⟩ := I1.older a5
  have I2s := I2.suite (e := e)
  refine wpAny_handleBy_cons (codeAny_handlers_test (ld_glob I2s hg hm ?_ hdb)) (by intro q; cases q)
  have LT : PySem.W.Looks (model X.prog X.w) h2 (typeOf (.ref e)) (.ref C) := (PySem.W.Looks.ld a1).andThen .now
  refine (PySem.W.exm_one (M := model X.prog X.w) I2.kIn LT hx).here ?_
  refine codeAny_handlers_suite_as ?_
  refine flight_again (s := { s1 with heap := h2 }) a1 rfl a3 a6 a7 a8 fun h3 hk3 => ?_
  have hHT : H1 T' = none := I1.hok.fresh a5
  have I3 : Inv X pins σ H1 { s1 with heap := h3 } := I2.turned (s := { s1 with heap := h2 }) (t' := s1.toks) (it := T') (fun b o hb eb => (hk3 b hb).trans eb) hHT c2 (.inr c1) c3 c4
  have he3 : h3.get? e = some ⟨.ref C, some dx, .fields vs', sl⟩ := (hk3 e (Ne.symm a4)).trans a1
  have I4 := I3.nones.take (o := ExcC e C dx) free b1 b2 b3 b4 (excC_ok he3 a2)
  rw [nones_eq I.len] at I4
  refine store_ok (X := X.suite e) (s := { s1 with heap := h3 }) (v := .ref e) I4.suite hN hi (.inl hlx) rfl (fun s5 I5 => ?_) (.inr hlx)
  refine wpAny_mono (hs e pins s5 _ _ D.gone I5 (hq e free)) (fun fl s6 h6 => ?_) fun _ _ z => False.elim z
  have goes : ∀ {σ' : St} {H' : Hp} {R : Shared → Prop}, Inv (X.suite e) pins σ' H' s6 → (∀ s7, Inv X pins (nones σ') H' s7 → R s7) → wpAny (model X.prog X.w) X.A (do bindName X.env n .none; unbindBehindTheSuite X.env n pos) (fun _ s7 => R s7) X.xe s6 := fun {σ' H' R} J k => by
    obtain ⟨m, hn, _⟩ := J.loc
    refine wpAny_nameGoes hloc hn (by rw [I.ok.kind]; rfl) fun h' m' hn' hsb => k _ ((J.unsuite I.ok.hd).forget (t' := s6.toks + 1) hn' hsb)
  show wpAny (model X.prog X.w) X.A (do bindName X.env n .none; unbindBehindTheSuite X.env n pos) (fun _ s7 => SP X pins D fl s7) X.xe s6
  cases fl with
  | next => obtain ⟨σ', H', J, q⟩ := h6; exact goes J fun s7 J7 => ⟨_, H', J7, q⟩
  | brk => obtain ⟨σ', H', J, q⟩ := h6; exact goes J fun s7 J7 => ⟨_, H', J7, q⟩
  | cont => obtain ⟨σ', H', J, q⟩ := h6; exact goes J fun s7 J7 => ⟨_, H', J7, q⟩
  | ret u => obtain ⟨v, σ', H', J, r, q⟩ := h6; exact goes J fun s7 J7 => ⟨v, _, H', J7, r, q⟩
/-- try: body except x as n: b₀ .. -/
def sTry (K : PySem.W.Frag) (CT : Addr) (i k : Nat) (tb : XK → TS) (ts : TS) : TS := fun D σ H => tb (xTry K CT i k ts D) D σ H
theorem ps_try {body : List Stmt} {tb : XK → TS} {ts : TS} {x n : Str} {CT : Addr} {i : Nat} {p pos pos' : Pos} {b₀ : Stmt} {rest : List Stmt} (hst : X.stack = X.env :: X.outer) (hf : X.env.frame = some X.env.locals) (hg : Gl X x) (hm : X.mg x = some (.ref CT)) (hN : X.N.Nodup) (hi : X.N[i]? = some n)
    (hloc : X.env.kindOf n = some .local) (hlx : X.env.scope.names.lookup n = some .local) (hb : ∀ pins W E, WishI (X.tried pins W) E → PSs (X.tried pins W) body (tb E)) (hs : ∀ e, PSs (X.suite e) (b₀ :: rest) ts) (hdb : (x == ("__debug__" : Str)) = false := by decide) :
    PS X (.Try body [.ExceptHandler (some (.Name x p)) (some n) (b₀ :: rest) pos] [] [] pos') (sTry X.K CT i X.N.length tb ts) := by
  intro pins s σ H D I h
  refine wpAny_Try_except ?_
  refine wpAny_mono (hb pins _ _ (fun pins' σ' H s H1 s1 e C dx J J1 f hE => ?_) [] s σ H D I.tried h) (fun fl s2 h2 => ?_) fun _ _ z => z
  · exact caught hst hf hg hm hN hi hloc hlx hs hdb J.untried J1.untried f hE
  · cases fl with
    | next => exact wpAny_execs_nil h2.untried
    | brk => exact h2.untried
    | cont => exact h2.untried
    | ret u => exact h2.untried
end
/-! ### attributes of an exception of an own class -/
section
open PySem.W
variable {prog : Program} {w : World} {A : Around} {E : Value → Shared → Prop} {h : Heap} {g : Array GenState} {d : Drawn} {t : Nat} {os : OsState} {a C dx : Addr} {vs : Array Value} {sl : Array (Option Value)} {K : PySem.W.Frag} {m : Str → Option Value}
/-- what the class must have to be asked -/
structure ExcAsk (K : PySem.W.Frag) (C : Addr) : Prop where
  exc : excIn K C = true
  ga : findIn K (.ref C) "__getattribute__" = some (some (.builtin "BaseException.__getattribute__"))
  gt : findIn K (.ref C) "__getattr__" = some none
  cl : findIn K (.ref C) "__class__" = some (some (.builtin "object.__class__"))
  ob : subIn K (.ref C) (.type "object") = some true
theorem ask_check {M : Model} {nameV : Value} {Q : Unit → Shared → Prop} (X : K.In h) (Z : ExcAsk K C) (hx : h.get? a = some ⟨.ref C, some dx, .fields vs, sl⟩) (hq : Q () ⟨h, g, d, t, os⟩) : wpAny M A (checkBuiltinCall "BaseException.__getattribute__" ⟨[.ref a, nameV], []⟩) Q E ⟨h, g, d, t, os⟩ := by
  obtain ⟨nm, qn, N, bs, bm, hdct, sn, sub, ab, col, dd, k0, k1, k2, k3, k5, hC, hb, hv, ha, hn⟩ := exc_cls X Z.exc
  have hk : builtinKind "BaseException.__getattribute__" = some .slot := by decide +kernel
  have hsplit : splitId "BaseException.__getattribute__" = some ("BaseException", "__getattribute__") := by decide +kernel
  have hcB : (Value.ref C :: bm).contains (.type "BaseException") = true := by rw [List.contains_cons, hb, Bool.or_true]
  have ha := F.args_bexc_ga (.ref a) nameV
  simp only [checkBuiltinCall, hk, hsplit]
  refine wpAny_bind ?_
  unfold isInstance
  repeat (first | (with_reducible refine wpAny_loadPart_at hx ?_) | (with_reducible refine wpAny_isSubtype_exc hC ?_; rw [hcB]) | wp_step)
  exact hq
theorem class_get_e {R : Result → Shared → Prop} (X : K.In h) (Z : ExcAsk K C) (hx : h.get? a = some ⟨.ref C, some dx, .fields vs, sl⟩) (hq : R (.ok (.ret (.ref C))) ⟨h, g, d, t, os⟩) :
    codeAny (model prog w) A (.call (.builtin "getset_descriptor.__get__") ⟨[.builtin "object.__class__", .ref a, .ref C], []⟩) R ⟨h, g, d, t, os⟩ := by
  have hT5 : (⟨h, g, d, t, os⟩ : Shared).TypeIs (.builtin "object.__class__") "getset_descriptor" := F.typeOf_object_class
  have f8 : isSubtype (.ref C) (.type (".".intercalate ("object.__class__".cutAt '.').dropLast)) = isSubtype (.ref C) (.type "object") := by rw [F.owner_object_class]
  have L8 : Looks (model prog w) h (isSubtype (.ref C) (.type "object")) true := looks_subIn X Z.ob
  refine codeAny_call_builtin F.slot_gs_get.plain F.entry_gs_get (F.slot_gs_get.check _ _ _ _ _ _ _ _ hT5 (F.args_gs_get _ _ _) ?_)
  repeat (any_goals (first | assumption | with_reducible refine wpAny_loadPart_at hx ?_ | (rw [f8]; refine L8.at ?_) | wp_step))
  refine ⟨Code.quiet_builtin _ (by decide +kernel), codeAny_builtin F.entry_object_class ?_⟩
  repeat (any_goals (first | assumption | with_reducible refine wpAny_loadPart_at hx ?_ | wp_step))
theorem class_entry_e {tk : Tok} {Q : Fin → Shared → Prop} (X : K.In h) (Z : ExcAsk K C) (hx : h.get? a = some ⟨.ref C, some dx, .fields vs, sl⟩) (hq : Q (.done (.ret (.ref C))) ⟨h, g, d, t, os⟩) :
    wpAny (model prog w) A (Builtin.«object.__getattribute__» ⟨[.ref a, .str "__class__" tk], []⟩) Q E ⟨h, g, d, t, os⟩ := by
  have hT5 : (⟨h, g, d, t, os⟩ : Shared).TypeIs (.builtin "object.__class__") "getset_descriptor" := F.typeOf_object_class
  have f5 := F.typeOf_object_class
  have f6 := F.slot_gs_get.lookup
  have f7 := F.slot_gs_set.lookup
  have L4 : Looks (model prog w) h (typeLookup (.ref C) "__class__") (some (.builtin "object.__class__")) := looks_findIn X Z.cl
  repeat (any_goals (first | assumption | with_reducible refine wpAny_loadPart_at hx ?_ | refine L4.at ?_ | wp_step))
  refine class_get_e X Z hx ?_
  repeat (any_goals (first | assumption | wp_step))
end
/-! ### an exception's class asked, its attribute read, isinstance of it -/
section
open PySem.W
variable {prog : Program} {w : World} {A : Around} {E : Value → Shared → Prop} {h : Heap} {g : Array GenState} {d : Drawn} {t : Nat} {os : OsState} {a C dx : Addr} {vs : Array Value} {sl : Array (Option Value)} {K : PySem.W.Frag} {m : Str → Option Value}
/-- asked by its own __getattribute__ -/
theorem ask_by {f : Str} {v : Value} {tk : Tok} {fill expr : Bool} {Q : Value → Shared → Prop} (X : K.In h) (Z : ExcAsk K C) (hx : h.get? a = some ⟨.ref C, some dx, .fields vs, sl⟩)
    (he : ∀ {A : Around} {E : Value → Shared → Prop} {Q : Fin → Shared → Prop}, Q (.done (.ret v)) ⟨h, g, d, t, os⟩ → wpAny (model prog w) A (Builtin.«object.__getattribute__» ⟨[.ref a, .str f tk], []⟩) Q E ⟨h, g, d, t, os⟩) (ho : handedIn v = true)
    (hq : Q v ⟨h, g, d, t, os⟩) : wpAny (model prog w) A (getAttrBy (.ref a) (.str f tk) fill expr) Q E ⟨h, g, d, t, os⟩ := by
  have FB := PySem.F.attrBase_ValueError
  have f3 := FB.ga.bind (.ref a)
  have hx0 : (expr && onTheHeap (Value.builtin "BaseException.__getattribute__")) = false := by cases expr <;> rfl
  have hx2 : (Value.builtin "BaseException.__getattribute__" == Value.builtin "object.__getattribute__") = false := by decide +kernel
  have hx1 : (onTheHeap (Value.ref C) && Value.builtin "BaseException.__getattribute__" == Value.builtin "object.__getattribute__") = false := by rw [hx2]; rfl
  have L1 : Looks (model prog w) h (typeLookup (.ref C) "__getattribute__") (some (.builtin "BaseException.__getattribute__")) := looks_findIn X Z.ga
  have L2 : Looks (model prog w) h (typeLookup (.ref C) "__getattr__") none := looks_findIn X Z.gt
  have L0 : Looks (model prog w) h (typeOf (.ref a)) (.ref C) := (Looks.ld hx).andThen .now
  have hc : ∀ {A : Around} {R : Result → Shared → Prop}, R (.ok (.ret v)) ⟨h, g, d, t, os⟩ → codeAny (model prog w) A (.call (.builtin "BaseException.__getattribute__") ⟨[.ref a, .str f tk], []⟩) R ⟨h, g, d, t, os⟩ := fun hR =>
    codeAny_call_builtin FB.ga.plain PySem.F.entry_bexc_ga (ask_check X Z hx (he hR))
  unfold getAttrBy
  refine wpAny_holding (wpAny_bind (L0.at (wpAny_bind (L1.at ?_))))
  dsimp only
  rw [hx1]
  simp only [Bool.false_eq_true, if_false]
  unfold getAttrByItsOwn hookBefore
  repeat (any_goals (first | assumption | refine L2.at ?_ | wp_step))
  refine hc ?_
  repeat (any_goals (first | assumption | (rw [handedOut_of ho]) | wp_step))
end
/-! ### isinstance of an exception, its attribute read -/
section
open PySem.W
variable {prog : Program} {w : World} {A : Around} {E : Value → Shared → Prop} {h : Heap} {g : Array GenState} {d : Drawn} {t : Nat} {os : OsState} {a C dx : Addr} {vs : Array Value} {sl : Array (Option Value)} {K : PySem.W.Frag} {m : Str → Option Value}
theorem class_attr_e {Q : Option Value → Shared → Prop} (X : K.In h) (Z : ExcAsk K C) (hx : h.get? a = some ⟨.ref C, some dx, .fields vs, sl⟩) (hq : Q (some (.ref C)) ⟨h, g, d, t + 1, os⟩) : wpAny (model prog w) A (getAttr? (.ref a) "__class__") Q E ⟨h, g, d, t, os⟩ := by
  unfold getAttr? getAttrBy?
  repeat (any_goals (first | assumption | (with_reducible refine ask_by X Z hx (v := .ref C) (fun q => class_entry_e X Z hx q) rfl ?_) | wp_step))
theorem kitx_exc (Z : ExcAsk K C) : KitX K (.ref a) (.ref C) (fun h => ∃ vs sl, h.get? a = some ⟨.ref C, some dx, .fields vs, sl⟩) where
  ty := fun _ _ _ ⟨vs, sl, hx⟩ => (Looks.ld hx).andThen .now
  it := fun _ _ X _ => by
    obtain ⟨nm, qn, N, bs, bm, hdct, sn, sub, ab, col, dd, k0, k1, k2, k3, k5, hC, hb, hv, ha, hn⟩ := exc_cls X Z.exc
    intro A' Q' E' s' k q
    unfold isType loadHead
    exact wpAny_bind (wpAny_loadPart (k _ _ hC) (wpAny_pure q))
  ne := fun h tp dd its n sl X htp => by
    obtain ⟨nm, qn, N, bs, bm, hdct, sn, sub, ab, col, dd, k0, k1, k2, k3, k5, hC, hb, hv, ha, hn⟩ := exc_cls X Z.exc
    refine Bool.eq_false_iff.mpr fun q => ?_
    have e : C = tp := Value.ref.inj (beq_iff_eq.mp q)
    subst e
    have z := congrArg Obj.data (Option.some.inj (hC.symm.trans htp))
    cases z
  ca := fun {_ _ _ _ _ s} X ⟨vs, sl, hx⟩ k => by
    obtain ⟨h, g, d, t, os⟩ := s
    exact class_attr_e X Z hx k
/-- the attribute that stands in the exception's dict -/
theorem fld_entry_e {f : Str} {v : Value} {tk : Tok} {Q : Fin → Shared → Prop} (X : K.In h) (Z : ExcAsk K C) (hd : hasDictIn K C = true) (hf : findIn K (.ref C) f = some none) (hx : h.get? a = some ⟨.ref C, some dx, .fields vs, sl⟩) (hn : h.Ns dx m) (hm : m f = some v) (hq : Q (.done (.ret v)) ⟨h, g, d, t, os⟩) :
    wpAny (model prog w) A (Builtin.«object.__getattribute__» ⟨[.ref a, .str f tk], []⟩) Q E ⟨h, g, d, t, os⟩ := by
  obtain ⟨nm, qn, N, bs, bm, hdct, sn, sub, ab, col, dd, k0, k1, k2, k3, k5, hC, hb, hv, ha, hna⟩ := exc_cls X Z.exc
  have hdct' : hdct = true := by
    unfold hasDictIn at hd
    cases q : clsIn K C with
    | none => rw [q] at hd; cases hd
    | some cd =>
      rw [q] at hd
      unfold clsIn at q
      split at q
      · rename_i c' d' cd' sl' ho
        cases q
        have z := congrArg Obj.data (Option.some.inj (hC.symm.trans (X _ _ ho)))
        cases z
        exact hd
      · cases q
  subst hdct'
  have L4 : Looks (model prog w) h (typeLookup (.ref C) f) none := looks_findIn X hf
  repeat (any_goals (first | assumption | with_reducible refine wpAny_loadPart_at hx ?_ | with_reducible refine wpAny_loadPart_at hC ?_ | refine L4.at ?_ | with_reducible refine wpAny_nsGet hn ?_ | rw [hm] | wp_step))
theorem fld_attr_e {f : Str} {v : Value} {expr : Bool} {Q : Value → Shared → Prop} (X : K.In h) (Z : ExcAsk K C) (hd : hasDictIn K C = true) (hf : findIn K (.ref C) f = some none) (hx : h.get? a = some ⟨.ref C, some dx, .fields vs, sl⟩) (hn : h.Ns dx m) (hm : m f = some v) (ho : handedIn v = true) (hq : Q v ⟨h, g, d, t + 1, os⟩) :
    wpAny (model prog w) A (getAttr (.ref a) f expr) Q E ⟨h, g, d, t, os⟩ := by
  unfold getAttr
  repeat (any_goals (first | assumption | (with_reducible refine ask_by X Z hx (v := v) (fun q => fld_entry_e X Z hd hf hx hn hm q) ho ?_) | wp_step))
end
/-! ### the rules: isinstance of a caught exception, e.at -/
section
variable {X : Cx}
/-- isinstance(e, C), C an own class or a built-in one -/
theorem call_isE : CallR X (.builtin "isinstance") (fun xs H Q => ∃ e C dx c u b, xs = [.ref e, c] ∧ H e = some (ExcC e C dx) ∧ ExcAsk X.K C ∧ (c = .ref u ∧ PySem.W.kitOne X.K (.ref C) (.ref u) = some b ∨ ∃ n, c = .ty n ∧ PySem.W.kitOne X.K (.ref C) (.type n) = some b) ∧ Q (.bl b) H) := by
  intro pins s σ H xs us Q I r h
  obtain ⟨e, C, dx, c, D, b, rfl, hH, Z, k, q⟩ := h
  obtain ⟨u, w', rfl, ru, rw'⟩ := vals2 r
  cases (show u = Value.ref e from ru)
  obtain ⟨⟨vs, sl, hx, hs⟩, _, _⟩ := I.hok e _ hH
  have hk : ∃ w0, w' = w0 ∧ PySem.W.kitOne X.K (.ref C) w0 = some b := by
    rcases k with ⟨rfl, k⟩ | ⟨n, rfl, k⟩
    · cases (show w' = Value.ref D from rw'); exact ⟨_, rfl, k⟩
    · cases (show w' = Value.type n from rw'); exact ⟨_, rfl, k⟩
  obtain ⟨_, rfl, k⟩ := hk
  exact PySem.W.kia_one (kitx_exc (dx := dx) Z) I.kIn ⟨vs, sl, hx⟩ k (fun z => nomatch z) fun tk => ⟨.bl b, H, I.tok tk, rfl, q⟩
theorem vals_refs : ∀ {cs : List Addr} {us : List Value}, Vals (cs.map V.ref) us → us = cs.map Value.ref
  | [], _, .nil => rfl
  | c :: cs, y :: _, .cons h t => by
    cases (show y = Value.ref c from h)
    rw [vals_refs t]
    rfl
/-- isinstance(e, (C1, ..)) of own classes, the tuple new -/
theorem call_isT : CallR X (.builtin "isinstance") (fun xs H Q => ∃ (e C dx tp : Addr) (cs : List Addr) (b : Bool), xs = [.ref e, .ref tp] ∧ H e = some (ExcC e C dx) ∧ H tp = some (.tup (cs.map V.ref)) ∧ ExcAsk X.K C ∧ PySem.W.kitAny X.K (.ref C) (cs.map Value.ref) = some b ∧ Q (.bl b) H) := by
  intro pins s σ H xs us Q I r h
  obtain ⟨e, C, dx, tp, cs, b, rfl, hH, hT, Z, k, q⟩ := h
  obtain ⟨u, w', rfl, ru, rw'⟩ := vals2 r
  cases (show u = Value.ref e from ru)
  cases (show w' = Value.ref tp from rw')
  obtain ⟨⟨vs, sl, hx, hs⟩, _, _⟩ := I.hok e _ hH
  obtain ⟨_, its, hv, o, ho, hc, n, hd⟩ := (show ObjOk X.prog X.w H s.heap tp (.tup (cs.map V.ref)) from I.hok tp _ hT)
  have := vals_refs hv
  subst this
  obtain ⟨oc, od, oda, osl⟩ := o
  cases hc
  cases hd
  exact PySem.W.kia_tup (kitx_exc (dx := dx) Z) I.kIn ⟨vs, sl, hx⟩ ho k (fun z => nomatch z) fun tk => ⟨.bl b, H, I.tok tk, rfl, q⟩
/-- e.f -/
def tExcAt (K : PySem.W.Frag) (ta : TE) (f : Str) : TE := fun σ H Q => ta σ H fun x H1 => ∃ e C dx fs v, x = .ref e ∧ H1 e = some (ExcC e C dx) ∧ H1 dx = some (.xd fs) ∧ ExcAsk K C ∧ PySem.W.hasDictIn K C = true ∧ PySem.W.findIn K (.ref C) f = some none ∧ fs.lookup f = some v ∧ Q v H1
theorem pe_excAt {e : Expr} {f : Str} {ta : TE} {pos : Pos} (he : PE X e ta) (hb : attributeBase e f X.env (eval e X.env) = eval e X.env) : PE X (.Attribute e f pos) (tExcAt X.K ta f) := by
  intro pins s σ H Q I h
  refine attr_of hb (thn (he pins s σ H _ I h) fun u s1 ⟨x, H1, I1, rx, a, C, dx, fs, v, ex, ea, ed, Z, hd, hf, l, q⟩ => ?_)
  subst ex
  obtain rfl : u = Value.ref a := rx
  obtain ⟨⟨vs, sl, hx, hs⟩, _, _⟩ := I1.hok a _ ea
  obtain ⟨mA, hn, hr⟩ := (show ObjOk X.prog X.w H1 s1.heap dx (.xd fs) from I1.hok dx _ ed)
  have hrf := hr f
  rw [l] at hrf
  obtain ⟨h0, g0, d0, t0, o0⟩ := s1
  cases hm : mA f with
  | none => rw [hm] at hrf; exact False.elim hrf
  | some y =>
    rw [hm] at hrf
    exact fld_attr_e I1.kIn Z hd hf hx hn.ns hm (handed_of hrf) ⟨v, H1, I1.tok (t0 + 1), hrf, q⟩
end
/-! ### a def that may raise -/
section
variable {P : Program} {w : World} {K : PySem.W.Frag} {mg : Str → Option Value} {base : Heap}
theorem Fun.okE {x qual : Str} {st : Stmt} {f : Addr} {fd : FuncData} {N ps : List Str} {k : Nat} {sp : Sp} (F : Fun K x qual st f fd) (S : FnScope N ps (defScope st)) (len : ∀ vs H Q E, sp vs H Q E → vs.length = ps.length)
    (hbody : ∀ (X : Cx) (cdv : Value) (A : Around) (outer : List Env) (s : Shared) (H : Hp) (vs : List V) (Q : VK) (E : XK), X = cxOf (CXe P w) P w K mg base N qual (defScope st) f cdv A outer s H E → Wish X E → PassesOwn (model X.prog X.w) X.A X.env X.xe → Room k X.A → sp vs H Q E →
      ∃ t, PSs (cxOf (CXe P w) P w K mg base N qual (defScope st) f cdv A outer s H E) (defBody st) t ∧ t { nx := fun _ H' => Q .non H', rt := Q } (start N vs) H) : FnOk P w K mg base (CXe P w) (k + 1) f fd ps sp := by
  obtain ⟨oc, od, kV, doc, pm, an, cdv, ct, osl, rfl, lk, hcd⟩ := F.ex
  refine fn_of lk hcd S len fun A outer s H vs Q E hr hsp => ?_
  exact hbody _ cdv A outer s H vs Q E rfl wish_def PassesOwn.leaving hr hsp
end
/-! ### the rules of a suite, K told -/
def rIsE (K : PySem.W.Frag) : List V → Hp → VK → Prop := fun xs H Q => ∃ e C dx c u b, xs = [.ref e, c] ∧ H e = some (ExcC e C dx) ∧ ExcAsk K C ∧ (c = .ref u ∧ PySem.W.kitOne K (.ref C) (.ref u) = some b ∨ ∃ n, c = .ty n ∧ PySem.W.kitOne K (.ref C) (.type n) = some b) ∧ Q (.bl b) H
def rIsT (K : PySem.W.Frag) : List V → Hp → VK → Prop := fun xs H Q => ∃ (e C dx tp : Addr) (cs : List Addr) (b : Bool), xs = [.ref e, .ref tp] ∧ H e = some (ExcC e C dx) ∧ H tp = some (.tup (cs.map V.ref)) ∧ ExcAsk K C ∧ PySem.W.kitAny K (.ref C) (cs.map Value.ref) = some b ∧ Q (.bl b) H
theorem call_isEk {X : Cx} {K : PySem.W.Frag} (h : X.K = K) : CallR X (.builtin "isinstance") (rIsE K) := by
  subst h
  exact call_isE
theorem call_isTk {X : Cx} {K : PySem.W.Frag} (h : X.K = K) : CallR X (.builtin "isinstance") (rIsT K) := by
  subst h
  exact call_isT
theorem pe_excAtK {X : Cx} {K : PySem.W.Frag} {e : Expr} {f : Str} {ta : TE} {pos : Pos} (h : X.K = K) (he : PE X e ta) (hb : attributeBase e f X.env (eval e X.env) = eval e X.env) : PE X (.Attribute e f pos) (tExcAt K ta f) := by
  subst h
  exact pe_excAt he hb
end L2
/-! ### the mathematics: rims, what is beside, places -/
namespace G3
inductive Rim where
  | fixed (v : Int) | mirror | round
  deriving DecidableEq
def mir (sz n : Int) : Int := if n % (2 * sz) < sz then n % (2 * sz) else 2 * sz - 1 - n % (2 * sz)
/-- where a number leads by a rim -/
def nbr (r : Rim) (sz n : Int) : Option Int := if 0 ≤ n ∧ n < sz then some n else match r with
  | .round => some (n % sz)
  | .mirror => some (mir sz n)
  | .fixed _ => none
/-- one size -/
def OkSize (n : Int) : Prop := 1 ≤ n ∧ n ≤ 9
theorem sz_cases {n : Int} (h : OkSize n) : n = 1 ∨ n = 2 ∨ n = 3 ∨ n = 4 ∨ n = 5 ∨ n = 6 ∨ n = 7 ∨ n = 8 ∨ n = 9 := by
  obtain ⟨h1, h2⟩ := h
  omega
theorem round_in {sz n : Int} (h0 : 0 ≤ n) (h1 : n < sz) : n % sz = n := Int.emod_eq_of_lt h0 h1
theorem mir_in {sz n : Int} (h : OkSize sz) (h0 : 0 ≤ n) (h1 : n < sz) : mir sz n = n := by
  unfold mir
  rcases sz_cases h with rfl | rfl | rfl | rfl | rfl | rfl | rfl | rfl | rfl <;> (split <;> omega)
theorem nbr_round {sz n : Int} : nbr .round sz n = some (n % sz) := by
  unfold nbr
  split
  · rename_i h
    rw [round_in h.1 h.2]
  · rfl
theorem nbr_mirror {sz n : Int} (h : OkSize sz) : nbr .mirror sz n = some (mir sz n) := by
  unfold nbr
  split
  · rename_i h'
    rw [mir_in h h'.1 h'.2]
  · rfl
theorem mir_range {sz n : Int} (h : OkSize sz) : 0 ≤ mir sz n ∧ mir sz n < sz := by
  unfold mir
  rcases sz_cases h with rfl | rfl | rfl | rfl | rfl | rfl | rfl | rfl | rfl <;> (split <;> omega)
theorem round_range {sz n : Int} (h : OkSize sz) : 0 ≤ n % sz ∧ n % sz < sz := ⟨Int.emod_nonneg _ (by have := h.1; omega), Int.emod_lt_of_pos _ (by have := h.1; omega)⟩
theorem nbr_range {r : Rim} {sz n k : Int} (h : OkSize sz) (e : nbr r sz n = some k) : 0 ≤ k ∧ k < sz := by
  unfold nbr at e
  split at e
  · rename_i h'
    cases e
    exact h'
  · cases r with
    | fixed v => cases e
    | mirror => cases e; exact mir_range h
    | round => cases e; exact round_range h
/-- a step of a walk along a round line -/
theorem round_step {sz m d : Int} (h : OkSize sz) (hd : d = 1 ∨ d = -1) : (m % sz + d) % sz = (m + d) % sz := by
  rcases sz_cases h with rfl | rfl | rfl | rfl | rfl | rfl | rfl | rfl | rfl <;> rcases hd with rfl | rfl <;> omega
/-- which way a walk along a mirrored line goes -/
def dirAt (sz m d : Int) : Int := if m % (2 * sz) < sz then d else -d
/-- a step of a walk along a mirrored line: there and way behind it -/
theorem mir_step {sz m d : Int} (h : OkSize sz) (hd : d = 1 ∨ d = -1) :
    (0 ≤ mir sz m + dirAt sz m d ∧ mir sz m + dirAt sz m d < sz → mir sz m + dirAt sz m d = mir sz (m + d) ∧ dirAt sz m d = dirAt sz (m + d) d) ∧
    (¬ (0 ≤ mir sz m + dirAt sz m d ∧ mir sz m + dirAt sz m d < sz) → mir sz m + dirAt sz m d - dirAt sz m d = mir sz (m + d) ∧ -dirAt sz m d = dirAt sz (m + d) d) := by
  unfold mir dirAt
  rcases sz_cases h with rfl | rfl | rfl | rfl | rfl | rfl | rfl | rfl | rfl <;> rcases hd with rfl | rfl <;> (constructor <;> intro hh <;> (repeat' split at hh) <;> (repeat' split) <;> omega)
theorem dir_in {sz n d : Int} (h : OkSize sz) (h0 : 0 ≤ n) (h1 : n < sz) : dirAt sz n d = d := by
  unfold dirAt
  rcases sz_cases h with rfl | rfl | rfl | rfl | rfl | rfl | rfl | rfl | rfl <;> (split <;> omega)
/-- by a round line and back -/
theorem round_back {sz p s : Int} (h : OkSize sz) (h0 : 0 ≤ p) (h1 : p < sz) : ((p + s) % sz + -s) % sz = p := by
  rcases sz_cases h with rfl | rfl | rfl | rfl | rfl | rfl | rfl | rfl | rfl <;> omega
end G3
namespace G3
def lineAt (rs : List Rim) (ns ps ss : List Int) (i : Nat) : Option Int := nbr (rs.getD i .round) (ns.getD i 0) (ps.getD i 0 + ss.getD i 0)
def IsPlace (rs : List Rim) (ns ps ss ks : List Int) : Prop := ks.length = ns.length ∧ ∀ j, j < ns.length → lineAt rs ns ps ss j = some (ks.getD j 0)
def IsRim (rs : List Rim) (ns ps ss : List Int) (v : Int) : Prop := ∃ i, i < ns.length ∧ (∀ j, j < i → ∃ k, lineAt rs ns ps ss j = some k) ∧ lineAt rs ns ps ss i = none ∧ rs.getD i .round = .fixed v
theorem ext_getD {l m : List Int} (h : l.length = m.length) (k : ∀ j, j < l.length → l.getD j 0 = m.getD j 0) : l = m := by
  apply List.ext_getElem h
  intro j h1 h2
  have := k j h1
  simpa [h1, h2] using this
theorem IsPlace.uniq {rs : List Rim} {ns ps ss ks ls : List Int} (h : IsPlace rs ns ps ss ks) (h' : IsPlace rs ns ps ss ls) : ks = ls := by
  refine ext_getD (h.1.trans h'.1.symm) fun j hj => ?_
  have e1 := h.2 j (by rw [← h.1]; exact hj)
  have e2 := h'.2 j (by rw [← h.1]; exact hj)
  rw [e1] at e2
  exact Option.some.inj e2
theorem IsPlace.noRim {rs : List Rim} {ns ps ss ks : List Int} {v : Int} (h : IsPlace rs ns ps ss ks) (h' : IsRim rs ns ps ss v) : False := by
  obtain ⟨i, hi, _, e, _⟩ := h'
  rw [h.2 i hi] at e
  cases e
theorem IsRim.uniq {rs : List Rim} {ns ps ss : List Int} {v v' : Int} (h : IsRim rs ns ps ss v) (h' : IsRim rs ns ps ss v') : v = v' := by
  obtain ⟨i, hi, a, e, r⟩ := h
  obtain ⟨i', hi', a', e', r'⟩ := h'
  have : i = i' := by
    rcases Nat.lt_trichotomy i i' with z | z | z
    · obtain ⟨k, q⟩ := a' i z
      rw [e] at q; cases q
    · exact z
    · obtain ⟨k, q⟩ := a i' z
      rw [e'] at q; cases q
  subst this
  rw [r] at r'
  cases r'
  rfl
/-- the first i lines are numbers -/
def Upto (rs : List Rim) (ns ps ss : List Int) (i : Nat) (ks : List Int) : Prop := ks.length = i ∧ ∀ j, j < i → lineAt rs ns ps ss j = some (ks.getD j 0)
theorem Upto.nil (rs : List Rim) (ns ps ss : List Int) : Upto rs ns ps ss 0 [] := ⟨rfl, fun j h => absurd h (Nat.not_lt_zero j)⟩
theorem Upto.snoc {rs : List Rim} {ns ps ss ks : List Int} {i : Nat} {k : Int} (h : Upto rs ns ps ss i ks) (e : lineAt rs ns ps ss i = some k) : Upto rs ns ps ss (i + 1) (ks ++ [k]) := by
  refine ⟨by simp [h.1], fun j hj => ?_⟩
  by_cases hji : j < i
  · rw [h.2 j hji]
    have : j < ks.length := by rw [h.1]; exact hji
    simp [List.getElem?_append_left this]
  · have : j = i := by omega
    subst this
    rw [e]
    simp [← h.1]
theorem Upto.place {rs : List Rim} {ns ps ss ks : List Int} (h : Upto rs ns ps ss ns.length ks) : IsPlace rs ns ps ss ks := h
theorem Upto.rim {rs : List Rim} {ns ps ss ks : List Int} {i : Nat} {v : Int} (h : Upto rs ns ps ss i ks) (hi : i < ns.length) (e : lineAt rs ns ps ss i = none) (r : rs.getD i .round = .fixed v) : IsRim rs ns ps ss v :=
  ⟨i, hi, fun j hj => ⟨_, h.2 j hj⟩, e, r⟩
/-- a place of the grid -/
def InGrid (ns ps : List Int) : Prop := ps.length = ns.length ∧ ∀ j, j < ns.length → 0 ≤ ps.getD j 0 ∧ ps.getD j 0 < ns.getD j 0
theorem IsPlace.inGrid {rs : List Rim} {ns ps ss ks : List Int} (hn : ∀ n ∈ ns, OkSize n) (h : IsPlace rs ns ps ss ks) : InGrid ns ks := by
  refine ⟨h.1, fun j hj => ?_⟩
  have : OkSize (ns.getD j 0) := by
    have e : ns.getD j 0 = ns[j] := by simp [hj]
    rw [e]
    exact hn _ (List.getElem_mem hj)
  exact nbr_range this (h.2 j hj)
/-- by round lines alone and back -/
theorem back_place {rs : List Rim} {ns ps ss ks : List Int} (hn : ∀ n ∈ ns, OkSize n) (hl : ss.length = ns.length) (hp : InGrid ns ps) (hr : ∀ j, j < ns.length → rs.getD j .round = .round) (h : IsPlace rs ns ps ss ks) :
    IsPlace rs ns ks (ss.map fun s => -s) ps := by
  refine ⟨hp.1, fun j hj => ?_⟩
  have ok : OkSize (ns.getD j 0) := by
    have e : ns.getD j 0 = ns[j] := by simp [hj]
    rw [e]
    exact hn _ (List.getElem_mem hj)
  have e := h.2 j hj
  unfold lineAt at e ⊢
  rw [hr j hj, nbr_round] at e ⊢
  have e' := Option.some.inj e
  have es : (ss.map fun s => -s).getD j 0 = -(ss.getD j 0) := by
    have : j < ss.length := by omega
    simp [this]
  rw [es, ← e', round_back ok (hp.2 j hj).1 (hp.2 j hj).2]
/-! places -/
def wl (ps : List (List Int)) (n : Int) : List (List Int) := ps.flatMap fun p => (List.range n.toNat).map fun k => p ++ [((k : Nat) : Int)]
def places (ns : List Int) : List (List Int) := ns.foldl wl [[]]
theorem wl_mem {ps : List (List Int)} {p : List Int} {n k : Int} (hp : p ∈ ps) (h0 : 0 ≤ k) (h1 : k < n) : p ++ [k] ∈ wl ps n := by
  unfold wl
  rw [List.mem_flatMap]
  refine ⟨p, hp, List.mem_map.mpr ⟨k.toNat, ?_, ?_⟩⟩
  · rw [List.mem_range]; omega
  · rw [Int.toNat_of_nonneg h0]
theorem foldl_mem : ∀ (ns qs : List Int) (acc : List (List Int)) (p : List Int), p ∈ acc → qs.length = ns.length → (∀ j, j < ns.length → 0 ≤ qs.getD j 0 ∧ qs.getD j 0 < ns.getD j 0) → p ++ qs ∈ ns.foldl wl acc
  | [], [], acc, p, hp, _, _ => by simpa using hp
  | [], _ :: _, _, _, _, h, _ => by simp at h
  | _ :: _, [], _, _, _, h, _ => by simp at h
  | n :: ns, q :: qs, acc, p, hp, hl, h => by
    have h0 := h 0 (by simp)
    have ih := foldl_mem ns qs (wl acc n) (p ++ [q]) (wl_mem hp (by simpa using h0.1) (by simpa using h0.2)) (by simpa using hl) fun j hj => by
      have := h (j + 1) (by simpa using hj)
      simpa using this
    simpa using ih
theorem mem_places {ns ps : List Int} (h : InGrid ns ps) : ps ∈ places ns := by
  have := foldl_mem ns ps [[]] [] (by simp) h.1 h.2
  unfold places
  simpa using this
theorem wl_length (ps : List (List Int)) (n : Int) : (wl ps n).length = ps.length * n.toNat := by
  unfold wl
  induction ps with
  | nil => simp
  | cons p ps ih => rw [List.flatMap_cons, List.length_append, ih, List.length_cons, Nat.succ_mul]; simp; omega
theorem wl_append (ps : List (List Int)) (p : List Int) (n : Int) : wl (ps ++ [p]) n = wl ps n ++ (List.range n.toNat).map fun k => p ++ [((k : Nat) : Int)] := by
  unfold wl
  simp
theorem range_snoc (p : List Int) (k : Nat) : ((List.range (k + 1)).map fun k => p ++ [((k : Nat) : Int)]) = ((List.range k).map fun k => p ++ [((k : Nat) : Int)]) ++ [p ++ [((k : Nat) : Int)]] := by
  rw [List.range_succ]
  simp
/-! sizes -/
def prodL (ns : List Int) : Int := ns.foldl (fun a n => a * n) 1
theorem prodL_snoc (ns : List Int) (n : Int) : prodL (ns ++ [n]) = prodL ns * n := by unfold prodL; simp
structure GoodSizes (ns : List Int) : Prop where
  one : 1 ≤ ns.length
  few : ns.length ≤ 3
  ok : ∀ n ∈ ns, OkSize n
  many : prodL ns ≤ 40
/-- while sizes are drawn: what is left -/
structure Drawing (ns : List Int) (left : Int) : Prop where
  ok : ∀ n ∈ ns, OkSize n
  pos : 1 ≤ prodL ns
  lp : 1 ≤ left
  le : prodL ns * left ≤ 40
theorem Drawing.start : Drawing [] 40 := ⟨fun _ h => (by cases h), by decide, by decide, by decide⟩
theorem Drawing.step {ns : List Int} {left n : Int} (h : Drawing ns left) (h1 : 1 ≤ n) (h9 : n ≤ 9) (hl : n ≤ left) : Drawing (ns ++ [n]) (left / n) := by
  have hq : n * (left / n) ≤ left := Int.mul_ediv_self_le (by omega)
  have hp := h.pos
  refine ⟨fun m hm => ?_, ?_, ?_, ?_⟩
  · rcases List.mem_append.mp hm with z | z
    · exact h.ok m z
    · have : m = n := by simpa using z
      subst this
      exact ⟨h1, h9⟩
  · rw [prodL_snoc]
    have := Int.mul_le_mul hp h1 (by omega) (by omega)
    simpa using this
  · exact (Int.le_ediv_iff_mul_le (by omega)).mpr (by omega)
  · rw [prodL_snoc, Int.mul_assoc]
    exact Int.le_trans (Int.mul_le_mul_of_nonneg_left hq (by omega)) h.le
theorem Drawing.good {ns : List Int} {left : Int} (h : Drawing ns left) (h1 : 1 ≤ ns.length) (h3 : ns.length ≤ 3) : GoodSizes ns := by
  refine ⟨h1, h3, h.ok, ?_⟩
  have hp := h.pos
  have := Int.mul_le_mul_of_nonneg_left h.lp (show 0 ≤ prodL ns by omega)
  have := h.le
  omega
end G3
namespace K1
open PySem PyProof.Rows L2 G3
/-! ### 1. The text by places -/
def top (i : Nat) : Stmt := PySem.Challenge.pw_slanttiles_k01_what_makes_a_grid.main.body.getD i (.Pass ⟨0, 0, 0, 0⟩)
abbrev sTile : Stmt := inClass (top 2) 0
abbrev sWhole : Stmt := top 8
abbrev sWithin : Stmt := top 9
abbrev sIsRim : Stmt := top 12
abbrev sInit : Stmt := inClass (top 17) 0
abbrev sLines : Stmt := inClass (top 17) 1
abbrev sMany : Stmt := inClass (top 17) 2
abbrev sCheck : Stmt := top 18
abbrev sProd : Stmt := top 19
abbrev sCell : Stmt := top 21
abbrev sWell : Stmt := top 22
abbrev sDraw : Stmt := top 23
abbrev sSizes : Stmt := top 24
abbrev sRim : Stmt := top 25
abbrev sOddS : Stmt := top 26
abbrev sOddR : Stmt := top 27
abbrev sGood : Stmt := top 28
abbrev sDue : Stmt := top 29
abbrev sFound : Stmt := top 30
abbrev sLaw : Stmt := top 31
/-! ### 2. The data -/
theorem Paired.get {α β : Type} {F : α → β → Prop} : ∀ {l₁ : List α} {l₂ : List β}, Paired F l₁ l₂ → ∀ {i : Nat} {x : α}, l₁[i]? = some x → ∃ y, l₂[i]? = some y ∧ F x y
  | _, _, .nil, i, _, h => by simp at h
  | _, _, .cons h _, 0, _, e => by simp at e; subst e; exact ⟨_, rfl, h⟩
  | _, _, .cons _ t, i + 1, x, e => by
    obtain ⟨y, h1, h2⟩ := Paired.get t (i := i) (x := x) (by simpa using e)
    exact ⟨y, by simpa using h1, h2⟩
theorem Paired.snoc' {α β : Type} {F : α → β → Prop} : ∀ {l₁ : List α} {l₂ : List β} {x : α} {y : β}, Paired F l₁ l₂ → F x y → Paired F (l₁ ++ [x]) (l₂ ++ [y])
  | _, _, _, _, .nil, h => .cons h .nil
  | _, _, _, _, .cons a t, h => .cons a (Paired.snoc' t h)
def rimV : Rim → List V
  | .fixed v => [.str "fixed", .int v]
  | .mirror => [.str "mirror"]
  | .round => [.str "round"]
def OkRim : Rim → Prop
  | .fixed v => 0 ≤ v ∧ v ≤ 1000000000
  | _ => True
def RimAt (H : Hp) (v : V) (r : Rim) : Prop := ∃ a, v = .ref a ∧ H a = some (.tup (rimV r)) ∧ OkRim r
abbrev RimsAt (H : Hp) : List V → List Rim → Prop := Paired (RimAt H)
def WellAt (H : Hp) (a : Addr) : Prop := ∃ x y z : Int, H a = some (.lst [.int x, .int y, .int z])
/-- all stays but what stands at a -/
def Kp (a : Addr) (H H' : Hp) : Prop := ∀ b o, H b = some o → b ≠ a → H' b = some o
theorem Kp.trans {a : Addr} {H H1 H2 : Hp} (x : Kp a H H1) (y : Kp a H1 H2) : Kp a H H2 := fun b o h n => y b o (x b o h n) n
theorem Kp.same {a : Addr} {H H1 H2 : Hp} (x : Kp a H H1) (y : Same H1 H2) : Kp a H H2 := fun b o h n => y b o (x b o h n)
theorem Kp.of {a : Addr} {H H' : Hp} (x : Same H H') : Kp a H H' := fun b o h _ => x b o h
theorem Same.new {H : Hp} {p : Addr} {o : HO} (h : H p = none) : Same H (upd H p o) := fun b u e => by
  rw [upd_ne (ne_of_none e h)]
  exact e
theorem Kp.upd {H : Hp} {p : Addr} {o : HO} : Kp p H (upd H p o) := fun b u e n => by
  rw [upd_ne n]
  exact e
theorem Kp.tup {a b : Addr} {H H' : Hp} {xs : List V} (k : Kp a H H') (w : WellAt H a) (h : H b = some (.tup xs)) : H' b = some (.tup xs) := by
  obtain ⟨x, y, z, e⟩ := w
  exact k b _ h (ne_of h e (by intro q; cases q))
theorem RimsAt.mono {H H' : Hp} (k : ∀ b xs, H b = some (.tup xs) → H' b = some (.tup xs)) {xs : List V} {rs : List Rim} (h : RimsAt H xs rs) : RimsAt H' xs rs :=
  Paired.mapP h fun _ _ ⟨a, e, q, o⟩ => ⟨a, e, k _ _ q, o⟩
/-- a Grid's attributes, in the order in which they are stored -/
theorem ab : ¬ (("sizes" : Str) = "rims") := by decide +kernel
def flds (p q : Addr) : List (Str × V) := putF "rims" (.ref q) (putF "sizes" (.ref p) [])
theorem flds_sizes (p q : Addr) : (flds p q).lookup ("sizes" : Str) = some (.ref p) := by
  unfold flds
  rw [lookup_putF, if_neg ab, lookup_putF, if_pos rfl]
theorem flds_rims (p q : Addr) : (flds p q).lookup ("rims" : Str) = some (.ref q) := by
  unfold flds
  rw [lookup_putF, if_pos rfl]
theorem flds_no (p q : Addr) {m : Str} (h1 : ¬ m = "rims") (h2 : ¬ m = "sizes") : (flds p q).lookup m = none := by
  unfold flds
  rw [lookup_putF, if_neg h1, lookup_putF, if_neg h2]
  all_goals rfl
structure GridAt (C : Addr) (H : Hp) (g : Addr) (ns : List Int) (xs : List V) (rs : List Rim) : Prop where
  ob : ∃ dx p q, H g = some (.ins C dx (flds p q)) ∧ H p = some (.lst (ns.map V.int)) ∧ H q = some (.lst xs)
  rims : RimsAt H xs rs
  len : rs.length = ns.length
  good : GoodSizes ns
def PtsT (H : Hp) : List V → List (List Int) → Prop := Paired fun v l => ∃ a, v = .ref a ∧ H a = some (.tup (l.map V.int))
def optV : Option Int → V
  | some k => .int k
  | none => .non
/-! ### 3. The promises -/
def spWhole : Sp := fun vs H Q _ => ∃ n : Int, vs = [.int n] ∧ Q (.bl true) H
def spWithin : Sp := fun vs H Q _ => ∃ n lo hi : Int, vs = [.int n, .int lo, .int hi] ∧ Q (.bl (decide (lo ≤ n ∧ n ≤ hi))) H
def spIsRim : Sp := fun vs H Q _ => ∃ (a : Addr) (r : Rim), vs = [.ref a] ∧ H a = some (.tup (rimV r)) ∧ OkRim r ∧ ∀ H', Same H H' → Q (.bl true) H'
def spMir : Sp := fun vs H Q _ => ∃ sz n : Int, vs = [.int sz, .int n] ∧ OkSize sz ∧ Q (.int (mir sz n)) H
def spNbr : Sp := fun vs H Q _ => ∃ (a : Addr) (r : Rim) (sz n : Int), vs = [.ref a, .int sz, .int n] ∧ H a = some (.tup (rimV r)) ∧ OkSize sz ∧ Q (optV (nbr r sz n)) H
def spProd : Sp := fun vs H Q _ => ∃ (a : Addr) (ns : List Int), vs = [.ref a] ∧ H a = some (.lst (ns.map V.int)) ∧ (∀ n ∈ ns, OkSize n) ∧ Q (.int (prodL ns)) H
def spDraw : Sp := fun vs H Q _ => ∃ (a : Addr) (m : Int), vs = [.ref a, .int m] ∧ WellAt H a ∧ 0 < m ∧ m < 1073741824 ∧ ∀ (n : Int) (H' : Hp), 0 ≤ n → n < m → Kp a H H' → WellAt H' a → Q (.int n) H'
theorem pe_ty {X : Cx} {x : Str} {n : String} {pos : Pos} (hg : Gl X x) (hm : X.mg x = none) (hv : bootBuiltins x = some (.type n)) (hn : x ≠ "__name__" := by decide) (hd : (x == ("__debug__" : Str)) = false := by decide) : PE X (.Name x pos) (tC (.ty n)) := pe_bltn (v := .ty n) hg hm hv rfl hn hd
theorem pe_gint {X : Cx} {x : Str} {i : Int} {t : Tok} {pos : Pos} (hg : Gl X x) (hm : X.mg x = some (.int i t)) (hd : (x == ("__debug__" : Str)) = false := by decide) : PE X (.Name x pos) (tC (.int i)) := pe_glob (v := .int i) hg hm ⟨_, rfl⟩ hd
structure Txt (K : PySem.W.Frag) (mg : Str → Option Value) : Prop where
  isinstance : mg "isinstance" = none
  int : mg "int" = none
  bool : mg "bool" = none
  str : mg "str" = none
  tuple : mg "tuple" = none
  list : mg "list" = none
  len : mg "len" = none
  range : mg "range" = none
  enumerate : mg "enumerate" = none
  min : mg "min" = none
  zip : mg "zip" = none
  all : mg "all" = none
  gf : ∃ t, mg "GREATEST_FIXED" = some (.int 1000000000 t)
  ml : ∃ t, mg "MOST_LINES" = some (.int 3 t)
  gs : ∃ t, mg "GREATEST_SIZE" = some (.int 9 t)
  mp : ∃ t, mg "MOST_PLACES" = some (.int 40 t)
section
variable {P : Program} {w : World} {K : PySem.W.Frag} {mg : Str → Option Value} {base : Heap}
theorem scWhole : FnScope ["thing"] ["thing"] (defScope sWhole) := ⟨rfl, rfl, rfl, by decide +kernel, rfl, by decide +kernel, by decide +kernel⟩
theorem ok_whole {f : Addr} {fd : FuncData} (F : Fun K "is_whole" "is_whole" sWhole f fd) (T : Txt K mg) : FnOk P w K mg base CX0 1 f fd ["thing"] spWhole := by
  refine F.ok scWhole (fun vs H Q E h => ?_) (fun cdv A outer s H vs Q E hr h => ?_)
  · obtain ⟨n, rfl, _⟩ := h
    rfl
  · obtain ⟨n, rfl, k⟩ := h
    refine ⟨_, pss_one (ps_ret (pe_and (pe_callB call_isinst rfl T.isinstance boot_isinstance (pa_cons (pv 0) (pa_cons (pe_ty rfl T.int boot_int) pa_nil)))
      (pe_one (pe_not (pe_callB call_isinst rfl T.isinstance boot_isinstance (pa_cons (pv 0) (pa_cons (pe_ty rfl T.bool boot_bool) pa_nil))))))), ?_⟩
    refine ⟨_, rfl, _, _, _, true, rfl, .int n, rfl, _, rfl, iteT ?_⟩
    exact ⟨_, rfl, _, _, _, false, rfl, .int n, rfl, _, rfl, k⟩
theorem scWithin : FnScope ["thing", "least", "most"] ["thing", "least", "most"] (defScope sWithin) := ⟨rfl, rfl, rfl, by decide +kernel, rfl, by decide +kernel, by decide +kernel⟩
theorem ok_within {f f1 : Addr} {fd fd1 : FuncData} (F : Fun K "is_within" "is_within" sWithin f fd) (F1 : Fun K "is_whole" "is_whole" sWhole f1 fd1) (m1 : mg "is_whole" = some (.ref f1)) (b1 : Binds K fd1 ["thing"] []) (T : Txt K mg) :
    FnOk P w K mg base CX0 2 f fd ["thing", "least", "most"] spWithin := by
  have G1 : FnOk P w K mg base CX0 1 f1 fd1 ["thing"] spWhole := ok_whole F1 T
  refine F.ok scWithin (fun vs H Q E h => ?_) (fun cdv A outer s H vs Q E hr h => ?_)
  · obtain ⟨n, lo, hi, rfl, _⟩ := h
    rfl
  · obtain ⟨n, lo, hi, rfl, k⟩ := h
    refine ⟨_, pss_one (ps_ret (pe_and (pe_call G1 hr rfl m1 F1.kp b1 .nil pass0 (pa_cons (pv 0) pa_nil)) (pe_one (pe_chain op_le op_le (pv 1) (pv 0) (pv 2))))), ?_⟩
    refine ⟨_, rfl, n, rfl, _, rfl, iteT ?_⟩
    refine ⟨_, rfl, _, rfl, _, _, rfl, rfl, _, rfl, ?_⟩
    by_cases h1 : lo ≤ n
    · rw [decide_eq_true h1]
      refine iteT ⟨_, rfl, _, _, rfl, rfl, ?_⟩
      have e : decide (n ≤ hi) = decide (lo ≤ n ∧ n ≤ hi) := by simp [h1]
      show Q (.bl (decide (n ≤ hi))) H
      rw [e]
      exact k
    · rw [decide_eq_false h1]
      refine iteF ?_
      have e : false = decide (lo ≤ n ∧ n ≤ hi) := by simp [h1]
      show Q (.bl false) H
      rw [e]
      exact k
end
end K1
namespace K1
open PySem PyProof.Rows L2 G3
section
variable {P : Program} {w : World} {K : PySem.W.Frag} {mg : Str → Option Value} {base : Heap}
theorem scProd : FnScope ["sizes", "many", "size"] ["sizes"] (defScope sProd) := ⟨rfl, rfl, rfl, by decide +kernel, rfl, by decide +kernel, by decide +kernel⟩
theorem get_map {ns : List Int} {i : Nat} {x : V} (h : (ns.map V.int)[i]? = some x) : ∃ n, x = V.int n ∧ ns[i]? = some n := by
  rw [List.getElem?_map] at h
  cases e : ns[i]? with
  | none => rw [e] at h; cases h
  | some n => rw [e] at h; exact ⟨n, (Option.some.inj h).symm, rfl⟩
theorem take_snoc {ns : List Int} {i : Nat} {n : Int} (h : ns[i]? = some n) : ns.take (i + 1) = ns.take i ++ [n] := by
  rw [List.take_succ, h]
  rfl
theorem ok_prod {f : Addr} {fd : FuncData} (F : Fun K "product" "product" sProd f fd) : FnOk P w K mg base CX0 1 f fd ["sizes"] spProd := by
  refine F.ok scProd (fun vs H Q E h => ?_) (fun cdv A outer s H vs Q E hr h => ?_)
  · obtain ⟨a, ns, rfl, _⟩ := h
    rfl
  · obtain ⟨a, ns, rfl, ha, ok, k⟩ := h
    refine ⟨_, pss_cons (ps_set (i := 1) scProd.nd rfl (Or.inl rfl) pe_int)
      (pss_cons (ps_for PassesOwn.never rfl (pi_list (pv 0)) (pg_name (i := 2) scProd.nd rfl (Or.inl rfl))
        (pss_one (ps_set (i := 1) scProd.nd rfl (Or.inl rfl) (pe_op op_mul (pv 1) (pv 2)))))
      (pss_one (ps_ret (pv 1)))), ?_⟩
    refine ⟨_, rfl, a, rfl, ⟨_, SqL.of ha⟩, for_list (K := K) (a := a) (xs := ns.map V.int) (fun i σ H2 => ∃ v : Option V, σ = [some (.ref a), some (.int (prodL (ns.take i))), v] ∧ H2 = H)
      ⟨none, rfl, rfl⟩ (fun i σ H2 _ ⟨_, _, e⟩ => by rw [e]; exact SqL.of ha) ?_ ?_⟩
    · rintro i y σ H2 hi ⟨v, rfl, rfl⟩
      obtain ⟨n, rfl, hn⟩ := get_map hi
      have okn := ok n (List.mem_of_getElem? hn)
      refine ⟨_, rfl, _, rfl, _, _, rfl, rfl, .inr ⟨?_, ?_⟩, ?_⟩
      · have := okn.1; omega
      · have := okn.2; omega
      · refine ⟨some (.int n), ?_, rfl⟩
        rw [take_snoc hn, prodL_snoc]
        rfl
    · rintro σ H2 ⟨v, rfl, rfl⟩
      rw [List.length_map, List.take_length]
      exact ⟨_, rfl, k⟩
end
end K1
namespace K1
open PySem PyProof.Rows L2 G3
def spCell (K : PySem.W.Frag) : Sp := fun vs H Q _ => ∃ (a : Addr) (k : Int) (ns : List Int), vs = [.ref a, .int k] ∧ SqL K H a (ns.map V.int) ∧ 0 ≤ k ∧ ∀ n : Int, Q (.int n) H
def spWell (K : PySem.W.Frag) : Sp := fun vs H Q _ => ∃ (a : Addr) (k : Int) (ns : List Int), vs = [.ref a, .int k] ∧ SqL K H a (ns.map V.int) ∧ 0 ≤ k ∧ ∀ (p : Addr) (H' : Hp), Same H H' → H p = none → WellAt H' p → Q (.ref p) H'
def spSizes : Sp := fun vs H Q _ => ∃ a : Addr, vs = [.ref a] ∧ WellAt H a ∧ ∀ (p : Addr) (ns : List Int) (H' : Hp), Kp a H H' → WellAt H' a → H p = none → H' p = some (.lst (ns.map V.int)) → GoodSizes ns → Q (.ref p) H'
def spRim : Sp := fun vs H Q _ => ∃ a : Addr, vs = [.ref a] ∧ WellAt H a ∧ ∀ (p : Addr) (r : Rim) (H' : Hp), Kp a H H' → WellAt H' a → H' p = some (.tup (rimV r)) → OkRim r → Q (.ref p) H'
section
variable {P : Program} {w : World} {K : PySem.W.Frag} {mg : Str → Option Value} {base : Heap}
theorem scDraw : FnScope ["_law_well_here", "_law_most", "_law_number"] ["_law_well_here", "_law_most"] (defScope sDraw) := ⟨rfl, rfl, rfl, by decide +kernel, rfl, by decide +kernel, by decide +kernel⟩
theorem modb (x : Int) : -(2 ^ 64) < x % 2147483647 ∧ x % 2147483647 < 2 ^ 64 := by
  have h1 := Int.emod_nonneg x (show (2147483647 : Int) ≠ 0 by decide)
  have h2 := Int.emod_lt_of_pos x (show (0 : Int) < 2147483647 by decide)
  omega
theorem modc (x : Int) : -(2 ^ 64) < x % 2147483399 ∧ x % 2147483399 < 2 ^ 64 := by
  have h1 := Int.emod_nonneg x (show (2147483399 : Int) ≠ 0 by decide)
  have h2 := Int.emod_lt_of_pos x (show (0 : Int) < 2147483399 by decide)
  omega
theorem ok_draw {f : Addr} {fd : FuncData} (F : Fun K "_law_draw" "_law_draw" sDraw f fd) : FnOk P w K mg base CX0 1 f fd ["_law_well_here", "_law_most"] spDraw := by
  refine F.ok scDraw (fun vs H Q E h => ?_) (fun cdv A outer s H vs Q E hr h => ?_)
  · obtain ⟨a, m, rfl, _⟩ := h
    rfl
  · obtain ⟨a, m, rfl, ⟨x, y, z, ha⟩, hm, hm2, k⟩ := h
    refine ⟨_, pss_cons (ps_if (pt_cmpR op_gt (pe_ix ix_list (pv 0) pe_int (fun _ _ => rfl)) pe_int (nomark _))
        (pss_cons (ps_set (i := 2) scDraw.nd rfl (Or.inl rfl) (pe_op op_mod (pe_ix ix_list (pv 0) pe_int (fun _ _ => rfl)) (pv 1)))
        (pss_cons (ps_asg (pe_op op_fdiv (pe_ix ix_list (pv 0) pe_int (fun _ _ => rfl)) (pv 1)) (pg_sub (pv 0) pe_int set_list))
        (pss_one (ps_ret (pv 2))))) pss_nil)
      (pss_cons (ps_asg (pe_op op_add (pe_ix ix_list (pv 0) pe_int (fun _ _ => rfl)) pe_int) (pg_sub (pv 0) pe_int set_list))
      (pss_cons (ps_set (i := 2) scDraw.nd rfl (Or.inl rfl) (pe_op op_mod (pe_op op_mul (pe_op op_add (pe_op op_add (pe_ix ix_list (pv 0) pe_int (fun _ _ => rfl)) (pe_op op_mul pe_int (pe_ix ix_list (pv 0) pe_int (fun _ _ => rfl)))) pe_int) pe_int) pe_int))
      (pss_cons (ps_set (i := 2) scDraw.nd rfl (Or.inl rfl) (pe_op op_mod (pe_op op_mul (pv 2) (pe_op op_add (pe_op op_fdiv (pv 2) pe_int) pe_int)) pe_int))
      (pss_cons (ps_set (i := 2) scDraw.nd rfl (Or.inl rfl) (pe_op op_mod (pe_op op_mul (pv 2) (pe_op op_add (pe_op op_fdiv (pv 2) pe_int) pe_int)) pe_int))
      (pss_one (ps_ret (pe_op op_mod (pe_op op_add (pe_op op_mul (pv 2) pe_int) (pe_op op_fdiv (pv 2) pe_int)) (pv 1)))))))), ?_⟩
    refine ⟨_, rfl, a, _, _, _, rfl, rfl, SqL.of ha, rfl, _, _, rfl, rfl, _, rfl, ?_⟩
    refine ite2 (fun _ => ?_) (fun _ => ?_)
    · refine ⟨_, rfl, a, _, _, _, rfl, rfl, SqL.of ha, rfl, _, rfl, _, _, rfl, rfl, hm, ?_⟩
      refine ⟨_, rfl, a, _, _, _, rfl, rfl, SqL.of ha, rfl, _, rfl, _, _, rfl, rfl, ⟨hm, hm2⟩, ?_⟩
      refine ⟨_, rfl, a, _, _, 1, rfl, rfl, ha, rfl, ?_⟩
      exact ⟨_, rfl, k _ _ (Int.emod_nonneg _ (by omega)) (Int.emod_lt_of_pos _ hm) Kp.upd ⟨_, _, _, upd_same⟩⟩
    · refine ⟨_, rfl, a, _, _, _, rfl, rfl, SqL.of ha, rfl, _, _, rfl, rfl, ?_⟩
      refine ⟨_, rfl, a, _, _, 2, rfl, rfl, ha, rfl, ?_⟩
      have hb : (upd H a (.lst ([V.int x, V.int y, V.int z].set 2 (.int (z + 1))))) a = some (.lst [.int x, .int y, .int (z + 1)]) := upd_same
      refine ⟨_, rfl, a, _, _, _, rfl, rfl, SqL.of hb, rfl, _, rfl, a, _, _, _, rfl, rfl, SqL.of hb, rfl, _, _, rfl, rfl, .inl ⟨by decide, by decide⟩, _, _, rfl, rfl, _, _, rfl, rfl, _, _, rfl, rfl, .inr ⟨by decide, by decide⟩, _, _, rfl, rfl, (by show (0 : Int) < 2147483647; decide), ?_⟩
      refine ⟨_, rfl, _, rfl, _, _, rfl, rfl, ⟨by decide, by decide⟩, _, _, rfl, rfl, _, _, rfl, rfl, .inl (modb _), _, _, rfl, rfl, (by show (0 : Int) < 2147483647; decide), ?_⟩
      refine ⟨_, rfl, _, rfl, _, _, rfl, rfl, ⟨by decide, by decide⟩, _, _, rfl, rfl, _, _, rfl, rfl, .inl (modb _), _, _, rfl, rfl, (by show (0 : Int) < 2147483399; decide), ?_⟩
      refine ⟨_, rfl, _, _, rfl, rfl, .inl (modc _), _, rfl, _, _, rfl, rfl, ⟨by decide, by decide⟩, _, _, rfl, rfl, _, rfl, _, _, rfl, rfl, hm, ?_⟩
      exact k _ _ (Int.emod_nonneg _ (by omega)) (Int.emod_lt_of_pos _ hm) Kp.upd ⟨_, _, _, upd_same⟩
theorem scCell : FnScope ["_law_script", "_law_k"] ["_law_script", "_law_k"] (defScope sCell) := ⟨rfl, rfl, rfl, by decide +kernel, rfl, by decide +kernel, by decide +kernel⟩
theorem ok_cell {f : Addr} {fd : FuncData} (F : Fun K "_law_cell_at" "_law_cell_at" sCell f fd) (T : Txt K mg) : FnOk P w K mg base CX0 1 f fd ["_law_script", "_law_k"] (spCell K) := by
  refine F.ok scCell (fun vs H Q E h => ?_) (fun cdv A outer s H vs Q E hr h => ?_)
  · obtain ⟨a, k, ns, rfl, _⟩ := h
    rfl
  · obtain ⟨a, k, ns, rfl, hS, hk, q⟩ := h
    refine ⟨_, pss_cons (ps_if (pt_cmpR op_lt (pv 1) (pe_callB call_len_seq (by rfl) T.len PySem.boot_len (pa_cons (pv 0) pa_nil)) (nomark _)) (pss_one (ps_ret (pe_ix ix_list (pv 0) (pv 1) (fun _ _ => rfl)))) pss_nil) (pss_one (ps_ret pe_int)), ?_⟩
    refine ⟨_, rfl, _, rfl, a, _, rfl, .inl hS, _, _, rfl, rfl, _, rfl, ?_⟩
    refine ite2 (fun h1 => ?_) (fun _ => q 0)
    have h2 : k < ((ns.map V.int).length : Int) := of_decide_eq_true h1
    rw [List.length_map] at h2
    obtain ⟨j, rfl⟩ : ∃ j : Nat, k = (j : Int) := ⟨k.toNat, by omega⟩
    have hj : j < ns.length := by omega
    have e : (ns.map V.int)[j]? = some (V.int ns[j]) := by simp [hj]
    exact ⟨_, rfl, _, rfl, a, _, _, _, rfl, rfl, hS, atI_nat e, q _⟩
theorem scWell : FnScope ["_law_script", "_law_k", "_law_cell"] ["_law_script", "_law_k"] (defScope sWell) := ⟨rfl, rfl, rfl, by decide +kernel, rfl, by decide +kernel, by decide +kernel⟩
theorem ok_well {f f1 : Addr} {fd fd1 : FuncData} (F : Fun K "_law_well" "_law_well" sWell f fd) (F1 : Fun K "_law_cell_at" "_law_cell_at" sCell f1 fd1) (m1 : mg "_law_cell_at" = some (.ref f1)) (b1 : Binds K fd1 ["_law_script", "_law_k"] []) (T : Txt K mg) :
    FnOk P w K mg base CX0 2 f fd ["_law_script", "_law_k"] (spWell K) := by
  have G1 : FnOk P w K mg base CX0 1 f1 fd1 ["_law_script", "_law_k"] (spCell K) := ok_cell F1 T
  refine F.ok scWell (fun vs H Q E h => ?_) (fun cdv A outer s H vs Q E hr h => ?_)
  · obtain ⟨a, k, ns, rfl, _⟩ := h
    rfl
  · obtain ⟨a, k, ns, rfl, hS, hk, q⟩ := h
    refine ⟨_, pss_cons (ps_set (i := 2) scWell.nd rfl (Or.inl rfl) (pe_call G1 hr rfl m1 F1.kp b1 .nil pass0 (pa_cons (pv 0) (pa_cons (pv 1) pa_nil))))
      (pss_one (ps_ret (pe_lst (pa_cons (pe_op op_add (pe_op op_mod (pv 2) pe_int) (pv 1))
        (pa_cons (pe_ix ix_list (pe_lst (pa_cons pe_int (pa_cons (pv 2) pa_nil))) (pe_callTy call_int1 rfl T.int boot_int (pa_cons (pe_cmpR op_ge (pv 2) (pe_op op_pow pe_int pe_int) (nomark _)) pa_nil)) (fun _ _ => rfl))
        (pa_cons pe_int pa_nil)))))), ?_⟩
    refine ⟨_, rfl, _, rfl, a, k, ns, rfl, hS, hk, fun c => ?_⟩
    refine ⟨_, rfl, _, _, rfl, rfl, (by show (0 : Int) < 2147483647; decide), _, rfl, _, _, rfl, rfl, ?_⟩
    refine ⟨_, rfl, (by show 2 ≤ sizeLine; decide), fun l hl => ?_⟩
    refine ⟨_, rfl, _, _, rfl, rfl, ⟨by decide, by decide, by decide⟩, _, _, rfl, rfl, .inr ⟨_, rfl, ?_⟩⟩
    have fin : ∀ (c' : Int), ∀ p, upd H l (.lst [.int 0, .int c]) p = none → Q (.ref p) (upd (upd H l (.lst [.int 0, .int c])) p (.lst [.int (c % 2147483647 + k), .int c', .int 0])) := fun c' p hp => by
      have s1 : Same H (upd H l (.lst [.int 0, .int c])) := Same.new hl
      exact q p _ (s1.trans (Same.new hp)) (s1.free hp) ⟨_, _, _, upd_same⟩
    obtain ⟨c', he⟩ : ∃ c' : Int, atI [V.int 0, V.int c] (if decide ((10 : Int) ^ (18 : Int).toNat ≤ c) = true then 1 else 0) = some (.int c') := by
      split
      · exact ⟨c, rfl⟩
      · exact ⟨0, rfl⟩
    exact ⟨l, _, _, _, rfl, rfl, SqL.of upd_same, he, (by show 3 ≤ sizeLine; decide), fin c'⟩
end
end K1
namespace K1
open PySem PyProof.Rows L2 G3
section
variable {P : Program} {w : World} {K : PySem.W.Frag} {mg : Str → Option Value} {base : Heap}
theorem scSizes : FnScope ["_law_well_here", "_law_sizes_here", "_law_left", "_law_k", "_law_size"] ["_law_well_here"] (defScope sSizes) := ⟨rfl, rfl, rfl, by decide +kernel, rfl, by decide +kernel, by decide +kernel⟩
theorem ok_sizes {f f1 : Addr} {fd fd1 : FuncData} (F : Fun K "_law_sizes" "_law_sizes" sSizes f fd) (F1 : Fun K "_law_draw" "_law_draw" sDraw f1 fd1) (m1 : mg "_law_draw" = some (.ref f1)) (b1 : Binds K fd1 ["_law_well_here", "_law_most"] []) (T : Txt K mg) :
    FnOk P w K mg base CX0 2 f fd ["_law_well_here"] spSizes := by
  have G1 : FnOk P w K mg base CX0 1 f1 fd1 ["_law_well_here", "_law_most"] spDraw := ok_draw F1
  refine F.ok scSizes (fun vs H Q E h => ?_) (fun cdv A outer s H vs Q E hr h => ?_)
  · obtain ⟨a, rfl, _⟩ := h
    rfl
  · obtain ⟨a, rfl, ha, q⟩ := h
    refine ⟨_, pss_cons (ps_set (i := 1) scSizes.nd rfl (Or.inl rfl) (pe_lst pa_nil))
      (pss_cons (ps_set (i := 2) scSizes.nd rfl (Or.inl rfl) pe_int)
      (pss_cons (ps_for PassesOwn.never rfl (pi_range1 rfl T.range (pa_cons (pe_op op_add pe_int (pe_call G1 hr rfl m1 F1.kp b1 .nil pass0 (pa_cons (pv 0) (pa_cons pe_int pa_nil)))) pa_nil)) (pg_name (i := 3) scSizes.nd rfl (Or.inl rfl))
        (pss_cons (ps_set (i := 4) scSizes.nd rfl (Or.inl rfl) (pe_op op_add pe_int (pe_call G1 hr rfl m1 F1.kp b1 .nil pass0 (pa_cons (pv 0) (pa_cons (pe_callB (call_min2 rfl) rfl T.min boot_min (pa_cons pe_int (pa_cons (pv 2) pa_nil))) pa_nil)))))
        (pss_cons (ps_expr (pe_bm PySem.F.plainAttrs_list PySem.F.slot_list_append PySem.F.type_list_append mt_append (pv 1) (pa_cons (pv 4) pa_nil)))
        (pss_one (ps_set (i := 2) scSizes.nd rfl (Or.inl rfl) (pe_op op_fdiv (pv 2) (pv 4)))))))
      (pss_one (ps_ret (pv 1))))), ?_⟩
    refine ⟨Nat.zero_le _, fun p hp => ?_⟩
    have hpa : p ≠ a := by obtain ⟨x, y, z, e⟩ := ha; exact Ne.symm (ne_of_none e hp)
    have w0 : WellAt (upd H p (.lst [])) a := by obtain ⟨x, y, z, e⟩ := ha; exact ⟨x, y, z, by rw [upd_ne (Ne.symm hpa)]; exact e⟩
    refine ⟨_, rfl, a, 3, rfl, w0, (by decide), (by decide), fun n H1 n0 n3 kp1 w1 => ?_⟩
    refine ⟨_, _, rfl, rfl, 1 + n, rfl, by omega, by omega, ?_⟩
    have e0 : (1 + n).toNat = n.toNat + 1 := by omega
    have k0 : Kp a H H1 := Kp.trans (Kp.of (Same.new hp)) kp1
    refine for_range (lo := 0) (n := (1 + n).toNat) (fun i σ H2 => ∃ (ns : List Int) (left : Int) (v3 v4 : Option V), σ = [some (.ref a), some (.ref p), some (.int left), v3, v4] ∧ Kp a H H2 ∧ WellAt H2 a ∧ H2 p = some (.lst (ns.map V.int)) ∧ ns.length = i ∧ Drawing ns left)
      ⟨[], 40, none, none, rfl, k0, w1, kp1 p _ upd_same hpa, rfl, Drawing.start⟩ ?_ ?_
    · rintro i σ H2 hi ⟨ns, left, v3, v4, rfl, kp2, w2, hp2, hl, D⟩
      have hlp := D.lp
      have hmin : 1 ≤ (if left < 9 then left else 9) ∧ (if left < 9 then left else 9) ≤ 9 ∧ (if left < 9 then left else 9) ≤ left := by split <;> omega
      refine ⟨_, rfl, _, rfl, _, _, rfl, a, _, rfl, w2, (by show 0 < (if left < 9 then left else 9); omega), (by show (if left < 9 then left else 9) < 1073741824; omega), fun m H3 m0 m9 kp3 w3 => ?_⟩
      refine ⟨_, _, rfl, rfl, ?_⟩
      have hp3 := kp3 p _ hp2 hpa
      have hlen : (ns.map V.int).length < sizeLine := small1000 (by rw [List.length_map]; omega)
      refine ⟨_, rfl, .inl ⟨rfl, _, SqL.of hp3⟩, _, rfl, p, _, _, rfl, rfl, hp3, hlen, ?_⟩
      refine ⟨_, rfl, _, rfl, _, _, rfl, rfl, ⟨(by show 0 < 1 + m; omega), (by show 1 + m < 1073741824; omega)⟩, ?_⟩
      have D' := D.step (n := 1 + m) (by omega) (by omega) (by omega)
      refine ⟨ns ++ [1 + m], left / (1 + m), _, _, rfl, fun b o e n => ?_, ?_, ?_, ?_, D'⟩
      · by_cases hb : b = p
        · subst hb
          rw [hp] at e
          cases e
        · rw [upd_ne hb]
          exact kp3 b o (kp2 b o e n) n
      · obtain ⟨x, y, z, e⟩ := w3
        exact ⟨x, y, z, by rw [upd_ne (Ne.symm hpa)]; exact e⟩
      · rw [upd_same, List.map_append]
        rfl
      · rw [List.length_append, hl]
        rfl
    · rintro σ H2 ⟨ns, left, v3, v4, rfl, kp2, w2, hp2, hl, D⟩
      exact ⟨_, rfl, q p ns H2 kp2 w2 hp hp2 (D.good (by omega) (by omega))⟩
theorem scRim : FnScope ["_law_well_here", "_law_way"] ["_law_well_here"] (defScope sRim) := ⟨rfl, rfl, rfl, by decide +kernel, rfl, by decide +kernel, by decide +kernel⟩
theorem WellAt.new {H : Hp} {a p : Addr} {o : HO} (h : WellAt H a) (hp : H p = none) : WellAt (upd H p o) a := by
  obtain ⟨x, y, z, e⟩ := h
  exact ⟨x, y, z, by rw [upd_ne (ne_of_none e hp)]; exact e⟩
theorem ok_rim {f f1 : Addr} {fd fd1 : FuncData} (F : Fun K "_law_rim" "_law_rim" sRim f fd) (F1 : Fun K "_law_draw" "_law_draw" sDraw f1 fd1) (m1 : mg "_law_draw" = some (.ref f1)) (b1 : Binds K fd1 ["_law_well_here", "_law_most"] []) :
    FnOk P w K mg base CX0 2 f fd ["_law_well_here"] spRim := by
  have G1 : FnOk P w K mg base CX0 1 f1 fd1 ["_law_well_here", "_law_most"] spDraw := ok_draw F1
  refine F.ok scRim (fun vs H Q E h => ?_) (fun cdv A outer s H vs Q E hr h => ?_)
  · obtain ⟨a, rfl, _⟩ := h
    rfl
  · obtain ⟨a, rfl, ha, q⟩ := h
    refine ⟨_, pss_cons (ps_set (i := 1) scRim.nd rfl (Or.inl rfl) (pe_call G1 hr rfl m1 F1.kp b1 .nil pass0 (pa_cons (pv 0) (pa_cons pe_int pa_nil))))
      (pss_cons (ps_if (pt_cmpR op_eq (pv 1) pe_int (nomark _))
        (pss_one (ps_ret (pe_tup (pa_cons pe_str (pa_cons (pe_call G1 hr rfl m1 F1.kp b1 .nil pass0 (pa_cons (pv 0) (pa_cons (pe_ix ix_list (pe_lst (pa_cons pe_int (pa_cons (pe_op op_add (pe_op op_pow pe_int pe_int) pe_int) pa_nil)))
          (pe_call G1 hr rfl m1 F1.kp b1 .nil pass0 (pa_cons (pv 0) (pa_cons pe_int pa_nil))) (fun _ _ => rfl)) pa_nil))) pa_nil))))) pss_nil)
      (pss_one (ps_ret (pe_ix ix_list (pe_lst (pa_cons (pe_tup (pa_cons pe_str pa_nil)) (pa_cons (pe_tup (pa_cons pe_str pa_nil)) pa_nil))) (pe_op op_sub (pv 1) pe_int) (fun _ _ => rfl))))), ?_⟩
    refine ⟨_, rfl, a, 3, rfl, ha, (by decide), (by decide), fun n H1 n0 n3 kp1 w1 => ?_⟩
    refine ⟨_, rfl, rfl, _, rfl, ?_⟩
    by_cases hn : n = 0
    · subst hn
      refine iteT ?_
      refine ⟨_, rfl, _, _, rfl, rfl, ⟨by decide, by decide, by decide⟩, _, _, rfl, rfl, (by show 2 ≤ sizeLine; decide), fun l hl => ?_⟩
      refine ⟨_, rfl, a, 2, rfl, w1.new hl, (by decide), (by decide), fun m H2 m0 m2 kp2 w2 => ?_⟩
      have hla : l ≠ a := by obtain ⟨x, y, z, e⟩ := w1; exact Ne.symm (ne_of_none e hl)
      have hl2 := kp2 l _ upd_same hla
      have kp3 : Kp a H H2 := Kp.trans kp1 (Kp.trans (Kp.of (Same.new hl)) kp2)
      have fin : ∀ (c : Int) (v : Int) (H3 : Hp), c ≤ 1000000001 → 0 ≤ v → v < c → Kp a H2 H3 → WellAt H3 a → ∀ p, H3 p = none → Q (.ref p) (upd H3 p (.tup [.str "fixed", .int v])) := fun c v H3 hc v0 vc kp4 w3 p hp => by
        exact q p (.fixed v) _ (Kp.same (Kp.trans kp3 kp4) (Same.new hp)) (w3.new hp) upd_same ⟨v0, by omega⟩
      have h01 : m = 0 ∨ m = 1 := by omega
      rcases h01 with rfl | rfl
      · refine ⟨l, _, _, _, rfl, rfl, SqL.of hl2, rfl, a, _, rfl, w2, (by decide), (by decide), fun v H3 v0 vc kp4 w3 => ⟨(by show 2 ≤ sizeLine; decide), ?_⟩⟩
        exact fin 3 v H3 (by decide) v0 vc kp4 w3
      · refine ⟨l, _, _, _, rfl, rfl, SqL.of hl2, rfl, a, _, rfl, w2, (by decide), (by decide), fun v H3 v0 vc kp4 w3 => ⟨(by show 2 ≤ sizeLine; decide), ?_⟩⟩
        exact fin 1000000001 v H3 (by decide) v0 vc kp4 w3
    · have hne : ¬ (V.int n = V.int 0) := fun z => hn (by cases z; rfl)
      rw [decide_eq_false hne]
      refine iteF ?_
      refine ⟨(by show 1 ≤ sizeLine; decide), fun p1 hp1 => ⟨(by show 1 ≤ sizeLine; decide), fun p2 hp2 => ⟨(by show 2 ≤ sizeLine; decide), fun l hl => ?_⟩⟩⟩
      have s1 : Same H1 (upd H1 p1 (.tup [.str "mirror"])) := Same.new hp1
      have s2 : Same (upd H1 p1 (.tup [.str "mirror"])) (upd (upd H1 p1 (.tup [.str "mirror"])) p2 (.tup [.str "round"])) := Same.new hp2
      have s3 : Same (upd (upd H1 p1 (.tup [.str "mirror"])) p2 (.tup [.str "round"])) (upd (upd (upd H1 p1 (.tup [.str "mirror"])) p2 (.tup [.str "round"])) l (.lst [.ref p1, .ref p2])) := Same.new hl
      have kp2 := Kp.same kp1 (s1.trans (s2.trans s3))
      have w2 := ((w1.new (o := .tup [.str "mirror"]) hp1).new (o := .tup [.str "round"]) hp2).new (o := .lst [.ref p1, .ref p2]) hl
      have h12 : n = 1 ∨ n = 2 := by omega
      rcases h12 with rfl | rfl
      · refine ⟨_, rfl, _, _, rfl, rfl, l, _, _, _, rfl, rfl, SqL.of upd_same, rfl, ?_⟩
        exact q p1 .mirror _ kp2 w2 (s3 _ _ (s2 _ _ upd_same)) trivial
      · refine ⟨_, rfl, _, _, rfl, rfl, l, _, _, _, rfl, rfl, SqL.of upd_same, rfl, ?_⟩
        exact q p2 .round _ kp2 w2 (s3 _ _ upd_same) trivial
end
end K1
namespace K1
open PySem PyProof.Rows L2 G3
structure Cl (K : PySem.W.Frag) (C : Addr) : Prop where
  cl : Cls K C
  nS : NoAttr K C "sizes"
  nR : NoAttr K C "rims"
/-- a thing whose kind is known -/
def Kn (H : Hp) : V → Prop
  | .non => True
  | .bl _ => True
  | .int _ => True
  | .str _ => True
  | .ref a => (∃ xs, H a = some (.lst xs)) ∨ ∃ xs, H a = some (.tup xs)
  | _ => False
theorem Kn.mono {H H' : Hp} (s : ∀ a o, H a = some o → (∃ xs, o = .lst xs) ∨ (∃ xs, o = .tup xs) → ∃ o', H' a = some o' ∧ ((∃ xs, o' = .lst xs) ∨ ∃ xs, o' = .tup xs)) {v : V} (h : Kn H v) : Kn H' v := by
  cases v with
  | ref a =>
    rcases h with ⟨xs, e⟩ | ⟨xs, e⟩
    · obtain ⟨o', e', z⟩ := s a _ e (.inl ⟨xs, rfl⟩)
      rcases z with ⟨ys, rfl⟩ | ⟨ys, rfl⟩
      · exact .inl ⟨ys, e'⟩
      · exact .inr ⟨ys, e'⟩
    · obtain ⟨o', e', z⟩ := s a _ e (.inr ⟨xs, rfl⟩)
      rcases z with ⟨ys, rfl⟩ | ⟨ys, rfl⟩
      · exact .inl ⟨ys, e'⟩
      · exact .inr ⟨ys, e'⟩
  | non => trivial
  | bl _ => trivial
  | int _ => trivial
  | str _ => trivial
  | byt _ => exact h.elim
  | flt _ => exact h.elim
  | ty _ => exact h.elim
theorem Kn.same {H H' : Hp} (s : Same H H') {v : V} (h : Kn H v) : Kn H' v := h.mono fun a o e z => ⟨o, s a o e, z⟩
/-- a thing handed to has_place -/
structure Th (H : Hp) (v : V) : Prop where
  kn : Kn H v
  its : ∀ a xs, v = .ref a → H a = some (.tup xs) → ∀ x ∈ xs, Kn H x
def tI : V → Bool
  | .int _ => true
  | .bl _ => true
  | _ => false
def tBo : V → Bool
  | .bl _ => true
  | _ => false
def tTu (H : Hp) : V → Bool
  | .ref a => (match H a with | some (.tup _) => true | _ => false)
  | _ => false
def isInt : V → Bool
  | .int _ => true
  | _ => false
def inB (x : V) (lo hi : Int) : Bool := match x with
  | .int n => decide (lo ≤ n ∧ n ≤ hi)
  | _ => false
def allZ : List V → List Int → Bool
  | x :: xs, n :: ns => inB x 0 (n - 1) && allZ xs ns
  | _, _ => true
def plB (xs : List V) (ns : List Int) : Bool := decide (xs.length = ns.length) && allZ xs ns
/-- what is told of a thing -/
def Res (H : Hp) (v : V) (ns : List Int) (b : Bool) : Prop := (∃ a xs, v = .ref a ∧ H a = some (.tup xs) ∧ b = plB xs ns) ∨ ((∀ a xs, v = .ref a → H a ≠ some (.tup xs)) ∧ b = false)
theorem Res.uniq {H : Hp} {v : V} {ns : List Int} {b c : Bool} (h : Res H v ns b) (h' : Res H v ns c) : b = c := by
  rcases h with ⟨a, xs, rfl, e, rfl⟩ | ⟨n, rfl⟩
  · rcases h' with ⟨a', xs', q, e', rfl⟩ | ⟨n, _⟩
    · cases q
      rw [e] at e'
      cases e'
      rfl
    · exact absurd e (n a xs rfl)
  · rcases h' with ⟨a', xs', q, e', _⟩ | ⟨_, rfl⟩
    · exact absurd e' (n a' xs' q)
    · rfl
theorem Res.same {H H' : Hp} {v : V} {ns : List Int} {b : Bool} (k : Kn H v) (s : Same H H') (h : Res H' v ns b) : Res H v ns b := by
  rcases h with ⟨a, xs, rfl, e, rfl⟩ | ⟨n, rfl⟩
  · rcases k with ⟨ys, q⟩ | ⟨ys, q⟩
    · rw [s _ _ q] at e
      cases e
    · rw [s _ _ q] at e
      cases e
      exact .inl ⟨a, _, rfl, q, rfl⟩
  · exact .inr ⟨fun a xs q e => n a xs q (s _ _ e), rfl⟩
def spWholeG : Sp := fun vs H Q _ => ∃ x : V, vs = [x] ∧ Kn H x ∧ Q (.bl (isInt x)) H
def spWithinG : Sp := fun vs H Q _ => ∃ (x : V) (lo hi : Int), vs = [x, .int lo, .int hi] ∧ Kn H x ∧ Q (.bl (inB x lo hi)) H
def spLines (C : Addr) : Sp := fun vs H Q _ => ∃ (g : Addr) (ns : List Int) (xs : List V) (rs : List Rim), vs = [.ref g] ∧ GridAt C H g ns xs rs ∧ Q (.int (ns.length : Int)) H
def spMany (C : Addr) : Sp := fun vs H Q _ => ∃ (g : Addr) (ns : List Int) (xs : List V) (rs : List Rim), vs = [.ref g] ∧ GridAt C H g ns xs rs ∧ Q (.int (prodL ns)) H
theorem GridAt.same {C : Addr} {H H' : Hp} {g : Addr} {ns : List Int} {xs : List V} {rs : List Rim} (h : GridAt C H g ns xs rs) (s : Same H H') : GridAt C H' g ns xs rs := by
  obtain ⟨⟨dx, p, q, a, b, c⟩, r, l, o⟩ := h
  exact ⟨⟨dx, p, q, s _ _ a, s _ _ b, s _ _ c⟩, RimsAt.mono (fun _ _ e => s _ _ e) r, l, o⟩
theorem iteTe {c : Bool} {A B : Prop} (hc : c = true) (h : A) : if c = true then A else B := by
  rw [if_pos hc]
  exact h
theorem iteFe {c : Bool} {A B : Prop} (hc : c = false) (h : B) : if c = true then A else B := by
  rw [if_neg (by rw [hc]; exact Bool.false_ne_true)]
  exact h
section
variable {P : Program} {w : World} {K : PySem.W.Frag} {mg : Str → Option Value} {base : Heap}
theorem tyInt {H : Hp} {x : V} (h : Kn H x) : ∃ t, TyOf K H x t ∧ PySem.W.kitOne K t (.type "int") = some (tI x) ∧ PySem.W.kitOne K t (.type "bool") = some (tBo x) ∧
    PySem.W.kitOne K t (.type "tuple") = some (tTu H x) := by
  cases x with
  | non => exact ⟨_, .non, rfl, rfl, rfl⟩
  | bl b => exact ⟨_, .bl b, rfl, rfl, rfl⟩
  | int n => exact ⟨_, .int n, rfl, rfl, rfl⟩
  | str z => exact ⟨_, .str z, rfl, rfl, rfl⟩
  | ref a =>
    rcases h with ⟨xs, e⟩ | ⟨xs, e⟩
    · exact ⟨_, .lst e, rfl, rfl, by unfold tTu; simp only [e]; rfl⟩
    · exact ⟨_, .tup e, rfl, rfl, by unfold tTu; simp only [e]; rfl⟩
  | byt _ => exact h.elim
  | flt _ => exact h.elim
  | ty _ => exact h.elim
theorem ok_wholeG {f : Addr} {fd : FuncData} (F : Fun K "is_whole" "is_whole" sWhole f fd) (T : Txt K mg) : FnOk P w K mg base CX0 1 f fd ["thing"] spWholeG := by
  refine F.ok scWhole (fun vs H Q E h => ?_) (fun cdv A outer s H vs Q E hr h => ?_)
  · obtain ⟨x, rfl, _⟩ := h
    rfl
  · obtain ⟨x, rfl, kn, k⟩ := h
    obtain ⟨t, ty, k1, k2, _⟩ := tyInt (K := K) kn
    refine ⟨_, pss_one (ps_ret (pe_and (pe_callB call_isinst rfl T.isinstance boot_isinstance (pa_cons (pv 0) (pa_cons (pe_ty rfl T.int boot_int) pa_nil)))
      (pe_one (pe_not (pe_callB call_isinst rfl T.isinstance boot_isinstance (pa_cons (pv 0) (pa_cons (pe_ty rfl T.bool boot_bool) pa_nil))))))), ?_⟩
    refine ⟨_, rfl, _, _, _, _, rfl, ty, k1, _, rfl, ?_⟩
    cases x with
    | int n => exact iteT ⟨_, rfl, _, _, _, _, rfl, ty, k2, _, rfl, k⟩
    | bl b => exact iteT ⟨_, rfl, _, _, _, _, rfl, ty, k2, _, rfl, k⟩
    | non => exact iteF k
    | str z => exact iteF k
    | ref a => exact iteF k
    | byt _ => exact kn.elim
    | flt _ => exact kn.elim
    | ty _ => exact kn.elim
theorem ok_withinG {f f1 : Addr} {fd fd1 : FuncData} (F : Fun K "is_within" "is_within" sWithin f fd) (F1 : Fun K "is_whole" "is_whole" sWhole f1 fd1) (m1 : mg "is_whole" = some (.ref f1)) (b1 : Binds K fd1 ["thing"] []) (T : Txt K mg) :
    FnOk P w K mg base CX0 2 f fd ["thing", "least", "most"] spWithinG := by
  have G1 : FnOk P w K mg base CX0 1 f1 fd1 ["thing"] spWholeG := ok_wholeG F1 T
  refine F.ok scWithin (fun vs H Q E h => ?_) (fun cdv A outer s H vs Q E hr h => ?_)
  · obtain ⟨x, lo, hi, rfl, _⟩ := h
    rfl
  · obtain ⟨x, lo, hi, rfl, kn, k⟩ := h
    refine ⟨_, pss_one (ps_ret (pe_and (pe_call G1 hr rfl m1 F1.kp b1 .nil pass0 (pa_cons (pv 0) pa_nil)) (pe_one (pe_chain op_le op_le (pv 1) (pv 0) (pv 2))))), ?_⟩
    refine ⟨_, rfl, x, rfl, kn, _, rfl, ?_⟩
    cases x with
    | int n =>
      refine iteT ⟨_, rfl, _, rfl, _, _, rfl, rfl, _, rfl, ?_⟩
      by_cases h1 : lo ≤ n
      · rw [decide_eq_true h1]
        refine iteT ⟨_, rfl, _, _, rfl, rfl, ?_⟩
        have e : decide (n ≤ hi) = decide (lo ≤ n ∧ n ≤ hi) := by simp [h1]
        show Q (.bl (decide (n ≤ hi))) H
        rw [e]
        exact k
      · rw [decide_eq_false h1]
        refine iteF ?_
        have e : false = decide (lo ≤ n ∧ n ≤ hi) := by simp [h1]
        show Q (.bl false) H
        rw [e]
        exact k
    | bl b => exact iteF k
    | non => exact iteF k
    | str z => exact iteF k
    | ref a => exact iteF k
    | byt _ => exact kn.elim
    | flt _ => exact kn.elim
    | ty _ => exact kn.elim
theorem scLines : FnScope ["self"] ["self"] (defScope sLines) := ⟨rfl, rfl, rfl, by decide +kernel, rfl, by decide +kernel, by decide +kernel⟩
theorem ok_lines {C f : Addr} {fd : FuncData} (F : Fun K "lines" "Grid.lines" sLines f fd) (T : Txt K mg) (TC : Cl K C) : FnOk P w K mg base CX0 1 f fd ["self"] (spLines C) := by
  refine F.ok scLines (fun vs H Q E h => ?_) (fun cdv A outer s H vs Q E hr h => ?_)
  · obtain ⟨g, ns, xs, rs, rfl, _⟩ := h
    rfl
  · obtain ⟨g, ns, xs, rs, rfl, ⟨⟨dx, sa, ra, hg, hsa, hra⟩, _, _, _⟩, k⟩ := h
    refine ⟨_, pss_one (ps_ret (pe_callB call_len_seq (by rfl) T.len PySem.boot_len (pa_cons (pe_fld (pv 0) rfl) pa_nil))), ?_⟩
    refine ⟨_, rfl, g, C, dx, _, _, rfl, hg, TC.cl, TC.nS, flds_sizes _ _, sa, _, rfl, .inl (SqL.of hsa), ?_⟩
    show Q (.int ((ns.map V.int).length : Int)) H
    rw [List.length_map]
    exact k
theorem scMany : FnScope ["self"] ["self"] (defScope sMany) := ⟨rfl, rfl, rfl, by decide +kernel, rfl, by decide +kernel, by decide +kernel⟩
theorem ok_many {C f f1 : Addr} {fd fd1 : FuncData} (F : Fun K "places_many" "Grid.places_many" sMany f fd) (F1 : Fun K "product" "product" sProd f1 fd1) (m1 : mg "product" = some (.ref f1)) (b1 : Binds K fd1 ["sizes"] []) (TC : Cl K C) : FnOk P w K mg base CX0 2 f fd ["self"] (spMany C) := by
  have G1 : FnOk P w K mg base CX0 1 f1 fd1 ["sizes"] spProd := ok_prod F1
  refine F.ok scMany (fun vs H Q E h => ?_) (fun cdv A outer s H vs Q E hr h => ?_)
  · obtain ⟨g, ns, xs, rs, rfl, _⟩ := h
    rfl
  · obtain ⟨g, ns, xs, rs, rfl, ⟨⟨dx, sa, ra, hg, hsa, hra⟩, _, _, good⟩, k⟩ := h
    refine ⟨_, pss_one (ps_ret (pe_call G1 hr rfl m1 F1.kp b1 .nil pass0 (pa_cons (pe_fld (pv 0) rfl) pa_nil))), ?_⟩
    exact ⟨_, rfl, g, C, dx, _, _, rfl, hg, TC.cl, TC.nS, flds_sizes _ _, sa, ns, rfl, hsa, good.ok, k⟩
end
end K1
namespace K1
open PySem PyProof.Rows L2 G3
/-! ### TileError.__init__ -/
def spTile (K : PySem.W.Frag) : Sp := fun vs H Q _ => ∃ (e C : Addr) (y : V), vs = [.ref e, y] ∧ H e = some (ExcH e C none) ∧ ExcCls K C ∧ PySem.W.takerIn K C "at" = some none ∧ ∀ dx, H dx = none → dx ≠ e → Q .non (upd (upd H dx (.xd [("at", y)])) e (ExcH e C (some dx)))
section
variable {P : Program} {w : World} {K : PySem.W.Frag} {mg : Str → Option Value} {base : Heap}
theorem scTile : FnScope ["self", "at"] ["self", "at"] (defScope sTile) := ⟨rfl, rfl, rfl, by decide +kernel, rfl, by decide +kernel, by decide +kernel⟩
theorem ok_tile {f : Addr} {fd : FuncData} (F : Fun K "__init__" "TileError.__init__" sTile f fd) (hV : mg "ValueError" = none) : FnOk P w K mg base CX0 1 f fd ["self", "at"] (spTile K) := by
  refine F.ok scTile (fun vs H Q E h => ?_) (fun cdv A outer s H vs Q E hr h => ?_)
  · obtain ⟨e, C, y, rfl, _⟩ := h
    rfl
  · obtain ⟨e, C, y, rfl, he, c, tk, q⟩ := h
    refine ⟨_, pss_cons (ps_expr (pe_ve rfl hV (pa_cons (pv 0) (pa_cons (pv 1) pa_nil)))) (pss_one (ps_excfld (pv 0) (pv 1) rfl)), ?_⟩
    refine ⟨_, rfl, _, rfl, e, C, y, none, rfl, he, c.kts, ?_⟩
    exact ⟨_, rfl, _, rfl, e, C, rfl, he, c, tk, fun dx h1 h2 => q dx h1 h2⟩
end
end K1
namespace K1
open PySem PyProof.Rows L2 G3
/-! ### is_rim of anything -/
def rimX : List V → Bool
  | .str z :: r => if z = "fixed" then (match r with | [y] => inB y 0 1000000000 | _ => false) else r.isEmpty && decide (z = "mirror" ∨ z = "round")
  | _ => false
theorem rimX_str {z : Str} {r : List V} (hz : ¬ z = "fixed") : rimX (.str z :: r) = (r.isEmpty && decide (z = "mirror" ∨ z = "round")) := by
  show (if z = "fixed" then _ else _) = _
  rw [if_neg hz]
theorem in_words {z : Str} : decide (z = "mirror" ∨ z = "round") = inV (.str z) [.str "mirror", .str "round"] := by
  by_cases h1 : z = "mirror"
  · subst h1; decide +kernel
  · by_cases h2 : z = "round"
    · subst h2; decide +kernel
    · rw [decide_eq_false (by rintro (q | q); exact h1 q; exact h2 q)]
      have n1 : eqV (.str "mirror") (.str z) = false := decide_eq_false fun q => h1 (by first | exact q.symm | exact (V.str.inj q).symm)
      have n2 : eqV (.str "round") (.str z) = false := decide_eq_false fun q => h2 (by first | exact q.symm | exact (V.str.inj q).symm)
      unfold inV
      simp only [List.any_cons, List.any_nil, n1, n2]
      rfl
/-- what is_rim tells of a thing -/
def RimR (H : Hp) (v : V) (b : Bool) : Prop := (∃ a xs, v = .ref a ∧ H a = some (.tup xs) ∧ b = rimX xs) ∨ ((∀ a xs, v = .ref a → H a ≠ some (.tup xs)) ∧ b = false)
def spIsRimG : Sp := fun vs H Q _ => ∃ v : V, vs = [v] ∧ Th H v ∧ ∀ b H', RimR H v b → Same H H' → Q (.bl b) H'
def tSt : V → Bool
  | .str _ => true
  | _ => false
section
variable {P : Program} {w : World} {K : PySem.W.Frag} {mg : Str → Option Value} {base : Heap}
theorem tyStr {H : Hp} {x : V} (h : Kn H x) : ∃ t, TyOf K H x t ∧ PySem.W.kitOne K t (.type "str") = some (tSt x) := by
  cases x with
  | non => exact ⟨_, .non, rfl⟩
  | bl b => exact ⟨_, .bl b, rfl⟩
  | int n => exact ⟨_, .int n, rfl⟩
  | str z => exact ⟨_, .str z, rfl⟩
  | ref a =>
    rcases h with ⟨xs, e⟩ | ⟨xs, e⟩
    · exact ⟨_, .lst e, rfl⟩
    · exact ⟨_, .tup e, rfl⟩
  | byt _ => exact h.elim
  | flt _ => exact h.elim
  | ty _ => exact h.elim
theorem scIsRim : FnScope ["thing"] ["thing"] (defScope sIsRim) := ⟨rfl, rfl, rfl, by decide +kernel, rfl, by decide +kernel, by decide +kernel⟩
theorem ok_isRimG {f f1 : Addr} {fd fd1 : FuncData} (F : Fun K "is_rim" "is_rim" sIsRim f fd) (F1 : Fun K "is_within" "is_within" sWithin f1 fd1) (m1 : mg "is_within" = some (.ref f1)) (b1 : Binds K fd1 ["thing", "least", "most"] []) (T : Txt K mg)
    (G1 : FnOk P w K mg base CX0 2 f1 fd1 ["thing", "least", "most"] spWithinG) : FnOk P w K mg base CX0 3 f fd ["thing"] spIsRimG := by
  refine F.ok scIsRim (fun vs H Q E h => ?_) (fun cdv A outer s H vs Q E hr h => ?_)
  · obtain ⟨v, rfl, _⟩ := h
    rfl
  · obtain ⟨v, rfl, th, k⟩ := h
    obtain ⟨tf, gf⟩ := T.gf
    refine ⟨_, pss_cons (ps_if (PW.pt (pw_or (pt_not (pt_val (pe_callB call_isinst rfl T.isinstance boot_isinstance (pa_cons (pv 0) (pa_cons (pe_ty rfl T.tuple boot_tuple) pa_nil)))))
        (pw_or1 (pt_cmpR op_eq (pe_callB call_len_seq (by rfl) T.len PySem.boot_len (pa_cons (pv 0) pa_nil)) pe_int (nomark _))))) (pss_one (ps_ret pe_bl)) pss_nil)
      (pss_cons (ps_if (pt_not (pt_val (pe_callB call_isinst rfl T.isinstance boot_isinstance (pa_cons (pe_ix ix_tup (pv 0) pe_int (fun _ _ => rfl)) (pa_cons (pe_ty rfl T.str boot_str) pa_nil))))) (pss_one (ps_ret pe_bl)) pss_nil)
      (pss_cons (ps_if (pt_cmpR op_eq (pe_ix ix_tup (pv 0) pe_int (fun _ _ => rfl)) pe_str (nomark _))
        (pss_one (ps_ret (pe_and (pe_cmpR op_eq (pe_callB call_len_seq (by rfl) T.len PySem.boot_len (pa_cons (pv 0) pa_nil)) pe_int (nomark _))
          (pe_one (pe_call G1 hr rfl m1 F1.kp b1 .nil pass0 (pa_cons (pe_ix ix_tup (pv 0) pe_int (fun _ _ => rfl)) (pa_cons pe_int (pa_cons (pe_gint rfl gf) pa_nil)))))))) pss_nil)
      (pss_one (ps_ret (pe_and (pe_cmpR op_eq (pe_callB call_len_seq (by rfl) T.len PySem.boot_len (pa_cons (pv 0) pa_nil)) pe_int (nomark _))
        (pe_one (pe_cmpR op_in_seq (pe_ix ix_tup (pv 0) pe_int (fun _ _ => rfl)) (pe_tup (pa_cons pe_str (pa_cons pe_str pa_nil))) rfl))))))), ?_⟩
    obtain ⟨t, ty, _, _, k3⟩ := tyInt (K := K) th.kn
    refine ⟨_, rfl, _, _, _, _, rfl, ty, k3, _, rfl, ?_⟩
    by_cases ht : ∃ a xs, v = .ref a ∧ H a = some (.tup xs)
    · obtain ⟨a, xs, rfl, ha⟩ := ht
      have e1 : tTu H (.ref a) = true := by unfold tTu; simp only [ha]
      rw [e1]
      refine iteF ?_
      have k' : ∀ H', Same H H' → Q (.bl (rimX xs)) H' := fun H' s' => k _ H' (.inl ⟨a, xs, rfl, ha, rfl⟩) s'
      refine ⟨_, rfl, a, _, rfl, .inr (SqT.of ha), rfl, _, rfl, ?_⟩
      cases xs with
      | nil => exact iteT (k' H (Same.refl H))
      | cons x r =>
        refine iteFe (decide_eq_false (fun z => by have := V.int.inj z; simp at this; omega)) ?_
        obtain ⟨t2, ty2, k4⟩ := tyStr (K := K) (th.its a _ rfl ha x List.mem_cons_self)
        have a0 : atI (x :: r) 0 = some x := atI_nat (show (x :: r)[0]? = some x from rfl)
        refine ⟨_, rfl, a, _, _, _, rfl, rfl, SqT.of ha, a0, _, _, _, _, rfl, ty2, k4, _, rfl, ?_⟩
        cases x with
        | str z =>
          refine iteF ?_
          refine ⟨_, rfl, a, _, _, _, rfl, rfl, SqT.of ha, a0, rfl, _, rfl, ?_⟩
          by_cases hz : z = "fixed"
          · subst hz
            refine iteT ?_
            refine ⟨_, rfl, a, _, rfl, .inr (SqT.of ha), rfl, _, rfl, ?_⟩
            match r, ha, th, k' with
            | [], ha, th, k' => exact iteF (k' H (Same.refl H))
            | [y], ha, th, k' => exact iteT ⟨_, rfl, a, _, _, _, rfl, rfl, SqT.of ha, rfl, y, 0, 1000000000, rfl, th.its a _ rfl ha y (by simp), k' H (Same.refl H)⟩
            | y :: y2 :: r2, ha, th, k' => exact iteFe (decide_eq_false (fun z => by have := V.int.inj z; simp at this; omega)) (k' H (Same.refl H))
          · refine iteFe (decide_eq_false fun q => hz (V.str.inj q)) ?_
            refine ⟨_, rfl, a, _, rfl, .inr (SqT.of ha), rfl, _, rfl, ?_⟩
            match r, ha, th, k', a0 with
            | [], ha, th, k', a0 =>
              refine iteT ⟨_, rfl, a, _, _, _, rfl, rfl, SqT.of ha, a0, (by show 2 ≤ sizeLine; decide), fun t ht => ⟨t, _, rfl, .inr (SqT.of upd_same), rfl, rfl, ?_⟩⟩
              have k2 := k' (upd H t (.tup [.str "mirror", .str "round"])) (Same.new ht)
              rw [rimX_str hz] at k2
              have e3 : (([] : List V).isEmpty && decide (z = "mirror" ∨ z = "round")) = inV (.str z) [.str "mirror", .str "round"] := in_words
              rw [e3] at k2
              exact k2
            | y :: r2, ha, th, k', a0 =>
              refine iteFe (decide_eq_false (fun z => by have := V.int.inj z; simp at this; omega)) ?_
              have k2 := k' H (Same.refl H)
              rw [rimX_str hz] at k2
              exact k2
        | non => exact iteT (k' H (Same.refl H))
        | bl _ => exact iteT (k' H (Same.refl H))
        | int _ => exact iteT (k' H (Same.refl H))
        | ref _ => exact iteT (k' H (Same.refl H))
        | byt _ => exact iteT (k' H (Same.refl H))
        | flt _ => exact iteT (k' H (Same.refl H))
        | ty _ => exact iteT (k' H (Same.refl H))
    · have e1 : tTu H v = false := by
        cases v with
        | ref a =>
          cases q : H a with
          | none => unfold tTu; simp only [q]
          | some o =>
            cases o with
            | tup xs => exact absurd ⟨a, xs, rfl, q⟩ ht
            | _ => unfold tTu; simp only [q]
        | _ => rfl
      rw [e1]
      exact iteT (k _ H (.inr ⟨fun a xs q e => ht ⟨a, xs, q, e⟩, rfl⟩) (Same.refl H))
end
end K1
namespace K1
open PySem PyProof.Rows L2 G3
/-! ### check_lines of anything: it may raise -/
def LenOk (xs ys : List V) : Prop := 1 ≤ xs.length ∧ xs.length ≤ 3 ∧ ys.length = xs.length
/-- the i-th line is right -/
def LineOk (H : Hp) (xs ys : List V) (i : Nat) : Prop := ∃ x y, xs[i]? = some x ∧ ys[i]? = some y ∧ inB x 1 9 = true ∧ RimR H y true
def LineBad (H : Hp) (xs ys : List V) (i : Nat) : Prop := ∃ x y, xs[i]? = some x ∧ ys[i]? = some y ∧ (inB x 1 9 = false ∨ RimR H y false)
def AtIs (H : Hp) (dx : Addr) (v : V) : Prop := H dx = some (.xd [("at", v)])
/-- how check_lines ends -/
def spCheckE (CG : Addr) : Sp := fun vs H Q E => ∃ (a b : Addr) (xs ys : List V), vs = [.ref a, .ref b] ∧ H a = some (.lst xs) ∧ H b = some (.lst ys) ∧ (∀ x ∈ xs, Kn H x) ∧ (∀ y ∈ ys, Th H y) ∧
  (LenOk xs ys → (∀ i, i < xs.length → LineOk H xs ys i) → ∀ H', Same H H' → Q .non H') ∧
  (¬ LenOk xs ys → ∀ H' dx, Same H H' → AtIs H' dx .non → E (.ref CG) (some dx) H') ∧
  (LenOk xs ys → ∀ i, (∀ j, j < i → LineOk H xs ys j) → LineBad H xs ys i → ∀ H' dx, Same H H' → AtIs H' dx (.int i) → E (.ref CG) (some dx) H')
/-- what NoGrid must have -/
structure Ng (K : PySem.W.Frag) (mg : Str → Option Value) (CG fT : Addr) : Prop where
  rs : Rs K CG fT
  cls : ExcCls K CG
  tk : PySem.W.takerIn K CG "at" = some none
  mg : mg "NoGrid" = some (.ref CG)
section
variable {P : Program} {w : World} {K : PySem.W.Frag} {mg : Str → Option Value} {base : Heap}
/-- what is raised, behind TileError.__init__ -/
theorem tile_done {CG : Addr} {H H1 : Hp} {v : V} {E : XK} (N : ExcCls K CG) (tk : PySem.W.takerIn K CG "at" = some none) (s : Same H H1) (k : ∀ H' dx, Same H H' → AtIs H' dx v → E (.ref CG) (some dx) H') {e : Addr} (he : H1 e = none) :
    spTile K [.ref e, v] (upd H1 e (ExcH e CG none)) (fun z H2 => z = .non ∧ ∃ dx, H2 e = some (ExcH e CG (some dx)) ∧ E (.ref CG) (some dx) (drop1 H2 e)) E0 := by
  refine ⟨e, CG, v, rfl, upd_same, N, tk, fun dx h1 h2 => ⟨rfl, dx, upd_same, k _ dx (fun b o hb => ?_) ?_⟩⟩
  · have hb1 := s b o hb
    have n1 : b ≠ e := ne_of_none hb1 he
    have n2 : b ≠ dx := ne_of_none (o := o) (by rw [upd_ne n1]; exact hb1) h1
    rw [drop1_ne n1, upd_ne n1, upd_ne n2, upd_ne n1]
    exact hb1
  · unfold AtIs
    rw [drop1_ne h2, upd_ne h2, upd_same]
theorem scCheck : FnScope ["sizes", "rims", "line", "rim"] ["sizes", "rims"] (defScope sCheck) := ⟨rfl, rfl, rfl, by decide +kernel, rfl, by decide +kernel, by decide +kernel⟩
end
end K1
namespace K1
open PySem PyProof.Rows L2 G3
theorem Th.same {H H' : Hp} {v : V} (h : Th H v) (s : Same H H') : Th H' v := by
  refine ⟨h.kn.same s, fun a xs e q x hx => ?_⟩
  subst e
  rcases h.kn with ⟨ys, z⟩ | ⟨ys, z⟩
  · rw [s _ _ z] at q; cases q
  · have := s _ _ z
    rw [q] at this
    cases this
    exact (h.its a _ rfl z x hx).same s
theorem RimR.back {H H' : Hp} {v : V} {b : Bool} (k : Kn H v) (s : Same H H') (h : RimR H' v b) : RimR H v b := by
  rcases h with ⟨a, xs, rfl, e, rfl⟩ | ⟨n, rfl⟩
  · rcases k with ⟨ys, q⟩ | ⟨ys, q⟩
    · rw [s _ _ q] at e; cases e
    · rw [s _ _ q] at e
      cases e
      exact .inl ⟨a, _, rfl, q, rfl⟩
  · exact .inr ⟨fun a xs q e => n a xs q (s _ _ e), rfl⟩
section
variable {P : Program} {w : World} {K : PySem.W.Frag} {mg : Str → Option Value} {base : Heap}
theorem ok_checkE {f CG fT : Addr} {fd fdT : FuncData} (F : Fun K "check_lines" "check_lines" sCheck f fd) (c_within : Cal P w K mg base CX0 2 "is_within" ["thing", "least", "most"] spWithinG) (c_isrim : Cal P w K mg base CX0 3 "is_rim" ["thing"] spIsRimG) (T : Txt K mg)
    (NG : Ng K mg CG fT) (GT : FnOk P w K mg base CX0 1 fT fdT ["self", "at"] (spTile K)) (bT : Binds K fdT ["self", "at"] []) :
    FnOk P w K mg base (CXe P w) 4 f fd ["sizes", "rims"] (spCheckE CG) := by
  refine Fun.okE F scCheck (fun vs H Q E h => ?_) (fun X cdv A outer s H vs Q E eX hW hP hr h => ?_)
  · obtain ⟨a, b, xs, ys, rfl, _⟩ := h
    rfl
  · subst eX
    obtain ⟨a, b, xs, ys, rfl, ha, hb, kx, ty, kQ, kL, kB⟩ := h
    obtain ⟨tl, g_MOST_LINES⟩ := T.ml
    obtain ⟨tg, g_GREATEST_SIZE⟩ := T.gs
    refine ⟨_, (pss_cons (ps_if (PW.pt (pw_or (pt_not (pt_chain op_le op_le pe_int (pe_callB call_len_seq (by rfl) T.len PySem.boot_len (pa_cons (pv 0) pa_nil)) (pe_gint rfl g_MOST_LINES))) (pw_or1 (pt_cmpR op_ne (pe_callB call_len_seq (by rfl) T.len PySem.boot_len (pa_cons (pv 1) pa_nil)) (pe_callB call_len_seq (by rfl) T.len PySem.boot_len (pa_cons (pv 0) pa_nil)) (nomark _))))) (pss_one (ps_raise NG.rs GT (hr.mono (by decide)) rfl NG.mg bT rfl rfl hW (pa_cons pe_non pa_nil))) pss_nil) (pss_one (ps_for hP rfl (pi_enum rfl T.enumerate (pa_cons (pv 1) pa_nil)) (pg_tup rfl (pgs_cons (pg_name (i := 2) scCheck.nd rfl (Or.inl rfl)) (pgs_cons (pg_name (i := 3) scCheck.nd rfl (Or.inl rfl)) pgs_nil))) (pss_one (ps_if (PW.pt (pw_or (pt_not (pt_val (pe_c c_within (hr.mono (by decide)) rfl pass0 (pa_cons (pe_ix ix_list (pv 0) (pv 2) (fun _ _ => rfl)) (pa_cons pe_int (pa_cons (pe_gint rfl g_GREATEST_SIZE) pa_nil)))))) (pw_or1 (pt_not (pt_val (pe_c c_isrim (hr.mono (by decide)) rfl pass0 (pa_cons (pv 3) pa_nil))))))) (pss_one (ps_raise NG.rs GT (hr.mono (by decide)) rfl NG.mg bT rfl rfl hW (pa_cons (pv 2) pa_nil))) pss_nil))))), ?_⟩
    have out : ¬ LenOk xs ys → ∀ D σ, sRaise CG (spTile K) E (tCons (tC .non) tNil) D σ H := fun h D σ => ⟨by show 1 ≤ sizeLine; decide, fun e he => tile_done NG.cls NG.tk (Same.refl H) (kL h) he⟩
    refine ⟨_, rfl, a, _, rfl, .inl (SqL.of ha), _, _, rfl, rfl, _, rfl, ?_⟩
    by_cases h1 : 1 ≤ xs.length
    case neg =>
      rw [decide_eq_false (show ¬ (1 : Int) ≤ (xs.length : Int) by omega)]
      exact iteF ⟨_, rfl, iteT (iteT (out (fun z => h1 z.1) _ _))⟩
    rw [decide_eq_true (show (1 : Int) ≤ (xs.length : Int) by omega)]
    refine iteT ⟨_, _, rfl, rfl, _, rfl, ?_⟩
    by_cases h2 : xs.length ≤ 3
    case neg =>
      rw [decide_eq_false (show ¬ (xs.length : Int) ≤ 3 by omega)]
      exact iteT (iteT (out (fun z => h2 z.2.1) _ _))
    rw [decide_eq_true (show (xs.length : Int) ≤ 3 by omega)]
    refine iteF ?_
    refine ⟨_, rfl, b, _, rfl, .inl (SqL.of hb), _, rfl, a, _, rfl, .inl (SqL.of ha), rfl, _, rfl, ?_⟩
    by_cases h3 : ys.length = xs.length
    case neg =>
      have c3 : (!decide (V.int (ys.length : Int) = V.int (xs.length : Int))) = true := by
        rw [decide_eq_false (fun z => h3 (by have := V.int.inj z; omega))]; rfl
      rw [c3]
      exact iteT (out (fun z => h3 z.2.2) _ _)
    have c3 : (!decide (V.int (ys.length : Int) = V.int (xs.length : Int))) = false := by rw [h3]; simp
    rw [c3]
    refine iteF ?_
    have lo : LenOk xs ys := ⟨h1, h2, h3⟩
    refine ⟨_, rfl, b, rfl, ⟨_, SqL.of hb⟩, for_enum (K := K) (a := b) (xs := ys) (fun i σ H2 => ∃ (v2 v3 : Option V), σ = [some (.ref a), some (.ref b), v2, v3] ∧ Same H H2 ∧ ∀ j, j < i → LineOk H xs ys j)
      ⟨none, none, rfl, Same.refl H, fun j hj => absurd hj (Nat.not_lt_zero j)⟩ (fun i σ H2 _ ⟨_, _, _, s2, _⟩ => SqL.of (s2 _ _ hb)) ?_ ?_⟩
    · rintro i y σ H2 p hy ⟨v2, v3, rfl, s2, prev⟩ hp
      have s3 : Same H (upd H2 p (.tup [.int i, y])) := s2.trans (Same.new hp)
      generalize upd H2 p (.tup [.int i, y]) = H3 at s3
      have hil : i < xs.length := by rw [← h3]; exact (List.getElem?_eq_some_iff.mp hy).1
      have e : xs[i]? = some xs[i] := by simp [hil]
      have bad : (inB xs[i] 1 9 = false ∨ RimR H y false) → ∀ H4, Same H H4 → ∀ D, sRaise CG (spTile K) E (tCons (tVar 2) tNil) D [some (.ref a), some (.ref b), some (.int i), some y] H4 := fun hz H4 s4 D =>
        ⟨_, rfl, by show 1 ≤ sizeLine; decide, fun e' he' => tile_done NG.cls NG.tk s4 (kB lo i prev ⟨_, y, e, hy, hz⟩) he'⟩
      refine ⟨_, rfl, _, rfl, a, _, _, _, rfl, rfl, SqL.of (s3 _ _ ha), atI_nat e, _, _, _, rfl, (kx _ (List.getElem_mem hil)).same s3, _, rfl, ?_⟩
      cases h4 : inB xs[i] 1 9 with
      | false => exact iteT (iteT (bad (.inl h4) _ s3 _))
      | true =>
        refine iteF ?_
        have th := ty _ (List.mem_of_getElem? hy)
        refine ⟨_, rfl, y, rfl, th.same s3, fun b H4 rb s4 => ⟨_, rfl, ?_⟩⟩
        have rb' := RimR.back th.kn s3 rb
        cases b with
        | false => exact iteT (bad (.inr rb') _ (s3.trans s4) _)
        | true =>
          refine iteF ⟨_, _, rfl, s3.trans s4, fun j hj => ?_⟩
          rcases Nat.lt_succ_iff_lt_or_eq.mp hj with hj | rfl
          · exact prev j hj
          · exact ⟨_, y, e, hy, h4, rb'⟩
    · rintro σ H2 ⟨v2, v3, rfl, s2, prev⟩
      rw [h3] at prev
      exact kQ lo prev H2 s2
end
end K1
namespace K1
open PySem PyProof.Rows L2 G3
theorem inB_int {x : V} {lo hi : Int} (h : inB x lo hi = true) : ∃ n : Int, x = .int n ∧ lo ≤ n ∧ n ≤ hi := by
  cases x with
  | int n => exact ⟨n, rfl, of_decide_eq_true h⟩
  | _ => exact absurd (show false = true from h) Bool.false_ne_true
theorem ints_of : ∀ {xs : List V}, (∀ x ∈ xs, inB x 1 9 = true) → ∃ ns : List Int, xs = ns.map V.int ∧ ∀ n ∈ ns, OkSize n
  | [], _ => ⟨[], rfl, fun _ h => by cases h⟩
  | x :: xs, h => by
    obtain ⟨n, rfl, h1, h2⟩ := inB_int (h x List.mem_cons_self)
    obtain ⟨ns, rfl, hn⟩ := ints_of (xs := xs) fun y hy => h y (List.mem_cons_of_mem _ hy)
    refine ⟨n :: ns, rfl, fun m hm => ?_⟩
    rcases List.mem_cons.mp hm with rfl | hm
    · exact ⟨h1, h2⟩
    · exact hn m hm
def AllOk (H : Hp) (xs ys : List V) : Prop := LenOk xs ys ∧ ∀ i, i < xs.length → LineOk H xs ys i
theorem AllOk.ints {H : Hp} {xs ys : List V} (h : AllOk H xs ys) : ∃ ns : List Int, xs = ns.map V.int ∧ ∀ n ∈ ns, OkSize n := by
  refine ints_of fun x hx => ?_
  obtain ⟨i, hi, rfl⟩ := List.mem_iff_getElem.mp hx
  obtain ⟨x', y, e1, _, e2, _⟩ := h.2 i hi
  rw [List.getElem?_eq_getElem hi] at e1
  cases e1
  exact e2
/-- how a making ends: what is refused, at which value -/
def Refd (H : Hp) (xs ys : List V) (v : V) : Prop := (¬ LenOk xs ys ∧ v = .non) ∨ (LenOk xs ys ∧ ∃ i : Nat, (∀ j, j < i → LineOk H xs ys j) ∧ LineBad H xs ys i ∧ v = .int i) ∨
  (AllOk H xs ys ∧ (∃ ns : List Int, xs = ns.map V.int ∧ (∀ n ∈ ns, OkSize n) ∧ 40 < prodL ns) ∧ v = .non)
def Made (H : Hp) (xs ys : List V) (ns : List Int) : Prop := AllOk H xs ys ∧ xs = ns.map V.int ∧ (∀ n ∈ ns, OkSize n) ∧ prodL ns ≤ 40
def spInitE (CG C : Addr) : Sp := fun vs H Q E => ∃ (g dx a b : Addr) (xs ys : List V), vs = [.ref g, .ref a, .ref b] ∧ H g = some (.ins C dx []) ∧ H a = some (.lst xs) ∧ H b = some (.lst ys) ∧ (∀ x ∈ xs, Kn H x) ∧ (∀ y ∈ ys, Th H y) ∧
  (∀ v, Refd H xs ys v → ∀ H' dx', Same H H' → AtIs H' dx' v → E (.ref CG) (some dx') H') ∧
  (∀ ns, Made H xs ys ns → ∀ H' p q, Kp g H H' → H' g = some (.ins C dx (flds p q)) → H' p = some (.lst xs) → H' q = some (.lst ys) → H p = none → H q = none → p ≠ q → Q .non H')
section
variable {P : Program} {w : World} {K : PySem.W.Frag} {mg : Str → Option Value} {base : Heap}
abbrev NInit : List Str := ["self", "sizes", "rims"]
theorem scInit : FnScope ["self", "sizes", "rims"] ["self", "sizes", "rims"] (defScope sInit) := ⟨rfl, rfl, rfl, by decide +kernel, rfl, by decide +kernel, by decide +kernel⟩
theorem ok_initE {f C CG fT : Addr} {fd fdT : FuncData} (F : Fun K "__init__" "Grid.__init__" sInit f fd) (c_check : Cal P w K mg base (CXe P w) 4 "check_lines" ["sizes", "rims"] (spCheckE CG)) (c_prod : Cal P w K mg base CX0 1 "product" ["sizes"] spProd) (T : Txt K mg) (TC : Cl K C)
    (NG : Ng K mg CG fT) (GT : FnOk P w K mg base CX0 1 fT fdT ["self", "at"] (spTile K)) (bT : Binds K fdT ["self", "at"] []) :
    FnOk P w K mg base (CXe P w) 5 f fd ["self", "sizes", "rims"] (spInitE CG C) := by
  refine Fun.okE F scInit (fun vs H Q E h => ?_) (fun X cdv A outer s H vs Q E eX hW hP hr h => ?_)
  · obtain ⟨g, dx, a, b, xs, ys, rfl, _⟩ := h
    rfl
  · subst eX
    obtain ⟨g, dx, a, b, xs, ys, rfl, hg, ha, hb, kx, ty, kE, kQ⟩ := h
    obtain ⟨tm, g_MOST_PLACES⟩ := T.mp
    refine ⟨_, (pss_cons (ps_expr (pe_c c_check (hr.mono (by decide)) rfl (passE rfl hW) (pa_cons (pv 1) (pa_cons (pv 2) pa_nil)))) (pss_cons (ps_if (pt_cmpR op_gt (pe_c c_prod (hr.mono (by decide)) rfl pass0 (pa_cons (pv 1) pa_nil)) (pe_gint rfl g_MOST_PLACES) (nomark _)) (pss_one (ps_raise NG.rs GT (hr.mono (by decide)) rfl NG.mg bT rfl rfl hW (pa_cons pe_non pa_nil))) pss_nil) (pss_cons (ps_fld (pv 0) (pe_callTy call_list_of rfl T.list boot_list (pa_cons (pv 1) pa_nil)) rfl) (pss_one (ps_fld (pv 0) (pe_callTy call_list_of rfl T.list boot_list (pa_cons (pv 2) pa_nil)) rfl))))), ?_⟩
    refine ⟨_, rfl, _, rfl, a, b, xs, ys, rfl, ha, hb, kx, ty, fun lo al H1 s1 => ?_, fun nl H1 d1 s1 e1 => kE _ (.inl ⟨nl, rfl⟩) H1 d1 s1 e1, fun lo i pr bad H1 d1 s1 e1 => kE _ (.inr (.inl ⟨lo, i, pr, bad, rfl⟩)) H1 d1 s1 e1⟩
    have ao : AllOk H xs ys := ⟨lo, al⟩
    obtain ⟨ns, rfl, okn⟩ := ao.ints
    refine ⟨_, rfl, a, ns, rfl, s1 _ _ ha, okn, _, _, rfl, rfl, _, rfl, ?_⟩
    by_cases hm : (40 : Int) < prodL ns
    case pos =>
      rw [decide_eq_true hm]
      refine iteT ⟨by show 1 ≤ sizeLine; decide, fun e he => tile_done NG.cls NG.tk s1 (fun H' d' s' e' => kE _ (.inr (.inr ⟨ao, ⟨ns, rfl, okn, hm⟩, rfl⟩)) H' d' s' e') he⟩
    rw [decide_eq_false hm]
    refine iteF ?_
    have g1 := s1 _ _ hg
    have a1 := s1 _ _ ha
    have b1 := s1 _ _ hb
    have hga : g ≠ a := ne_of g1 a1 (by intro z; cases z)
    have hgb : g ≠ b := ne_of g1 b1 (by intro z; cases z)
    refine ⟨_, rfl, a, _, rfl, .inl (SqL.of a1), fun la hla => ?_⟩
    have nga : g ≠ la := ne_of_none g1 hla
    refine ⟨_, rfl, g, C, dx, [], rfl, (by rw [upd_ne nga]; exact g1), TC.cl, TC.nS, (by show 0 < 1000; decide), ?_⟩
    refine ⟨_, rfl, b, _, rfl, .inl (SqL.of (by rw [upd_ne (Ne.symm hgb), upd_ne (ne_of_none b1 hla)]; exact b1)), fun lb hlb => ?_⟩
    have ngb : g ≠ lb := ne_of_none upd_same hlb
    have nab : la ≠ lb := ne_of_none (o := .lst (ns.map V.int)) (by rw [upd_ne (Ne.symm nga), upd_same]) hlb
    refine ⟨_, rfl, g, C, dx, _, rfl, (by rw [upd_ne ngb, upd_same]), TC.cl, TC.nR, (by show 1 < 1000; decide), ?_⟩
    have keep : ∀ c o, H c = some o → c ≠ g → (upd (upd (upd (upd H1 la (.lst (ns.map V.int))) g (.ins C dx (putF "sizes" (.ref la) []))) lb (.lst ys)) g (.ins C dx (putF "rims" (.ref lb) (putF "sizes" (.ref la) [])))) c = some o := fun c o e hc => by
      have e1 := s1 _ _ e
      have n1 : c ≠ la := ne_of_none e1 hla
      have n2 : c ≠ lb := ne_of_none (o := o) (by rw [upd_ne hc, upd_ne n1]; exact e1) hlb
      rw [upd_ne hc, upd_ne n2, upd_ne hc, upd_ne n1]
      exact e1
    have hlb0 : H lb = none := by
      cases e : H lb with
      | none => rfl
      | some o =>
        have e1 := s1 _ _ e
        have n1 : lb ≠ la := Ne.symm nab
        rw [upd_ne (Ne.symm ngb), upd_ne n1, e1] at hlb
        cases hlb
    refine kQ ns ⟨ao, rfl, okn, by omega⟩ _ la lb keep upd_same ?_ ?_ (s1.free hla) hlb0 nab
    · rw [upd_ne (Ne.symm nga), upd_ne nab, upd_ne (Ne.symm nga), upd_same]
    · rw [upd_ne (Ne.symm ngb), upd_same]
end
end K1
namespace K1
open PySem PyProof.Rows L2 G3
/-! ### deep things of this law -/
abbrev nA : Addr → Prop := fun _ => False
theorem _root_.L2.DenN.kp {a : Addr} {Av : Addr → Prop} {H H' : Hp} {d : D} {v : V} (ha : Av a) (k : Kp a H H') (w : WellAt H a) (h : DenN Av H d v) : DenN Av H' d v := DenN.mono (fun _ _ e => k.tup w e) (fun b _ n e => k b _ e (fun z => n (z ▸ ha))) d h
theorem _root_.L2.DensN.kp {a : Addr} {Av : Addr → Prop} {H H' : Hp} {l : List D} {xs : List V} (ha : Av a) (k : Kp a H H') (w : WellAt H a) (h : DensN Av H l xs) : DensN Av H' l xs := DensN.mono (fun _ _ e => k.tup w e) (fun b _ n e => k b _ e (fun z => n (z ▸ ha))) l h
theorem _root_.L2.DenN.same {Av : Addr → Prop} {H H' : Hp} {d : D} {v : V} (s : Same H H') (h : DenN Av H d v) : DenN Av H' d v := DenN.mono (fun _ _ e => s _ _ e) (fun b _ n e => s _ _ e) d h
theorem _root_.L2.DensN.same {Av : Addr → Prop} {H H' : Hp} {l : List D} {xs : List V} (s : Same H H') (h : DensN Av H l xs) : DensN Av H' l xs := DensN.mono (fun _ _ e => s _ _ e) (fun b _ n e => s _ _ e) l h
theorem _root_.L2.DenN.kn {Av : Addr → Prop} {H : Hp} {d : D} {v : V} (h : DenN Av H d v) : Kn H v := by
  cases d with
  | fl x =>
    obtain ⟨rfl, f⟩ := h
    cases v <;> first | trivial | exact absurd (show false = true from f) Bool.false_ne_true
  | tp l => obtain ⟨p, xs, rfl, hp, _⟩ := h; exact .inr ⟨xs, hp⟩
  | ls l => obtain ⟨p, xs, rfl, _, hp, _⟩ := h; exact .inl ⟨xs, hp⟩
theorem _root_.L2.DensN.mem {Av : Addr → Prop} {H : Hp} {l : List D} {xs : List V} (h : DensN Av H l xs) {x : V} (hx : x ∈ xs) : ∃ d, d ∈ l ∧ DenN Av H d x := by
  obtain ⟨i, hi, rfl⟩ := List.mem_iff_getElem.mp hx
  obtain ⟨d, e, q⟩ := DensN.get h (List.getElem?_eq_getElem hi)
  exact ⟨d, List.mem_of_getElem? e, q⟩
theorem _root_.L2.DenN.th {Av : Addr → Prop} {H : Hp} {d : D} {v : V} (h : DenN Av H d v) : Th H v := by
  refine ⟨h.kn, fun p xs e hp x hx => ?_⟩
  subst e
  cases d with
  | fl x => obtain ⟨rfl, f⟩ := h; exact absurd (show false = true from f) Bool.false_ne_true
  | tp l =>
    obtain ⟨q, ys, e, hq, t⟩ := h
    cases e
    rw [hp] at hq
    cases hq
    obtain ⟨d, _, hd⟩ := t.mem hx
    exact hd.kn
  | ls l =>
    obtain ⟨q, ys, e, _, hq, _⟩ := h
    cases e
    rw [hp] at hq
    cases hq
def szD : D → Bool
  | .fl x => inB x 1 9
  | _ => false
theorem szD_of {Av : Addr → Prop} {H : Hp} {d : D} {v : V} (h : DenN Av H d v) : inB v 1 9 = szD d := by
  cases d with
  | fl x => rw [h.1]; rfl
  | tp l => obtain ⟨p, xs, rfl, _⟩ := h; rfl
  | ls l => obtain ⟨p, xs, rfl, _⟩ := h; rfl
def rimD : D → Bool
  | .tp [.fl (.str z)] => decide (z = "mirror" ∨ z = "round")
  | .tp [.fl (.str z), .fl y] => decide (z = "fixed") && inB y 0 1000000000
  | _ => false
theorem inB_ref {p : Addr} {lo hi : Int} : inB (.ref p) lo hi = false := rfl
theorem not_flat_ref {p : Addr} {A : Prop} (f : flatV (.ref p) = true) : A := absurd (show false = true from f) Bool.false_ne_true
theorem rimX_long {x y z : V} {r : List V} : rimX (x :: y :: z :: r) = false := by
  cases x <;> try rfl
  rename_i s
  by_cases h : s = "fixed"
  · subst h; rfl
  · rw [rimX_str h]; rfl
theorem rimX_of {Av : Addr → Prop} {H : Hp} {l : List D} {xs : List V} (h : DensN Av H l xs) : rimX xs = rimD (.tp l) := by
  match l, h with
  | [], h => rw [show xs = [] from h]; rfl
  | [d], h =>
    obtain ⟨x, r, rfl, h1, h2⟩ := h
    cases (show r = [] from h2)
    cases d with
    | fl y =>
      obtain ⟨rfl, f⟩ := h1
      cases x <;> try rfl
      rename_i z
      by_cases hz : z = "fixed"
      · subst hz; decide +kernel
      · rw [rimX_str hz]; rfl
    | tp l => obtain ⟨p, xs, rfl, _⟩ := h1; rfl
    | ls l => obtain ⟨p, xs, rfl, _⟩ := h1; rfl
  | [d, e], h =>
    obtain ⟨x, r, rfl, h1, y, r2, rfl, h3, h4⟩ := h
    cases (show r2 = [] from h4)
    cases d with
    | fl x' =>
      obtain ⟨rfl, f⟩ := h1
      cases x with
      | str z =>
        by_cases hz : z = "fixed"
        · subst hz
          cases e with
          | fl y' => obtain ⟨rfl, _⟩ := h3; exact (Bool.true_and _).symm
          | tp l => obtain ⟨p, xs, rfl, _⟩ := h3; rfl
          | ls l => obtain ⟨p, xs, rfl, _⟩ := h3; rfl
        · rw [rimX_str hz]
          cases e with
          | fl y' => show (false && _) = (decide (z = "fixed") && _); rw [decide_eq_false hz]; rfl
          | tp l => rfl
          | ls l => rfl
      | _ => cases e <;> rfl
    | tp l => obtain ⟨p, xs, rfl, _⟩ := h1; rfl
    | ls l => obtain ⟨p, xs, rfl, _⟩ := h1; rfl
  | d :: e :: f :: l, h =>
    obtain ⟨x, r, rfl, h1, y, r2, rfl, h3, z, r3, rfl, _⟩ := h
    rw [rimX_long]
    cases d <;> try rfl
    rename_i x'
    cases x' <;> (try rfl)
    cases e <;> rfl
theorem rimD_of {Av : Addr → Prop} {H : Hp} {d : D} {v : V} {b : Bool} (h : DenN Av H d v) (r : RimR H v b) : b = rimD d := by
  rcases r with ⟨p, xs, rfl, e, rfl⟩ | ⟨n, rfl⟩
  · cases d with
    | fl x => obtain ⟨rfl, f⟩ := h; exact not_flat_ref f
    | tp l =>
      obtain ⟨q, ys, z, hq, t⟩ := h
      cases z
      rw [e] at hq
      cases hq
      exact rimX_of t
    | ls l =>
      obtain ⟨q, ys, z, _, hq, t⟩ := h
      cases z
      rw [e] at hq
      cases hq
  · cases d with
    | fl x => cases x <;> rfl
    | tp l => obtain ⟨q, ys, rfl, hq, t⟩ := h; exact absurd hq (n q ys rfl)
    | ls l => rfl
/-- what becomes of sizes and rims: the first line that is none -/
def firstBad : List D → List D → Nat → Option Nat
  | d :: l, e :: m, i => if szD d && rimD e then firstBad l m (i + 1) else some i
  | _, _, _ => none
def intD : D → Int
  | .fl (.int n) => n
  | _ => 0
def prodD (l : List D) : Int := prodL (l.map intD)
def lenB (l m : List D) : Bool := decide (1 ≤ l.length) && decide (l.length ≤ 3) && decide (m.length = l.length)
def fate (l m : List D) : Option V := if lenB l m then (match firstBad l m 0 with | some i => some (.int (i : Nat)) | none => if 40 < prodD l then some .non else none) else some .non
theorem firstBad_some : ∀ {l m : List D} {i k : Nat}, firstBad l m i = some k → i ≤ k ∧ (∀ j, j < k - i → ∃ d e, l[j]? = some d ∧ m[j]? = some e ∧ szD d = true ∧ rimD e = true) ∧ ∃ d e, l[k - i]? = some d ∧ m[k - i]? = some e ∧ (szD d = false ∨ rimD e = false)
  | [], m, i, k, h => by simp [firstBad] at h
  | _ :: _, [], i, k, h => by simp [firstBad] at h
  | d :: l, e :: m, i, k, h => by
    rw [firstBad] at h
    by_cases hb : (szD d && rimD e) = true
    · rw [if_pos hb] at h
      obtain ⟨h1, h2, h3⟩ := firstBad_some h
      rw [Bool.and_eq_true] at hb
      refine ⟨by omega, fun j hj => ?_, ?_⟩
      · cases j with
        | zero => exact ⟨d, e, rfl, rfl, hb.1, hb.2⟩
        | succ j => simpa using h2 j (by omega)
      · obtain ⟨t, ht⟩ : ∃ t, k - i = t + 1 := ⟨k - i - 1, by omega⟩
        rw [ht]
        have : k - (i + 1) = t := by omega
        rw [this] at h3
        simpa using h3
    · rw [if_neg hb] at h
      cases h
      refine ⟨Nat.le_refl _, fun j hj => by omega, d, e, by simp, by simp, ?_⟩
      rw [Bool.and_eq_true, not_and] at hb
      cases hs : szD d with
      | false => exact .inl rfl
      | true => right; cases hr : rimD e with | false => rfl | true => exact absurd hr (hb hs)
theorem firstBad_none : ∀ {l m : List D} {i : Nat}, m.length = l.length → firstBad l m i = none → ∀ j, j < l.length → ∃ d e, l[j]? = some d ∧ m[j]? = some e ∧ szD d = true ∧ rimD e = true
  | [], m, i, _, h, j, hj => by simp at hj
  | _ :: _, [], i, hl, h, j, hj => by simp at hl
  | d :: l, e :: m, i, hl, h, j, hj => by
    rw [firstBad] at h
    by_cases hb : (szD d && rimD e) = true
    · rw [if_pos hb] at h
      rw [Bool.and_eq_true] at hb
      cases j with
      | zero => exact ⟨d, e, rfl, rfl, hb.1, hb.2⟩
      | succ j => simpa using firstBad_none (by simpa using hl) h j (by simpa using hj)
    · rw [if_neg hb] at h
      cases h
end K1
namespace K1
open PySem PyProof.Rows L2 G3
section
variable {Av : Addr → Prop} {H : Hp} {l m : List D} {xs ys : List V}
theorem len_iff (hl : DensN Av H l xs) (hm : DensN Av H m ys) : LenOk xs ys ↔ lenB l m = true := by
  unfold LenOk lenB
  rw [← hl.length, ← hm.length, Bool.and_eq_true, Bool.and_eq_true, decide_eq_true_eq, decide_eq_true_eq, decide_eq_true_eq]
  exact ⟨fun ⟨x, y, z⟩ => ⟨⟨x, y⟩, z⟩, fun ⟨⟨x, y⟩, z⟩ => ⟨x, y, z⟩⟩
theorem line_ok (hl : DensN Av H l xs) (hm : DensN Av H m ys) {i : Nat} (h : LineOk H xs ys i) : ∃ d e, l[i]? = some d ∧ m[i]? = some e ∧ szD d = true ∧ rimD e = true := by
  obtain ⟨x, y, e1, e2, h1, h2⟩ := h
  obtain ⟨d, q1, d1⟩ := hl.get e1
  obtain ⟨e, q2, d2⟩ := hm.get e2
  exact ⟨d, e, q1, q2, by rw [← szD_of d1]; exact h1, (rimD_of d2 h2).symm⟩
theorem line_bad (hl : DensN Av H l xs) (hm : DensN Av H m ys) {i : Nat} (h : LineBad H xs ys i) : ∃ d e, l[i]? = some d ∧ m[i]? = some e ∧ (szD d = false ∨ rimD e = false) := by
  obtain ⟨x, y, e1, e2, h1⟩ := h
  obtain ⟨d, q1, d1⟩ := hl.get e1
  obtain ⟨e, q2, d2⟩ := hm.get e2
  refine ⟨d, e, q1, q2, ?_⟩
  rcases h1 with h1 | h1
  · exact .inl (by rw [← szD_of d1]; exact h1)
  · exact .inr (rimD_of d2 h1).symm
theorem no_both {d e : D} (h : szD d = true ∧ rimD e = true) (h' : szD d = false ∨ rimD e = false) : False := by
  rcases h' with z | z
  · rw [h.1] at z; cases z
  · rw [h.2] at z; cases z
theorem firstBad_is {i : Nat} (hlen : m.length = l.length) (ok : ∀ j, j < i → ∃ d e, l[j]? = some d ∧ m[j]? = some e ∧ szD d = true ∧ rimD e = true) (bad : ∃ d e, l[i]? = some d ∧ m[i]? = some e ∧ (szD d = false ∨ rimD e = false)) : firstBad l m 0 = some i := by
  obtain ⟨d, e, q1, q2, hb⟩ := bad
  cases hf : firstBad l m 0 with
  | none =>
    obtain ⟨d', e', p1, p2, p3⟩ := firstBad_none hlen hf i (List.getElem?_eq_some_iff.mp q1).1
    rw [q1] at p1; rw [q2] at p2; cases p1; cases p2
    exact (no_both p3 hb).elim
  | some k =>
    obtain ⟨_, h2, d', e', p1, p2, p3⟩ := firstBad_some hf
    rw [Nat.sub_zero] at p1 p2 h2
    rcases Nat.lt_trichotomy k i with hk | rfl | hk
    · obtain ⟨d2, e2, r1, r2, r3⟩ := ok k hk
      rw [r1] at p1; rw [r2] at p2; cases p1; cases p2
      exact (no_both r3 p3).elim
    · rfl
    · obtain ⟨d2, e2, r1, r2, r3⟩ := h2 i hk
      rw [r1] at q1; rw [r2] at q2; cases q1; cases q2
      exact (no_both r3 hb).elim
theorem firstBad_all (ok : ∀ j, j < l.length → ∃ d e, l[j]? = some d ∧ m[j]? = some e ∧ szD d = true ∧ rimD e = true) : firstBad l m 0 = none := by
  cases hf : firstBad l m 0 with
  | none => rfl
  | some k =>
    obtain ⟨_, _, d', e', p1, p2, p3⟩ := firstBad_some hf
    rw [Nat.sub_zero] at p1 p2
    obtain ⟨d2, e2, r1, r2, r3⟩ := ok k (List.getElem?_eq_some_iff.mp p1).1
    rw [r1] at p1; rw [r2] at p2; cases p1; cases p2
    exact (no_both r3 p3).elim
theorem dens_ints : ∀ {ns : List Int} {l : List D}, DensN Av H l (ns.map V.int) → l = ns.map fun n => .fl (.int n)
  | [], l, h => by
    cases l with
    | nil => rfl
    | cons d l => obtain ⟨x, r, z, _⟩ := h; cases z
  | n :: ns, l, h => by
    cases l with
    | nil => cases (show V.int n :: ns.map V.int = [] from h)
    | cons d l =>
      obtain ⟨x, r, z, h1, h2⟩ := h
      cases z
      rw [dens_ints h2]
      cases d with
      | fl y => rw [← h1.1]; rfl
      | tp l => obtain ⟨p, xs, z, _⟩ := h1; cases z
      | ls l => obtain ⟨p, xs, z, _⟩ := h1; cases z
theorem prod_ints (ns : List Int) : prodD (ns.map fun n => D.fl (.int n)) = prodL ns := by
  unfold prodD
  rw [List.map_map, show (intD ∘ fun n => D.fl (.int n)) = id from rfl, List.map_id]
theorem fate_refd (hl : DensN Av H l xs) (hm : DensN Av H m ys) {v : V} (h : Refd H xs ys v) : fate l m = some v := by
  unfold fate
  rcases h with ⟨n, rfl⟩ | ⟨lo, i, pr, bad, rfl⟩ | ⟨⟨lo, al⟩, ⟨ns, rfl, ok, big⟩, rfl⟩
  · rw [if_neg (fun z => n ((len_iff hl hm).mpr z))]
  · have hlen : m.length = l.length := by rw [hl.length, hm.length]; exact lo.2.2
    rw [if_pos ((len_iff hl hm).mp lo), firstBad_is hlen (fun j hj => line_ok hl hm (pr j hj)) (line_bad hl hm bad)]
  · rw [if_pos ((len_iff hl hm).mp lo), firstBad_all (fun j hj => line_ok hl hm (al j (by rw [← hl.length]; exact hj)))]
    show (if 40 < prodD l then some V.non else none) = some .non
    rw [dens_ints hl, prod_ints, if_pos big]
theorem fate_made (hl : DensN Av H l xs) (hm : DensN Av H m ys) {ns : List Int} (h : Made H xs ys ns) : fate l m = none := by
  obtain ⟨⟨lo, al⟩, rfl, ok, small⟩ := h
  unfold fate
  rw [if_pos ((len_iff hl hm).mp lo), firstBad_all (fun j hj => line_ok hl hm (al j (by rw [← hl.length]; exact hj)))]
  show (if 40 < prodD l then some V.non else none) = none
  rw [dens_ints hl, prod_ints, if_neg (by omega)]
end
/-- what is told of it -/
def told (l m : List D) : D := match fate l m with
  | some v => .tp [.fl (.str "refused"), .fl v]
  | none => .tp [.fl (.str "made"), .ls l, .ls m]
/-! ### odd things -/
def spOdd : Sp := fun vs H Q _ => ∃ a : Addr, vs = [.ref a] ∧ WellAt H a ∧ ∀ (v : V) (d : D) (H' : Hp), Kp a H H' → WellAt H' a → DenN (fun b => H b ≠ none) H' d v → d.dep ≤ 2 → Q v H'
theorem Kp.none {a : Addr} {H H' : Hp} (k : Kp a H H') (w : WellAt H' a) {b : Addr} (h : H' b = none) : H b = none := by
  cases e : H b with
  | none => rfl
  | some o =>
    by_cases z : b = a
    · subst z; obtain ⟨x, y, z, e'⟩ := w; rw [h] at e'; cases e'
    · rw [k b o e z] at h; cases h
section
variable {P : Program} {w : World} {K : PySem.W.Frag} {mg : Str → Option Value} {base : Heap}
abbrev NOddS : List Str := ["_law_well_here", "_law_far"]
theorem scOddS : FnScope ["_law_well_here", "_law_far"] ["_law_well_here"] (defScope sOddS) := ⟨rfl, rfl, rfl, by decide +kernel, rfl, by decide +kernel, by decide +kernel⟩
theorem ok_oddS {f : Addr} {fd : FuncData} (F : Fun K "_law_odd_size" "_law_odd_size" sOddS f fd) (c_draw : Cal P w K mg base CX0 1 "_law_draw" ["_law_well_here", "_law_most"] spDraw) : FnOk P w K mg base CX0 2 f fd ["_law_well_here"] spOdd := by
  refine F.ok scOddS (fun vs H Q E h => ?_) (fun cdv A outer s H vs Q E hr h => ?_)
  · obtain ⟨a, rfl, _⟩ := h
    rfl
  · obtain ⟨a, rfl, wa, q⟩ := h
    refine ⟨_, (pss_cons (ps_set (i := 1) scOddS.nd rfl (Or.inl rfl) (pe_op op_add pe_int (pe_c c_draw (hr.mono (by decide)) rfl pass0 (pa_cons (pv 0) (pa_cons (pe_op op_pow pe_int pe_int) pa_nil))))) (pss_one (ps_ret (pe_ix ix_list (pe_lst (pa_cons pe_int (pa_cons pe_int (pa_cons (pe_un un_neg pe_int) (pa_cons (pv 1) (pa_cons (pe_un un_neg (pv 1)) (pa_cons pe_bl (pa_cons pe_non (pa_cons pe_str (pa_cons (pe_lst (pa_cons pe_int pa_nil)) (pa_cons (pe_tup (pa_cons pe_int pa_nil)) pa_nil))))))))))) (pe_c c_draw (hr.mono (by decide)) rfl pass0 (pa_cons (pv 0) (pa_cons pe_int pa_nil))) (fun _ _ => rfl))))), ?_⟩
    refine ⟨_, rfl, _, _, rfl, rfl, ⟨by decide, by decide, by decide⟩, a, _, rfl, wa, by decide, by decide, fun far H1 _ _ k1 w1 => ?_⟩
    refine ⟨_, _, rfl, rfl, ?_⟩
    refine ⟨_, rfl, _, rfl, _, rfl, _, rfl, (by show 1 ≤ sizeLine; decide), fun l1 n1 => ?_⟩
    generalize g2 : upd _ l1 _ = H2
    obtain ⟨s2, e2⟩ := new_of n1 g2
    refine ⟨(by show 1 ≤ sizeLine; decide), fun t1 n2 => ?_⟩
    generalize g3 : upd _ t1 _ = H3
    obtain ⟨s3, e3⟩ := new_of n2 g3
    refine ⟨(by show 10 ≤ sizeLine; decide), fun l2 n3 => ?_⟩
    generalize g4 : upd _ l2 _ = H4
    obtain ⟨s4, e4⟩ := new_of n3 g4
    have s24 := s2.trans (s3.trans s4)
    have ne1 : l1 ≠ a := by
      obtain ⟨x, y, z, e⟩ := w1
      exact Ne.symm (ne_of_none e n1)
    have ne2 : l2 ≠ a := by
      obtain ⟨x, y, z, e⟩ := w1
      exact Ne.symm (ne_of_none ((s2.trans s3) _ _ e) n3)
    have w4 : WellAt H4 a := by
      obtain ⟨x, y, z, e⟩ := w1
      exact ⟨x, y, z, s24 _ _ e⟩
    refine ⟨_, rfl, a, _, rfl, w4, by decide, by decide, fun n H5 h0 h10 k5 w5 => ?_⟩
    have k15 : Kp a H H5 := (k1.same s24).trans k5
    have m1 : ¬ (H l1 ≠ none) := fun z => z (k1.none w1 n1)
    have d1 : DenN (fun b => H b ≠ none) H5 (.ls [.fl (.int 3)]) (.ref l1) := ⟨l1, _, rfl, m1, k5 _ _ ((s3.trans s4) _ _ e2) ne1, DensN.one (.fl)⟩
    have d2 : DenN (fun b => H b ≠ none) H5 (.tp [.fl (.int 3)]) (.ref t1) := ⟨t1, _, rfl, k5.tup w4 (s4 _ _ e3), DensN.one (.fl)⟩
    have e5 := k5 _ _ e4 ne2
    have hn : n = 0 ∨ n = 1 ∨ n = 2 ∨ n = 3 ∨ n = 4 ∨ n = 5 ∨ n = 6 ∨ n = 7 ∨ n = 8 ∨ n = 9 := by omega
    rcases hn with rfl | rfl | rfl | rfl | rfl | rfl | rfl | rfl | rfl | rfl
    · exact ⟨l2, _, _, _, rfl, rfl, SqL.of e5, rfl, q _ (.fl _) H5 k15 w5 ⟨rfl, rfl⟩ (by rw [D.dep]; decide)⟩
    · exact ⟨l2, _, _, _, rfl, rfl, SqL.of e5, rfl, q _ (.fl _) H5 k15 w5 ⟨rfl, rfl⟩ (by rw [D.dep]; decide)⟩
    · exact ⟨l2, _, _, _, rfl, rfl, SqL.of e5, rfl, q _ (.fl _) H5 k15 w5 ⟨rfl, rfl⟩ (by rw [D.dep]; decide)⟩
    · exact ⟨l2, _, _, _, rfl, rfl, SqL.of e5, rfl, q _ (.fl _) H5 k15 w5 ⟨rfl, rfl⟩ (by rw [D.dep]; decide)⟩
    · exact ⟨l2, _, _, _, rfl, rfl, SqL.of e5, rfl, q _ (.fl _) H5 k15 w5 ⟨rfl, rfl⟩ (by rw [D.dep]; decide)⟩
    · exact ⟨l2, _, _, _, rfl, rfl, SqL.of e5, rfl, q _ (.fl _) H5 k15 w5 ⟨rfl, rfl⟩ (by rw [D.dep]; decide)⟩
    · exact ⟨l2, _, _, _, rfl, rfl, SqL.of e5, rfl, q _ (.fl _) H5 k15 w5 ⟨rfl, rfl⟩ (by rw [D.dep]; decide)⟩
    · exact ⟨l2, _, _, _, rfl, rfl, SqL.of e5, rfl, q _ (.fl _) H5 k15 w5 ⟨rfl, rfl⟩ (by rw [D.dep]; decide)⟩
    · exact ⟨l2, _, _, _, rfl, rfl, SqL.of e5, rfl, q _ _ H5 k15 w5 d1 (by decide)⟩
    · exact ⟨l2, _, _, _, rfl, rfl, SqL.of e5, rfl, q _ _ H5 k15 w5 d2 (by decide)⟩
end
end K1
namespace K1
open PySem PyProof.Rows L2 G3
section
variable {P : Program} {w : World} {K : PySem.W.Frag} {mg : Str → Option Value} {base : Heap}
def odd1 (z : V) : List D := [.tp [.fl (.str "fixed")], .tp [.fl (.str "fixed"), .fl (.int (-1))], .tp [.fl (.str "fixed"), .fl z], .tp [.fl (.str "fixed"), .fl (.bl true)], .tp [.fl (.str "fixed"), .fl .non], .tp [.fl (.str "fixed"), .fl (.int 1), .fl (.int 1)]]
def odd2 : List D := [.tp [.fl (.str "mirror"), .fl (.int 1)], .tp [.fl (.str "round"), .fl (.int 0)], .tp [.fl (.str "flat")], .tp [], .fl (.str "mirror"), .ls [.fl (.str "round")], .fl .non, .fl (.int 7)]
def odd3 : List D := [.tp [.fl (.str "Round")], .tp [.fl (.str "fixed"), .fl (.str "1")]]
theorem odd1_dep {z : V} : ∀ d ∈ odd1 z, d.dep ≤ 2 := by
  intro x hx
  simp only [odd1, List.mem_cons, List.not_mem_nil, or_false] at hx
  rcases hx with rfl | rfl | rfl | rfl | rfl | rfl <;> simp [D.dep, D.deps]
theorem odd2_dep : ∀ d ∈ odd2, d.dep ≤ 2 := by
  intro x hx
  simp only [odd2, List.mem_cons, List.not_mem_nil, or_false] at hx
  rcases hx with rfl | rfl | rfl | rfl | rfl | rfl | rfl | rfl <;> simp [D.dep, D.deps]
theorem odd3_dep : ∀ d ∈ odd3, d.dep ≤ 2 := by
  intro x hx
  simp only [odd3, List.mem_cons, List.not_mem_nil, or_false] at hx
  rcases hx with rfl | rfl <;> simp [D.dep, D.deps]
abbrev NOddR : List Str := ["_law_well_here", "_law_far", "_law_some"]
theorem scOddR : FnScope ["_law_well_here", "_law_far", "_law_some"] ["_law_well_here"] (defScope sOddR) := ⟨rfl, rfl, rfl, by decide +kernel, rfl, by decide +kernel, by decide +kernel⟩
theorem ok_oddR {f : Addr} {fd : FuncData} (F : Fun K "_law_odd_rim" "_law_odd_rim" sOddR f fd) (c_draw : Cal P w K mg base CX0 1 "_law_draw" ["_law_well_here", "_law_most"] spDraw) : FnOk P w K mg base CX0 2 f fd ["_law_well_here"] spOdd := by
  refine F.ok scOddR (fun vs H Q E h => ?_) (fun cdv A outer s H vs Q E hr h => ?_)
  · obtain ⟨a, rfl, _⟩ := h
    rfl
  · obtain ⟨a, rfl, wa, q⟩ := h
    refine ⟨_, (pss_cons (ps_set (i := 1) scOddR.nd rfl (Or.inl rfl) (pe_op op_add (pe_op op_add (pe_op op_pow pe_int pe_int) pe_int) (pe_c c_draw (hr.mono (by decide)) rfl pass0 (pa_cons (pv 0) (pa_cons (pe_op op_pow pe_int pe_int) pa_nil))))) (pss_cons (ps_set (i := 2) scOddR.nd rfl (Or.inl rfl) (pf_lst (Av := fun b => H b ≠ none) (pf_cons (pf_tup (Av := fun b => H b ≠ none) (pf_cons (pf_c pe_str) pf_nil)) (pf_cons (pf_tup (Av := fun b => H b ≠ none) (pf_cons (pf_c pe_str) (pf_cons pf_neg pf_nil))) (pf_cons (pf_tup (Av := fun b => H b ≠ none) (pf_cons (pf_c pe_str) (pf_cons (pf_v (pv 1)) pf_nil))) (pf_cons (pf_tup (Av := fun b => H b ≠ none) (pf_cons (pf_c pe_str) (pf_cons (pf_c pe_bl) pf_nil))) (pf_cons (pf_tup (Av := fun b => H b ≠ none) (pf_cons (pf_c pe_str) (pf_cons (pf_c pe_non) pf_nil))) (pf_cons (pf_tup (Av := fun b => H b ≠ none) (pf_cons (pf_c pe_str) (pf_cons (pf_c pe_int) (pf_cons (pf_c pe_int) pf_nil)))) pf_nil)))))))) (pss_cons (ps_set (i := 2) scOddR.nd rfl (Or.inl rfl) (pe_op op_cat (pv 2) (pf_lst (Av := fun b => H b ≠ none) (pf_cons (pf_tup (Av := fun b => H b ≠ none) (pf_cons (pf_c pe_str) (pf_cons (pf_c pe_int) pf_nil))) (pf_cons (pf_tup (Av := fun b => H b ≠ none) (pf_cons (pf_c pe_str) (pf_cons (pf_c pe_int) pf_nil))) (pf_cons (pf_tup (Av := fun b => H b ≠ none) (pf_cons (pf_c pe_str) pf_nil)) (pf_cons (pf_tup (Av := fun b => H b ≠ none) pf_nil) (pf_cons (pf_c pe_str) (pf_cons (pf_lst (Av := fun b => H b ≠ none) (pf_cons (pf_c pe_str) pf_nil)) (pf_cons (pf_c pe_non) (pf_cons (pf_c pe_int) pf_nil))))))))))) (pss_cons (ps_set (i := 2) scOddR.nd rfl (Or.inl rfl) (pe_op op_cat (pv 2) (pf_lst (Av := fun b => H b ≠ none) (pf_cons (pf_tup (Av := fun b => H b ≠ none) (pf_cons (pf_c pe_str) pf_nil)) (pf_cons (pf_tup (Av := fun b => H b ≠ none) (pf_cons (pf_c pe_str) (pf_cons (pf_c pe_str) pf_nil))) pf_nil))))) (pss_one (ps_ret (pe_ix ix_list (pv 2) (pe_c c_draw (hr.mono (by decide)) rfl pass0 (pa_cons (pv 0) (pa_cons pe_int pa_nil))) (fun _ _ => rfl)))))))), ?_⟩
    refine ⟨_, _, rfl, rfl, ⟨by decide, by decide, by decide⟩, _, _, rfl, rfl, _, rfl, _, _, rfl, rfl, ⟨by decide, by decide, by decide⟩, a, _, rfl, wa, by decide, by decide, fun far H1 _ _ k1 w1 => ?_⟩
    refine ⟨_, _, rfl, rfl, ?_⟩
    have av1 : ∀ b, H b ≠ none → H1 b ≠ none := fun b hb z => hb (k1.none w1 z)
    have wa0 : H a ≠ none := by obtain ⟨x, y, z, e⟩ := wa; rw [e]; intro q; cases q
    obtain ⟨wx, wy, wz, ew⟩ := w1
    refine ⟨.ls (odd1 (.int (10 ^ (9 : Int).toNat + 1 + far))), rfl, av1, fun v1 H2 s2 d1 => ?_⟩
    have ew2 := s2 _ _ ew
    have av2 := fun b hb => some_of_same s2 (av1 b hb)
    refine ⟨_, rfl, .ls odd2, rfl, av2, fun v2 H3 s3 d2 => ?_⟩
    obtain ⟨p1, xs1, rfl, n1, e1, t1⟩ := d1
    obtain ⟨p2, xs2, rfl, n2, e2, t2⟩ := d2
    have ew3 := s3 _ _ ew2
    have l1 : 6 = xs1.length := t1.length
    have l2 : 8 = xs2.length := t2.length
    refine ⟨p1, p2, _, _, rfl, rfl, s3 _ _ e1, e2, ?_, fun p3 m3 => ?_⟩
    · rw [← l1, ← l2]; decide
    generalize g4 : upd _ p3 _ = H4
    obtain ⟨s4, e4⟩ := new_of m3 g4
    have ew4 := s4 _ _ ew3
    have t4 := (t1.same (s3.trans s4)).app (t2.same s4)
    have av4 := fun b hb => some_of_same (s3.trans s4) (av2 b hb)
    refine ⟨_, rfl, .ls odd3, rfl, av4, fun v5 H5 s5 d5 => ?_⟩
    obtain ⟨p5, xs5, rfl, n5, e5, t5⟩ := d5
    have ew5 := s5 _ _ ew4
    have l5 : 2 = xs5.length := t5.length
    refine ⟨p3, p5, _, _, rfl, rfl, s5 _ _ e4, e5, ?_, fun p6 m6 => ?_⟩
    · rw [List.length_append, ← l1, ← l2, ← l5]; decide
    generalize g6 : upd _ p6 _ = H6
    obtain ⟨s6, e6⟩ := new_of m6 g6
    have t6 := (t4.same (s5.trans s6)).app (t5.same s6)
    have w6 : WellAt H6 a := ⟨_, _, _, s6 _ _ ew5⟩
    have n6 : p6 ≠ a := Ne.symm (ne_of_none ew5 m6)
    refine ⟨_, rfl, _, rfl, a, _, rfl, w6, by decide, by decide, fun n H7 h0 h16 k7 w7 => ?_⟩
    have t7 := t6.kp wa0 k7 w6
    have k : Kp a H H7 := ((((((k1.same s2).same s3).same s4).same s5).same s6)).trans k7
    obtain ⟨j, rfl⟩ : ∃ j : Nat, n = (j : Int) := ⟨n.toNat, by omega⟩
    have hj : j < (xs1 ++ xs2 ++ xs5).length := by rw [List.length_append, List.length_append]; omega
    have ej : (xs1 ++ xs2 ++ xs5)[j]? = some ((xs1 ++ xs2 ++ xs5)[j]) := List.getElem?_eq_getElem hj
    obtain ⟨d, ed, dd⟩ := t7.get ej
    refine ⟨p6, _, _, _, rfl, rfl, SqL.of (k7 _ _ e6 n6), atI_nat ej, q _ d H7 k w7 dd ?_⟩
    rcases List.mem_append.mp (List.mem_of_getElem? ed) with hm | hm
    · rcases List.mem_append.mp hm with hm | hm
      · exact odd1_dep d hm
      · exact odd2_dep d hm
    · exact odd3_dep d hm
end
end K1
namespace K1
open PySem PyProof.Rows L2 G3
section
variable {P : Program} {w : World} {K : PySem.W.Frag} {mg : Str → Option Value} {base : Heap}
abbrev NGood : List Str := ["_law_rim_here"]
theorem scGood : FnScope ["_law_rim_here"] ["_law_rim_here"] (defScope sGood) := ⟨rfl, rfl, rfl, by decide +kernel, rfl, by decide +kernel, by decide +kernel⟩
/-- what is told of a rim -/
def spGood : Sp := fun vs H Q _ => ∃ (v : V) (d : D), vs = [v] ∧ DenN nA H d v ∧ d.dep ≤ 2 ∧ ∀ H', Same H H' → Q (.bl (rimD d)) H'
theorem hu_of2 {A : Around} {k : Nat} (hr : Room k A) : A.units + 101 < cLine := by have := hr.un; omega
theorem eq_str {d : D} {z : Str} : d.eq (.fl (.str z)) = true ↔ d = .fl (.str z) := by
  constructor
  · intro h
    cases d with
    | fl x =>
      simp only [D.eq] at h
      cases x with
      | str y => rw [show y = z from eq_of_beq h]
      | _ => exact absurd (show false = true from h) Bool.false_ne_true
    | tp l => simp [D.eq] at h
    | ls l => simp [D.eq] at h
  · rintro rfl
    simp only [D.eq]
    exact beq_self_eq_true z
theorem eq_word {d : D} {z : Str} : d.eq (.tp [.fl (.str z)]) = true ↔ d = .tp [.fl (.str z)] := by
  constructor
  · intro h
    match d, h with
    | .fl x, h => simp [D.eq] at h
    | .ls l, h => simp [D.eq] at h
    | .tp [], h => simp [D.eq, D.eqs] at h
    | .tp [.fl x], h =>
      simp only [D.eq, D.eqs, Bool.and_true] at h
      cases x with
      | str y => rw [show y = z from eq_of_beq h]
      | _ => exact absurd (show false = true from h) Bool.false_ne_true
    | .tp [.tp l], h => simp [D.eq, D.eqs] at h
    | .tp [.ls l], h => simp [D.eq, D.eqs] at h
    | .tp (x :: y :: l), h => simp [D.eq, D.eqs] at h
  · rintro rfl
    simp only [D.eq, D.eqs, Bool.and_true]
    exact beq_self_eq_true z
theorem ok_good {f : Addr} {fd : FuncData} (F : Fun K "_law_good_rim" "_law_good_rim" sGood f fd) (T : Txt K mg) : FnOk P w K mg base CX0 1 f fd ["_law_rim_here"] spGood := by
  refine F.ok scGood (fun vs H Q E h => ?_) (fun cdv A outer s H vs Q E hr h => ?_)
  · obtain ⟨v, d, rfl, _⟩ := h
    rfl
  · obtain ⟨v, d, rfl, hd, hdep, q⟩ := h
    have hu : (cxOf CX0 P w K mg base ["_law_rim_here"] "_law_good_rim" (defScope sGood) f cdv A outer s H E).nox.A.units + 101 < cLine := hu_of2 hr
    refine ⟨_, (pss_cons (ps_if (PW.pt (pw_or (pt_cmpR (op_eqD hu) (pv 0) (pe_tup (pa_cons pe_str pa_nil)) (nomark _)) (pw_or1 (pt_cmpR (op_eqD hu) (pv 0) (pe_tup (pa_cons pe_str pa_nil)) (nomark _))))) (pss_one (ps_ret pe_bl)) pss_nil) (pss_cons (ps_if (PW.pt (pw_or (pt_not (pt_val (pe_callB call_isinst rfl T.isinstance boot_isinstance (pa_cons (pv 0) (pa_cons (pe_ty rfl T.tuple boot_tuple) pa_nil))))) (pw_or (pt_cmpR op_ne (pe_callB call_len_seq (by rfl) T.len PySem.boot_len (pa_cons (pv 0) pa_nil)) pe_int (nomark _)) (pw_or1 (pt_cmpR (op_neD hu) (pe_ix ix_tup (pv 0) pe_int (fun _ _ => rfl)) pe_str (nomark _)))))) (pss_one (ps_ret pe_bl)) pss_nil) (pss_one (ps_ret (pe_and (pe_callB call_isinst rfl T.isinstance boot_isinstance (pa_cons (pe_ix ix_tup (pv 0) pe_int (fun _ _ => rfl)) (pa_cons (pe_ty rfl T.int boot_int) pa_nil))) (pe_and (pe_not (pe_callB call_isinst rfl T.isinstance boot_isinstance (pa_cons (pe_ix ix_tup (pv 0) pe_int (fun _ _ => rfl)) (pa_cons (pe_ty rfl T.bool boot_bool) pa_nil)))) (pe_one (pe_chain op_le op_le pe_int (pe_ix ix_tup (pv 0) pe_int (fun _ _ => rfl)) (pe_op op_pow pe_int pe_int))))))))), ?_⟩
    refine ⟨_, rfl, by show 1 ≤ sizeLine; decide, fun t1 n1 => ?_⟩
    generalize g1 : upd _ t1 _ = H1
    obtain ⟨s1, e1⟩ := new_of n1 g1
    have D1 : DenN nA H1 (.tp [.fl (.str "mirror")]) (.ref t1) := ⟨t1, _, rfl, e1, .one .fl⟩
    refine ⟨d, _, (hd.same s1).den K, D1.den K, ?_, _, rfl, ?_⟩
    · simp only [D.dep, D.deps]; omega
    by_cases h1 : d = .tp [.fl (.str "mirror")]
    · rw [eq_word.mpr h1]
      refine iteT (iteT ?_)
      have := q H1 s1
      rw [h1] at this
      exact this
    · rw [Bool.eq_false_iff.mpr (fun z => h1 (eq_word.mp z))]
      refine iteF ?_
      refine ⟨_, rfl, by show 1 ≤ sizeLine; decide, fun t2 n2 => ?_⟩
      generalize g2 : upd _ t2 _ = H2
      obtain ⟨s2, e2⟩ := new_of n2 g2
      have s12 := s1.trans s2
      have D2 : DenN nA H2 (.tp [.fl (.str "round")]) (.ref t2) := ⟨t2, _, rfl, e2, .one .fl⟩
      refine ⟨d, _, (hd.same s12).den K, D2.den K, ?_, _, rfl, ?_⟩
      · simp only [D.dep, D.deps]; omega
      by_cases h2 : d = .tp [.fl (.str "round")]
      · rw [eq_word.mpr h2]
        refine iteT ?_
        have := q H2 s12
        rw [h2] at this
        exact this
      · rw [Bool.eq_false_iff.mpr (fun z => h2 (eq_word.mp z))]
        refine iteF ?_
        have hd2 := hd.same s12
        obtain ⟨ty, ht, _, _, k3⟩ := tyInt (K := K) hd2.kn
        refine ⟨_, rfl, _, _, _, _, rfl, ht, k3, _, rfl, ?_⟩
        have q2 := q H2 s12
        cases d with
        | fl x =>
          obtain ⟨rfl, fx⟩ := hd
          have : tTu H2 v = false := by cases v <;> first | rfl | exact not_flat_ref fx
          rw [this]
          refine iteT (iteT ?_)
          have e : rimD (.fl v) = false := by cases v <;> rfl
          rw [e] at q2
          exact q2
        | ls l =>
          obtain ⟨p, xs, rfl, np, hp, _⟩ := hd2
          have : tTu H2 (.ref p) = false := by unfold tTu; simp only [hp]
          rw [this]
          exact iteT (iteT q2)
        | tp l =>
          obtain ⟨p, xs, rfl, hp, t⟩ := hd2
          have : tTu H2 (.ref p) = true := by unfold tTu; simp only [hp]
          rw [this]
          refine iteF ?_
          refine ⟨_, rfl, p, _, rfl, .inr (SqT.of hp), rfl, _, rfl, ?_⟩
          have lx := t.length
          rcases l with _ | ⟨d0, _ | ⟨d1, _ | ⟨d2, l⟩⟩⟩
          case nil =>
            cases (show xs = [] from t)
            exact iteT (iteT q2)
          case cons.nil =>
            obtain ⟨x, r, rfl, t1, t2⟩ := t
            cases (show r = [] from t2)
            refine iteT (iteT ?_)
            have e : rimD (.tp [d0]) = false := by
              cases d0 with
              | fl y =>
                cases y with
                | str z =>
                  refine decide_eq_false ?_
                  rintro (rfl | rfl)
                  · exact h1 rfl
                  · exact h2 rfl
                | _ => rfl
              | _ => rfl
            rw [e] at q2
            exact q2
          case cons.cons.cons =>
            obtain ⟨x, r, rfl, t1, y, r2, rfl, t2, z, r3, rfl, t3, t4⟩ := t
            have c : (!decide (V.int (((x :: y :: z :: r3).length : Nat) : Int) = V.int 2)) = true := by
              rw [decide_eq_false (fun z => by have := V.int.inj z; simp at this; omega)]; rfl
            rw [c]
            refine iteT (iteT ?_)
            have e : rimD (.tp (d0 :: d1 :: d2 :: l)) = false := by
              cases d0 <;> try rfl
              rename_i x'
              cases x' <;> (try rfl)
              cases d1 <;> rfl
            rw [e] at q2
            exact q2
          case cons.cons.nil =>
            obtain ⟨x, r, rfl, t1, y, r2, rfl, t2, t3⟩ := t
            cases (show r2 = [] from t3)
            refine iteF ?_
            refine ⟨_, rfl, p, _, _, _, rfl, rfl, SqT.of hp, rfl, d0, .fl (.str "fixed"), t1.den K, ⟨rfl, rfl⟩, ?_, _, rfl, ?_⟩
            · simp only [D.dep, D.deps] at hdep ⊢; omega
            by_cases hf : d0 = .fl (.str "fixed")
            case neg =>
              rw [Bool.eq_false_iff.mpr (fun z => hf (eq_str.mp z))]
              refine iteT ?_
              have e : rimD (.tp [d0, d1]) = false := by
                cases d0 with
                | fl x' =>
                  cases x' with
                  | str z =>
                    cases d1 with
                    | fl y' => show (decide (z = "fixed") && _) = false; rw [decide_eq_false (fun q => hf (by rw [q]))]; rfl
                    | _ => rfl
                  | _ => cases d1 <;> rfl
                | _ => cases d1 <;> rfl
              rw [e] at q2
              exact q2
            subst hf
            rw [eq_str.mpr rfl]
            refine iteF ?_
            obtain ⟨ty1, ht1, k1', k2', _⟩ := tyInt (K := K) t2.kn
            refine ⟨_, rfl, p, _, _, _, rfl, rfl, SqT.of hp, rfl, _, _, _, _, rfl, ht1, k1', _, rfl, ?_⟩
            have no : (∀ n, y ≠ .int n) → Q (.bl false) H2 := fun hy => by
              have e : rimD (.tp [.fl (.str "fixed"), d1]) = false := by
                cases d1 with
                | fl y' =>
                  obtain ⟨rfl, _⟩ := t2
                  cases y with
                  | int n => exact absurd rfl (hy n)
                  | _ => rfl
                | _ => rfl
              rw [e] at q2
              exact q2
            cases y with
            | int n =>
              refine iteT ⟨_, rfl, p, _, _, _, rfl, rfl, SqT.of hp, rfl, _, _, _, _, rfl, ht1, k2', _, rfl, _, rfl, iteT ?_⟩
              have hd1 : d1 = .fl (.int n) := by
                cases d1 with
                | fl y' => rw [t2.1]
                | tp l => obtain ⟨p, xs, z, _⟩ := t2; cases z
                | ls l => obtain ⟨p, xs, z, _⟩ := t2; cases z
              subst hd1
              refine ⟨_, rfl, p, _, _, _, rfl, rfl, SqT.of hp, rfl, _, _, rfl, rfl, _, rfl, ?_⟩
              have q3 : Q (.bl (decide (0 ≤ n ∧ n ≤ 1000000000))) H2 := q2
              by_cases h3 : 0 ≤ n
              · rw [decide_eq_true h3]
                refine iteT ⟨_, _, rfl, rfl, ⟨by decide, by decide, by decide⟩, _, _, rfl, rfl, ?_⟩
                have e : decide (n ≤ 10 ^ (9 : Int).toNat) = decide (0 ≤ n ∧ n ≤ 1000000000) := by
                  rw [show (10 : Int) ^ (9 : Int).toNat = 1000000000 by decide]; simp [h3]
                rw [← e] at q3
                exact q3
              · rw [decide_eq_false h3]
                refine iteF ?_
                rw [decide_eq_false (fun z => h3 z.1)] at q3
                exact q3
            | bl b => exact iteT ⟨_, rfl, p, _, _, _, rfl, rfl, SqT.of hp, rfl, _, _, _, _, rfl, ht1, k2', _, rfl, _, rfl, iteF (no fun n z => by cases z)⟩
            | non => exact iteF (no fun n z => by cases z)
            | str z => exact iteF (no fun n z => by cases z)
            | ref r => exact iteF (no fun n z => by cases z)
            | byt _ => exact t2.kn.elim
            | flt _ => exact t2.kn.elim
            | ty _ => exact t2.kn.elim
end
end K1
namespace K1
open PySem PyProof.Rows L2 G3
theorem in123 (n : Nat) : inV (.int (n : Int)) [.int 1, .int 2, .int 3] = (decide (1 ≤ n) && decide (n ≤ 3)) := by
  unfold inV
  show ((1 == (n : Int)) || ((2 == (n : Int)) || ((3 == (n : Int)) || false))) = _
  rw [Bool.eq_iff_iff]
  simp only [Bool.or_eq_true, beq_iff_eq, Bool.and_eq_true, decide_eq_true_eq, Bool.false_eq_true, or_false]
  omega
theorem firstBad_step {l m : List D} {i : Nat} {d e : D} (h1 : l[i]? = some d) (h2 : m[i]? = some e) (j : Nat) : firstBad (l.drop i) (m.drop i) j = if szD d && rimD e then firstBad (l.drop (i + 1)) (m.drop (i + 1)) (j + 1) else some j := by
  obtain ⟨h1', rfl⟩ := List.getElem?_eq_some_iff.mp h1
  obtain ⟨h2', rfl⟩ := List.getElem?_eq_some_iff.mp h2
  rw [List.drop_eq_getElem_cons h1', List.drop_eq_getElem_cons h2', firstBad]
theorem firstBad_end {m : List D} {i : Nat} : firstBad [] m i = none := by simp [firstBad]
theorem szD_int {d : D} (h : szD d = true) : ∃ n : Int, d = .fl (.int n) ∧ 1 ≤ n ∧ n ≤ 9 := by
  cases d with
  | fl x => obtain ⟨n, rfl, a, b⟩ := inB_int (show inB x 1 9 = true from h); exact ⟨n, rfl, a, b⟩
  | tp l => exact absurd (show false = true from h) Bool.false_ne_true
  | ls l => exact absurd (show false = true from h) Bool.false_ne_true
def spDue : Sp := fun vs H Q _ => ∃ (p q : Addr) (xs ys : List V) (l m : List D), vs = [.ref p, .ref q] ∧ H p = some (.lst xs) ∧ H q = some (.lst ys) ∧ DensN nA H l xs ∧ DensN nA H m ys ∧ (∀ d ∈ m, d.dep ≤ 2) ∧
  ∀ v H', Same H H' → DenN nA H' (told l m) v → Q v H'
section
variable {P : Program} {w : World} {K : PySem.W.Frag} {mg : Str → Option Value} {base : Heap}
abbrev NDue : List Str := ["_law_sizes_here", "_law_rims", "_law_many", "_law_k", "_law_size"]
theorem scDue : FnScope ["_law_sizes_here", "_law_rims", "_law_many", "_law_k", "_law_size"] ["_law_sizes_here", "_law_rims"] (defScope sDue) := ⟨rfl, rfl, rfl, by decide +kernel, rfl, by decide +kernel, by decide +kernel⟩
theorem ok_due {f : Addr} {fd : FuncData} (F : Fun K "_law_due" "_law_due" sDue f fd) (c_good : Cal P w K mg base CX0 1 "_law_good_rim" ["_law_rim_here"] spGood) (T : Txt K mg) : FnOk P w K mg base CX0 2 f fd ["_law_sizes_here", "_law_rims"] spDue := by
  refine F.ok scDue (fun vs H Q E h => ?_) (fun cdv A outer s H vs Q E hr h => ?_)
  · obtain ⟨p, q, xs, ys, l, m, rfl, _⟩ := h
    rfl
  · obtain ⟨p, q, xs, ys, l, m, rfl, hp, hq, dl, dm, hdep, k⟩ := h
    refine ⟨_, (pss_cons (ps_if (PW.pt (pw_or (pt_cmpR op_notIn_seq (pe_callB call_len_seq (by rfl) T.len PySem.boot_len (pa_cons (pv 0) pa_nil)) (pe_tup (pa_cons pe_int (pa_cons pe_int (pa_cons pe_int pa_nil)))) rfl) (pw_or1 (pt_cmpR op_ne (pe_callB call_len_seq (by rfl) T.len PySem.boot_len (pa_cons (pv 1) pa_nil)) (pe_callB call_len_seq (by rfl) T.len PySem.boot_len (pa_cons (pv 0) pa_nil)) (nomark _))))) (pss_one (ps_ret (pe_tup (pa_cons pe_str (pa_cons pe_non pa_nil))))) pss_nil) (pss_cons (ps_set (i := 2) scDue.nd rfl (Or.inl rfl) pe_int) (pss_cons (ps_for PassesOwn.never rfl (pi_enum rfl T.enumerate (pa_cons (pv 0) pa_nil)) (pg_tup rfl (pgs_cons (pg_name (i := 3) scDue.nd rfl (Or.inl rfl)) (pgs_cons (pg_name (i := 4) scDue.nd rfl (Or.inl rfl)) pgs_nil))) (pss_cons (ps_if (PW.pt (pw_or (pt_not (pt_val (pe_callB call_isinst rfl T.isinstance boot_isinstance (pa_cons (pv 4) (pa_cons (pe_ty rfl T.int boot_int) pa_nil))))) (pw_or (pt_val (pe_callB call_isinst rfl T.isinstance boot_isinstance (pa_cons (pv 4) (pa_cons (pe_ty rfl T.bool boot_bool) pa_nil)))) (pw_or1 (pt_not (pt_chain op_lt op_lt pe_int (pv 4) pe_int)))))) (pss_one (ps_ret (pe_tup (pa_cons pe_str (pa_cons (pv 3) pa_nil))))) pss_nil) (pss_cons (ps_if (pt_not (pt_val (pe_c c_good (hr.mono (by decide)) rfl pass0 (pa_cons (pe_ix ix_list (pv 1) (pv 3) (fun _ _ => rfl)) pa_nil)))) (pss_one (ps_ret (pe_tup (pa_cons pe_str (pa_cons (pv 3) pa_nil))))) pss_nil) (pss_one (ps_set (i := 2) scDue.nd rfl (Or.inl rfl) (pe_op op_mul (pv 2) (pv 4))))))) (pss_one (ps_ret (pe_ix ix_list (pe_lst (pa_cons (pe_tup (pa_cons pe_str (pa_cons (pv 0) (pa_cons (pv 1) pa_nil)))) (pa_cons (pe_tup (pa_cons pe_str (pa_cons pe_non pa_nil))) pa_nil))) (pe_callTy call_int1 rfl T.int boot_int (pa_cons (pe_cmpR op_gt (pv 2) pe_int (nomark _)) pa_nil)) (fun _ _ => rfl))))))), ?_⟩
    have ll := dl.length
    have lm := dm.length
    -- a tuple ('refused', v)
    have ref : ∀ (v : V) (H1 : Hp), flatV v = true → Same H H1 → fate l m = some v → ∀ t, H1 t = none → Q (.ref t) (upd H1 t (.tup [.str "refused", v])) := fun v H1 fv s1 e t ht => by
      have s2 := (new_of (o := .tup [.str "refused", v]) ht rfl).1
      refine k _ _ (s1.trans s2) ?_
      unfold told
      rw [e]
      exact ⟨t, _, rfl, upd_same, .cons .fl (.cons ⟨rfl, fv⟩ .nil)⟩
    refine ⟨_, rfl, p, _, rfl, .inl (SqL.of hp), by show 3 ≤ sizeLine; decide, fun t0 n0 => ?_⟩
    generalize g0 : upd _ t0 _ = H0
    obtain ⟨s0, e0⟩ := new_of n0 g0
    refine ⟨t0, _, rfl, .inr (SqT.of e0), rfl, rfl, _, rfl, ?_⟩
    rw [in123]
    have bad : lenB l m = false → ∀ (H1 : Hp), Same H H1 → ∀ D : Ends, D.rt = Q → ∀ σ, tRet (tTup (tCons (tC (.str "refused")) (tCons (tC .non) tNil))) D σ H1 := fun hb H1 s1 D hD σ => by
      refine ⟨by show 2 ≤ sizeLine; decide, fun t ht => ?_⟩
      show D.rt _ _
      rw [hD]
      exact ref _ _ rfl s1 (by unfold fate; rw [hb]; rfl) t ht
    cases h1 : decide (1 ≤ xs.length) && decide (xs.length ≤ 3) with
    | false =>
      refine iteT (iteT (bad ?_ _ s0 _ rfl _))
      unfold lenB
      rw [ll, h1]
      rfl
    | true =>
    refine iteF ?_
    have hq0 := s0 _ _ hq
    have hp0 := s0 _ _ hp
    refine ⟨_, rfl, q, _, rfl, .inl (SqL.of hq0), _, rfl, p, _, rfl, .inl (SqL.of hp0), rfl, _, rfl, ?_⟩
    by_cases h2 : ys.length = xs.length
    case neg =>
      rw [show (!decide (V.int (ys.length : Int) = V.int (xs.length : Int))) = true by rw [decide_eq_false (fun z => h2 (by have := V.int.inj z; omega))]; rfl]
      refine iteT (bad ?_ _ s0 _ rfl _)
      unfold lenB
      rw [ll, lm, decide_eq_false h2, Bool.and_false]
    rw [show (!decide (V.int (ys.length : Int) = V.int (xs.length : Int))) = false by rw [h2]; simp]
    refine iteF ?_
    have lb : lenB l m = true := by
      unfold lenB
      rw [ll, lm, h1, decide_eq_true h2]
      rfl
    have fi : ∀ i, firstBad l m 0 = some i → fate l m = some (.int (i : Nat)) := fun i e => by
      unfold fate
      rw [if_pos lb, e]
    refine ⟨_, rfl, p, rfl, ⟨_, SqL.of hp0⟩, for_enum (K := K) (a := p) (xs := xs) (fun i σ H2 => ∃ (v3 v4 : Option V) (many : Int), σ = [some (.ref p), some (.ref q), some (.int many), v3, v4] ∧ Same H H2 ∧
        firstBad l m 0 = firstBad (l.drop i) (m.drop i) i ∧ many = prodD (l.take i))
      ⟨none, none, _, rfl, s0, rfl, rfl⟩ (fun i σ H2 _ ⟨_, _, _, _, s2, _⟩ => SqL.of (s2 _ _ hp)) ?_ ?_⟩
    · rintro i x σ H2 t hx ⟨v3, v4, many, rfl, s2, fb, hm⟩ ht
      have s3 : Same H (upd H2 t (.tup [.int i, x])) := s2.trans (Same.new ht)
      generalize upd H2 t (.tup [.int i, x]) = H3 at s3
      have hil : i < xs.length := (List.getElem?_eq_some_iff.mp hx).1
      obtain ⟨d, ed, dd⟩ := dl.get hx
      have hy : ys[i]? = some (ys[i]'(by omega)) := List.getElem?_eq_getElem (by omega)
      obtain ⟨e, ee, de⟩ := dm.get hy
      have st := firstBad_step ed ee i
      rw [st] at fb
      have dd3 := dd.same s3
      obtain ⟨ty, ht, k1, k2, _⟩ := tyInt (K := K) dd3.kn
      have out : (szD d && rimD e) = false → ∀ (H4 : Hp), Same H H4 → ∀ D : Ends, D.rt = Q → tRet (tTup (tCons (tC (.str "refused")) (tCons (tVar 3) tNil))) D [some (.ref p), some (.ref q), some (.int many), some (.int i), some x] H4 := fun hb H4 s4 D hD => by
        rw [hb, if_neg Bool.false_ne_true] at fb
        refine ⟨_, rfl, by show 2 ≤ sizeLine; decide, fun t ht => ?_⟩
        show D.rt _ _
        rw [hD]
        exact ref _ _ rfl s4 (fi i fb) t ht
      refine ⟨_, rfl, _, _, _, _, rfl, ht, k1, _, rfl, ?_⟩
      have hz := szD_of dd
      have nosize : inB x 1 9 = false → (szD d && rimD e) = false := fun z => by rw [← hz, z]; rfl
      cases x with
      | int n =>
        refine iteF ⟨_, rfl, _, _, _, _, rfl, ht, k2, _, rfl, iteF ?_⟩
        refine ⟨_, rfl, _, _, rfl, rfl, _, rfl, ?_⟩
        by_cases c1 : (0 : Int) < n
        case neg =>
          rw [decide_eq_false c1]
          exact iteF ⟨_, rfl, iteT (out (nosize (decide_eq_false (fun z => c1 (by omega)))) _ s3 _ rfl)⟩
        rw [decide_eq_true c1]
        refine iteT ⟨_, _, rfl, rfl, _, rfl, ?_⟩
        by_cases c2 : n < (10 : Int)
        case neg =>
          rw [decide_eq_false c2]
          exact iteT (out (nosize (decide_eq_false (fun z => c2 (by omega)))) _ s3 _ rfl)
        rw [decide_eq_true c2]
        refine iteF ?_
        have hs : szD d = true := by rw [← hz]; exact decide_eq_true ⟨by omega, by omega⟩
        refine ⟨_, rfl, _, rfl, q, _, _, _, rfl, rfl, SqL.of (s3 _ _ hq), atI_nat hy, _, e, rfl, de.same s3, hdep e (List.mem_of_getElem? ee), fun H4 s4 => ⟨_, rfl, ?_⟩⟩
        cases hr : rimD e with
        | false => exact iteT (out (by rw [hr, Bool.and_false]) _ (s3.trans s4) _ rfl)
        | true =>
          refine iteF ⟨_, rfl, _, rfl, _, _, rfl, rfl, .inr ⟨by omega, by omega⟩, ?_⟩
          rw [hs, hr, Bool.and_self, if_pos rfl] at fb
          refine ⟨_, _, _, rfl, s3.trans s4, fb, ?_⟩
          have hd : d = .fl (.int n) := by
            obtain ⟨n', rfl, _⟩ := szD_int hs
            rw [V.int.inj dd.1]
          rw [hm, List.take_succ, ed]
          unfold prodD
          rw [List.map_append]
          show _ = prodL (_ ++ [intD d])
          rw [prodL_snoc, hd]
          rfl
      | bl b =>
        refine iteF ⟨_, rfl, _, _, _, _, rfl, ht, k2, _, rfl, iteT (iteT (out (nosize rfl) _ s3 _ rfl))⟩
      | non => exact iteT (iteT (out (nosize rfl) _ s3 _ rfl))
      | str z => exact iteT (iteT (out (nosize rfl) _ s3 _ rfl))
      | ref r => exact iteT (iteT (out (nosize rfl) _ s3 _ rfl))
      | byt _ => exact dd.kn.elim
      | flt _ => exact dd.kn.elim
      | ty _ => exact dd.kn.elim
    · rintro σ H2 ⟨v3, v4, many, rfl, s2, fb, hm⟩
      rw [← ll, List.drop_length, firstBad_end] at fb
      rw [← ll, List.take_length] at hm
      refine ⟨_, rfl, _, rfl, by show 3 ≤ sizeLine; decide, fun t1 n1 => ?_⟩
      generalize g1 : upd _ t1 _ = H3
      obtain ⟨s3, e3⟩ := new_of n1 g1
      refine ⟨by show 2 ≤ sizeLine; decide, fun t2 n2 => ?_⟩
      generalize g2 : upd _ t2 _ = H4
      obtain ⟨s4, e4⟩ := new_of n2 g2
      refine ⟨by show 2 ≤ sizeLine; decide, fun l1 n3 => ?_⟩
      generalize g3 : upd _ l1 _ = H5
      obtain ⟨s5, e5⟩ := new_of n3 g3
      have s := s2.trans (s3.trans (s4.trans s5))
      refine ⟨_, rfl, _, _, rfl, rfl, .inr ⟨_, rfl, ?_⟩⟩
      by_cases big : (40 : Int) < many
      · rw [decide_eq_true big]
        refine ⟨l1, _, _, _, rfl, rfl, SqL.of e5, rfl, k _ _ s ?_⟩
        unfold told fate
        rw [if_pos lb, fb]
        show DenN nA H5 (match (if 40 < prodD l then some V.non else none) with | some v => _ | none => _) _
        rw [← hm, if_pos big]
        exact ⟨t2, _, rfl, s5 _ _ e4, .cons .fl (.cons .fl .nil)⟩
      · rw [decide_eq_false big]
        refine ⟨l1, _, _, _, rfl, rfl, SqL.of e5, rfl, k _ _ s ?_⟩
        unfold told fate
        rw [if_pos lb, fb]
        show DenN nA H5 (match (if 40 < prodD l then some V.non else none) with | some v => _ | none => _) _
        rw [← hm, if_neg big]
        exact ⟨t1, _, rfl, (s4.trans s5) _ _ e3, .cons .fl (.cons ⟨p, xs, rfl, id, s _ _ hp, dl.same s⟩ (.cons ⟨q, ys, rfl, id, s _ _ hq, dm.same s⟩ .nil))⟩
end
end K1
namespace K1
open PySem PyProof.Rows L2 G3
theorem fate_flat {l m : List D} {v : V} (h : fate l m = some v) : flatV v = true := by
  unfold fate at h
  split at h
  · split at h
    · cases h; rfl
    · split at h
      · cases h; rfl
      · cases h
  · cases h; rfl
theorem pe_gcls {X : Cx} {x : Str} {C : Addr} {pos : Pos} (hg : Gl X x) (hm : X.mg x = some (.ref C)) (hd : (x == ("__debug__" : Str)) = false := by decide) : PE X (.Name x pos) (tC (.ref C)) := pe_glob (v := .ref C) hg hm rfl hd
theorem boot_ValueError : bootBuiltins "ValueError" = some (.type "ValueError") := by decide +kernel
/-- what the classes of refusals must have -/
structure Ec (K : PySem.W.Frag) (mg : Str → Option Value) (CG CT C1 C2 C3 : Addr) : Prop where
  mgT : mg "TileError" = some (.ref CT)
  mgG : mg "NoGrid" = some (.ref CG)
  mg1 : mg "NoTerm" = some (.ref C1)
  mg2 : mg "NoJob" = some (.ref C2)
  mg3 : mg "NoText" = some (.ref C3)
  mgV : mg "ValueError" = none
  exm : PySem.W.exmOne K (.ref CG) (.ref CT) = some true
  oth : PySem.W.kitAny K (.ref CG) ([C1, C2, C3].map Value.ref) = some false
  own : PySem.W.kitOne K (.ref CG) (.ref CG) = some true
  val : PySem.W.kitOne K (.ref CG) (.type "ValueError") = some true
  ask : ExcAsk K CG
  hd : PySem.W.hasDictIn K CG = true
  at_ : PySem.W.findIn K (.ref CG) "at" = some none
section
variable {P : Program} {w : World} {K : PySem.W.Frag} {mg : Str → Option Value} {base : Heap}
abbrev NFound : List Str := ["_law_sizes_here", "_law_rims", "_law_grid", "e", "_law_others"]
theorem scFound : FnScope ["_law_sizes_here", "_law_rims", "_law_grid", "e", "_law_others"] ["_law_sizes_here", "_law_rims"] (defScope sFound) := ⟨rfl, rfl, rfl, by decide +kernel, rfl, by decide +kernel, by decide +kernel⟩
theorem ok_found {f C CG CT C1 C2 C3 fi : Addr} {fd fdi : FuncData} (F : Fun K "_law_found" "_law_found" sFound f fd) (Gi : FnOk P w K mg base (CXe P w) 5 fi fdi ["self", "sizes", "rims"] (spInitE CG C)) (Mi : Mk K C fi) (bi : Binds K fdi ["self", "sizes", "rims"] []) (mgC : mg "Grid" = some (.ref C))
    (Z : Ec K mg CG CT C1 C2 C3) (T : Txt K mg) (TC : Cl K C) : FnOk P w K mg base CX0 7 f fd ["_law_sizes_here", "_law_rims"] spDue := by
  refine F.ok scFound (fun vs H Q E h => ?_) (fun cdv A outer s H vs Q E hr h => ?_)
  · obtain ⟨p, q, xs, ys, l, m, rfl, _⟩ := h
    rfl
  · obtain ⟨p, q, xs, ys, l, m, rfl, hp, hq, dl, dm, hdep, k⟩ := h
    refine ⟨_, pss_cons (ps_try (i := 3) rfl rfl rfl Z.mgT scFound.nd rfl rfl rfl
      (fun pins W E' hW => pss_one (ps_set (i := 2) scFound.nd rfl (Or.inl rfl) (pe_make Mi Gi hr rfl mgC bi .nil (passI hW) (pa_cons (pv 0) (pa_cons (pv 1) pa_nil)))))
      (fun e' => pss_cons (ps_set (i := 4) scFound.nd rfl (Or.inl rfl) (pe_callB (r := rIsT K) (call_isTk rfl) rfl T.isinstance boot_isinstance (pa_cons (pv 3) (pa_cons (pe_tup (pa_cons (pe_gcls rfl Z.mg1) (pa_cons (pe_gcls rfl Z.mg2) (pa_cons (pe_gcls rfl Z.mg3) pa_nil)))) pa_nil))))
        (pss_cons (ps_if (PW.pt (pw_or (pt_not (pt_val (pe_callB (r := rIsE K) (call_isEk rfl) rfl T.isinstance boot_isinstance (pa_cons (pv 3) (pa_cons (pe_gcls rfl Z.mgG) pa_nil)))))
          (pw_or (pt_not (pt_val (pe_callB (r := rIsE K) (call_isEk rfl) rfl T.isinstance boot_isinstance (pa_cons (pv 3) (pa_cons (pe_ty rfl Z.mgV boot_ValueError) pa_nil)))))
          (pw_or1 (pt_val (pv 4)))))) (pss_one (ps_ret (pe_tup (pa_cons pe_str (pa_cons pe_non pa_nil))))) pss_nil)
        (pss_one (ps_ret (pe_tup (pa_cons pe_str (pa_cons (pe_excAtK (K := K) rfl (pv 3) rfl) pa_nil))))))))
      (pss_one (ps_ret (pe_tup (pa_cons pe_str (pa_cons (pe_fld (pv 2) rfl) (pa_cons (pe_fld (pv 2) rfl) pa_nil)))))), ?_⟩
    refine ⟨_, rfl, _, rfl, fun x dx nx ndx nex => ?_⟩
    have sm : Same H (upd (upd H dx (.own x)) x (.ins C dx [])) := fun b o hb => by
      rw [upd_ne (ne_of_none hb nx), upd_ne (ne_of_none hb ndx)]
      exact hb
    generalize hHm : upd (upd H dx (.own x)) x (.ins C dx []) = Hm at sm
    have hx : Hm x = some (.ins C dx []) := by rw [← hHm, upd_same]
    have dlm := dl.same sm
    have dmm := dm.same sm
    refine ⟨x, dx, p, q, xs, ys, rfl, hx, sm _ _ hp, sm _ _ hq, fun y hy => (dlm.mem hy).choose_spec.2.kn, fun y hy => (dmm.mem hy).choose_spec.2.th, fun v rv H1 d1 s1 e1 => ?_, fun ns mk H1 p' q' k1 g1 hp1 hq1 np nq npq => ⟨rfl, ?_⟩⟩
    · have fv := fate_refd dlm dmm rv
      have s01 := sm.trans s1
      refine ⟨CG, d1, rfl, rfl, Z.exm, fun e he => ?_⟩
      generalize hH2 : upd H1 e (ExcC e CG d1) = H2
      obtain ⟨s2, e2⟩ := new_of he hH2
      have hd1 := s2 _ _ (show H1 d1 = some (.xd [("at", v)]) from e1)
      refine ⟨_, rfl, by show 3 ≤ sizeLine; decide, fun tp htp => ?_⟩
      generalize hH3 : upd H2 tp _ = H3
      obtain ⟨s3, e3⟩ := new_of htp hH3
      have e2' := s3 _ _ e2
      refine ⟨e, CG, d1, tp, [C1, C2, C3], false, rfl, e2', e3, Z.ask, Z.oth, ?_⟩
      refine ⟨_, rfl, e, CG, d1, .ref CG, CG, true, rfl, e2', Z.ask, .inl ⟨rfl, Z.own⟩, _, rfl, iteF ?_⟩
      refine ⟨_, rfl, e, CG, d1, .ty "ValueError", CG, true, rfl, e2', Z.ask, .inr ⟨_, rfl, Z.val⟩, _, rfl, iteF ?_⟩
      refine ⟨_, rfl, _, rfl, iteF ?_⟩
      refine ⟨_, rfl, e, CG, d1, [("at", v)], v, rfl, e2', s3 _ _ hd1, Z.ask, Z.hd, Z.at_, rfl, by show 2 ≤ sizeLine; decide, fun t ht => ?_⟩
      have s4 := (new_of (o := .tup [.str "refused", v]) ht rfl).1
      refine k _ _ (s01.trans (s2.trans (s3.trans s4))) ?_
      unfold told
      rw [fv]
      exact ⟨t, _, rfl, upd_same, .cons .fl (.cons ⟨rfl, fate_flat fv⟩ .nil)⟩
    · have fv := fate_made dlm dmm mk
      refine ⟨_, rfl, x, C, dx, _, _, rfl, g1, TC.cl, TC.nS, flds_sizes _ _, _, rfl, x, C, dx, _, _, rfl, g1, TC.cl, TC.nR, flds_rims _ _, by show 3 ≤ sizeLine; decide, fun t ht => ?_⟩
      have s01 : Same H H1 := fun b o hb => k1 b o (sm _ _ hb) (ne_of_none hb nx)
      have s4 := (new_of (o := .tup [.str "made", .ref p', .ref q']) ht rfl).1
      have s := s01.trans s4
      refine k _ _ s ?_
      unfold told
      rw [fv]
      exact ⟨t, _, rfl, upd_same, .cons .fl (.cons ⟨p', xs, rfl, id, s4 _ _ hp1, dl.same s⟩ (.cons ⟨q', ys, rfl, id, s4 _ _ hq1, dm.same s⟩ .nil))⟩
end
end K1
namespace K1
open PySem PyProof.Rows L2 G3
/-! ### the law -/
def GridW (C : Addr) (H : Hp) (g : Addr) (ns : List Int) (dx p q : Addr) : Prop := H g = some (.ins C dx (flds p q)) ∧ H p = some (.lst (ns.map V.int)) ∧ ∀ n ∈ ns, OkSize n
def spLinesW (C : Addr) : Sp := fun vs H Q _ => ∃ (g dx p q : Addr) (ns : List Int), vs = [.ref g] ∧ GridW C H g ns dx p q ∧ Q (.int (ns.length : Int)) H
def spManyW (C : Addr) : Sp := fun vs H Q _ => ∃ (g dx p q : Addr) (ns : List Int), vs = [.ref g] ∧ GridW C H g ns dx p q ∧ Q (.int (prodL ns)) H
def spLaw (K : PySem.W.Frag) : Sp := fun vs H Q _ => ∃ (a : Addr) (ns : List Int), vs = [.ref a] ∧ SqL K H a (ns.map V.int) ∧ ∀ H', Q (.bl true) H'
theorem atI0 {α : Type} {x : α} {r : List α} : atI (x :: r) 0 = some x := atI_nat (show (x :: r)[0]? = some x from rfl)
theorem ixN_nat {n j : Nat} (h : j < n) : ixN n (j : Int) = some j := by
  unfold ixN
  rw [if_pos (by omega), if_pos (by omega)]
  simp
theorem passN {X : Cx} : Passes (CXe X.prog X.w) X (fun _ _ _ => False) := by
  intro pins σ H s ev s' I h
  obtain ⟨e, C, dx, H', _, _, _, _, _, _, hE⟩ := h
  exact hE.elim
def Av3 (a p q : Addr) : Addr → Prop := fun b => b = a ∨ b = p ∨ b = q
structure Bs (a p q : Addr) (H : Hp) : Prop where
  wl : WellAt H a
  npa : p ≠ a
  nqa : q ≠ a
  npq : p ≠ q
  has : ∃ xs ys l m, H p = some (.lst xs) ∧ H q = some (.lst ys) ∧ DensN (Av3 a p q) H l xs ∧ DensN (Av3 a p q) H m ys ∧ (∀ d ∈ l, d.dep ≤ 2) ∧ (∀ d ∈ m, d.dep ≤ 2) ∧ xs.length ≤ 20 ∧ ys.length ≤ 20
theorem Bs.draw {a p q : Addr} {H H' : Hp} (b : Bs a p q H) (k : Kp a H H') (w : WellAt H' a) : Bs a p q H' := by
  obtain ⟨xs, ys, l, m, h1, h2, h3, h4, h5⟩ := b.has
  exact ⟨w, b.npa, b.nqa, b.npq, xs, ys, l, m, k _ _ h1 b.npa, k _ _ h2 b.nqa, h3.kp (.inl rfl) k b.wl, h4.kp (.inl rfl) k b.wl, h5⟩
theorem deps_le {l : List D} {n : Nat} (h : ∀ d ∈ l, d.dep ≤ n) : D.deps l ≤ n := by
  induction l with
  | nil => rw [D.deps]; exact Nat.zero_le _
  | cons d l ih =>
    rw [D.deps]
    have h1 := h d List.mem_cons_self
    have h2 := ih fun e he => h e (List.mem_cons_of_mem _ he)
    exact Nat.max_le.mpr ⟨h1, h2⟩
section
variable {P : Program} {w : World} {K : PySem.W.Frag} {mg : Str → Option Value} {base : Heap}
theorem ok_linesW {C f : Addr} {fd : FuncData} (F : Fun K "lines" "Grid.lines" sLines f fd) (T : Txt K mg) (TC : Cl K C) : FnOk P w K mg base CX0 1 f fd ["self"] (spLinesW C) := by
  refine F.ok scLines (fun vs H Q E h => ?_) (fun cdv A outer s H vs Q E hr h => ?_)
  · obtain ⟨g, dx, p, q, ns, rfl, _⟩ := h
    rfl
  · obtain ⟨g, dx, p, q, ns, rfl, ⟨hg, hp, _⟩, k⟩ := h
    refine ⟨_, pss_one (ps_ret (pe_callB call_len_seq (by rfl) T.len PySem.boot_len (pa_cons (pe_fld (pv 0) rfl) pa_nil))), ?_⟩
    refine ⟨_, rfl, g, C, dx, _, _, rfl, hg, TC.cl, TC.nS, flds_sizes _ _, p, _, rfl, .inl (SqL.of hp), ?_⟩
    show Q (.int ((ns.map V.int).length : Int)) H
    rw [List.length_map]
    exact k
theorem ok_manyW {C f : Addr} {fd : FuncData} (F : Fun K "places_many" "Grid.places_many" sMany f fd) (c_prod : Cal P w K mg base CX0 1 "product" ["sizes"] spProd) (TC : Cl K C) : FnOk P w K mg base CX0 2 f fd ["self"] (spManyW C) := by
  refine F.ok scMany (fun vs H Q E h => ?_) (fun cdv A outer s H vs Q E hr h => ?_)
  · obtain ⟨g, dx, p, q, ns, rfl, _⟩ := h
    rfl
  · obtain ⟨g, dx, p, q, ns, rfl, ⟨hg, hp, ok⟩, k⟩ := h
    refine ⟨_, pss_one (ps_ret (pe_c c_prod (hr.mono (by decide)) rfl pass0 (pa_cons (pe_fld (pv 0) rfl) pa_nil))), ?_⟩
    exact ⟨_, rfl, g, C, dx, _, _, rfl, hg, TC.cl, TC.nS, flds_sizes _ _, p, ns, rfl, hp, ok, k⟩
/-- all that the law calls -/
structure Use (P : Program) (w : World) (K : PySem.W.Frag) (mg : Str → Option Value) (base : Heap) (C CG : Addr) : Prop where
  well : Cal P w K mg base CX0 2 "_law_well" ["_law_script", "_law_k"] (spWell K)
  draw : Cal P w K mg base CX0 1 "_law_draw" ["_law_well_here", "_law_most"] spDraw
  sizes : Cal P w K mg base CX0 2 "_law_sizes" ["_law_well_here"] spSizes
  rim : Cal P w K mg base CX0 2 "_law_rim" ["_law_well_here"] spRim
  oddS : Cal P w K mg base CX0 2 "_law_odd_size" ["_law_well_here"] spOdd
  oddR : Cal P w K mg base CX0 2 "_law_odd_rim" ["_law_well_here"] spOdd
  due : Cal P w K mg base CX0 2 "_law_due" ["_law_sizes_here", "_law_rims"] spDue
  found : Cal P w K mg base CX0 7 "_law_found" ["_law_sizes_here", "_law_rims"] spDue
  init : ∃ f fd, FnOk P w K mg base (CXe P w) 5 f fd ["self", "sizes", "rims"] (spInitE CG C) ∧ Mk K C f ∧ Binds K fd ["self", "sizes", "rims"] []
  many : ∃ f fd, FnOk P w K mg base CX0 2 f fd ["self"] (spManyW C) ∧ Meth K C "places_many" f ∧ Binds K fd ["self"] []
  lines : ∃ f fd, FnOk P w K mg base CX0 1 f fd ["self"] (spLinesW C) ∧ Meth K C "lines" f ∧ Binds K fd ["self"] []
  mgC : mg "Grid" = some (.ref C)
  T : Txt K mg
  TC : Cl K C
abbrev NLaw : List Str := ["_law_script", "_law_well_here", "_law_sizes_here", "_law_rims", "_law_k", "_law_handed", "_law_due_here", "_law_grid", "_law_many"]
theorem scLaw : FnScope ["_law_script", "_law_well_here", "_law_sizes_here", "_law_rims", "_law_k", "_law_handed", "_law_due_here", "_law_grid", "_law_many"] ["_law_script"] (defScope sLaw) := ⟨rfl, rfl, rfl, by decide +kernel, rfl, by decide +kernel, by decide +kernel⟩
abbrev NL : List Str := ["_law_script", "_law_well_here", "_law_sizes_here", "_law_rims", "_law_k", "_law_handed", "_law_due_here", "_law_grid", "_law_many"]
abbrev XL (P : Program) (w : World) (K : PySem.W.Frag) (mg : Str → Option Value) (base : Heap) (f : Addr) (cdv : Value) (A : Around) (outer : List Env) (s : Shared) (H : Hp) (E : XK) : Cx := (cxOf CX0 P w K mg base NL "law" (defScope sLaw) f cdv A outer s H E).nox
theorem law_end {f C CG : Addr} {cdv : Value} {A : Around} {outer : List Env} {s : Shared} {H : Hp} {E : XK} (U : Use P w K mg base C CG) (hr : Room 7 (XL P w K mg base f cdv A outer s H E).A) :
    ∃ t, PSs (XL P w K mg base f cdv A outer s H E) ((defBody sLaw).drop 5) t ∧ ∀ (nx : L2.St → Hp → Prop) (Q : VK) (H2 : Hp) (a p q : Addr) (v0 v1 v4 : Option V), Bs a p q H2 → (∀ H', Q (.bl true) H') →
      t { nx := nx, rt := Q } [v0, v1, some (.ref p), some (.ref q), v4, none, none, none, none] H2 := by
  have hu : (XL P w K mg base f cdv A outer s H E).A.units + 101 < cLine := hu_of2 hr
  have c_due := U.due
  have c_found := U.found
  obtain ⟨fi, fdi, Gi, Mi, bi⟩ := U.init
  obtain ⟨fm, fdm, GMany, mMany, bMany⟩ := U.many
  obtain ⟨fl, fdl, GLines, mLines, bLines⟩ := U.lines
  have mgC := U.mgC
  have T := U.T
  have TC := U.TC
  refine ⟨_, (pss_cons (ps_set (i := 5) scLaw.nd rfl (Or.inl rfl) (pe_tup (pa_cons (pe_callTy call_list_of rfl T.list boot_list (pa_cons (pv 2) pa_nil)) (pa_cons (pe_callTy call_list_of rfl T.list boot_list (pa_cons (pv 3) pa_nil)) pa_nil)))) (pss_cons (ps_set (i := 6) scLaw.nd rfl (Or.inl rfl) (pe_c c_due (hr.mono (by decide)) rfl pass0 (pa_cons (pv 2) (pa_cons (pv 3) pa_nil)))) (pss_cons (ps_if (PW.pt (pw_or (pt_cmpR (op_neD hu) (pe_c c_found (hr.mono (by decide)) rfl pass0 (pa_cons (pe_ix ix_tup (pv 5) pe_int (fun _ _ => rfl)) (pa_cons (pe_ix ix_tup (pv 5) pe_int (fun _ _ => rfl)) pa_nil))) (pv 6) (nomark _)) (pw_or1 (pt_cmpR (op_neD hu) (pv 5) (pe_tup (pa_cons (pv 2) (pa_cons (pv 3) pa_nil))) (nomark _))))) (pss_one (ps_ret pe_bl)) pss_nil) (pss_cons (ps_if (pt_cmpR op_eq (pe_ix ix_tup (pv 6) pe_int (fun _ _ => rfl)) pe_str (nomark _)) (pss_one (ps_ret pe_bl)) pss_nil) (pss_cons (ps_set (i := 7) scLaw.nd rfl (Or.inl rfl) (pe_make Mi Gi (hr.mono (by decide)) rfl mgC bi .nil passN (pa_cons (pe_ix ix_tup (pv 5) pe_int (fun _ _ => rfl)) (pa_cons (pe_ix ix_tup (pv 5) pe_int (fun _ _ => rfl)) pa_nil)))) (pss_cons (ps_set (i := 8) scLaw.nd rfl (Or.inl rfl) (pe_meth0 (pv 7) TC.cl mMany GMany (hr.mono (by decide)) bMany .nil pass0 )) (pss_cons (ps_asg pe_int (pg_sub (pe_ix ix_tup (pv 5) pe_int (fun _ _ => rfl)) pe_int set_list)) (pss_cons (ps_expr (pe_bm0 PySem.F.plainAttrs_list PySem.F.slot_list_clear PySem.F.type_list_clear mt_clear (pe_ix ix_tup (pv 5) pe_int (fun _ _ => rfl)))) (pss_cons (ps_if (PW.pt (pw_or (pt_cmpR op_ne (pe_meth0 (pv 7) TC.cl mMany GMany (hr.mono (by decide)) bMany .nil pass0 ) (pv 8) (nomark _)) (pw_or1 (pt_cmpR op_ne (pe_meth0 (pv 7) TC.cl mLines GLines (hr.mono (by decide)) bLines .nil pass0 ) (pe_callB call_len_seq (by rfl) T.len PySem.boot_len (pa_cons (pv 2) pa_nil)) (nomark _))))) (pss_one (ps_ret pe_bl)) pss_nil) (pss_one (ps_ret (pe_and (pe_cmpR (op_eqD hu) (pe_fld (pv 7) rfl) (pv 2) (nomark _)) (pe_one (pe_cmpR (op_eqD hu) (pe_fld (pv 7) rfl) (pv 3) (nomark _))))))))))))))), ?_⟩
  intro nx Q H2 a p q v0 v1 v4 b k
  obtain ⟨xs, ys, l, m, hp, hq, dl, dm, pl, pm, lx, ly⟩ := b.has
  replace dl := DensN.weak (Bv := nA) (fun _ z => z.elim) l dl
  replace dm := DensN.weak (Bv := nA) (fun _ z => z.elim) m dm
  refine ⟨_, rfl, p, _, rfl, .inl (SqL.of hp), fun l1 n1 => ?_⟩
  generalize g3 : upd _ l1 _ = H3
  obtain ⟨s3, e3⟩ := new_of n1 g3
  refine ⟨_, rfl, q, _, rfl, .inl (SqL.of (s3 _ _ hq)), fun l2 n2 => ?_⟩
  generalize g4 : upd _ l2 _ = H4
  obtain ⟨s4, e4⟩ := new_of n2 g4
  refine ⟨by show 2 ≤ sizeLine; decide, fun th nh => ?_⟩
  generalize g5 : upd _ th _ = H5
  obtain ⟨s5, e5⟩ := new_of nh g5
  have s25 := s3.trans (s4.trans s5)
  have e3' := s5 _ _ (s4 _ _ e3)
  have e4' := s5 _ _ e4
  refine ⟨_, rfl, _, rfl, p, q, xs, ys, l, m, rfl, s25 _ _ hp, s25 _ _ hq, dl.same s25, dm.same s25, pm, fun vd H6 s6 dd => ?_⟩
  have s26 := s25.trans s6
  refine ⟨_, rfl, th, _, _, _, rfl, rfl, SqT.of (s6 _ _ e5), rfl, _, rfl, th, _, _, _, rfl, rfl, SqT.of (s6 _ _ e5), rfl, l1, l2, xs, ys, l, m, rfl, s6 _ _ e3', s6 _ _ e4', dl.same s26, dm.same s26, pm, fun vf H7 s7 df => ?_⟩
  have dpt : (told l m).dep ≤ 4 := by
    have h1 := deps_le pl
    have h2 := deps_le pm
    unfold told
    split <;> simp only [D.dep, D.deps] <;> omega
  refine ⟨_, rfl, told l m, told l m, df.den K, (dd.same s7).den K, by omega, _, rfl, ?_⟩
  rw [df.refl]
  refine iteF ?_
  have s27 := s26.trans s7
  have s57 := s6.trans s7
  refine ⟨_, rfl, _, rfl, _, rfl, by show 2 ≤ sizeLine; decide, fun t8 n8 => ?_⟩
  generalize g8 : upd _ t8 _ = H8
  obtain ⟨s8, e8⟩ := new_of n8 g8
  have s28 := s27.trans s8
  have s58 := s57.trans s8
  have A1 : DenN nA H8 (.tp [.ls l, .ls m]) (.ref th) := ⟨th, _, rfl, s58 _ _ e5, .cons ⟨l1, _, rfl, id, s58 _ _ e3', dl.same s28⟩ (.cons ⟨l2, _, rfl, id, s58 _ _ e4', dm.same s28⟩ .nil)⟩
  have A2 : DenN nA H8 (.tp [.ls l, .ls m]) (.ref t8) := ⟨t8, _, rfl, e8, .cons ⟨p, _, rfl, id, s28 _ _ hp, dl.same s28⟩ (.cons ⟨q, _, rfl, id, s28 _ _ hq, dm.same s28⟩ .nil)⟩
  refine ⟨.tp [.ls l, .ls m], .tp [.ls l, .ls m], A1.den K, A2.den K, ?_, _, rfl, ?_⟩
  · have h1 := deps_le pl
    have h2 := deps_le pm
    simp only [D.dep, D.deps]
    omega
  rw [A1.refl]
  refine iteF ?_
  have dd8 := dd.same (s7.trans s8)
  unfold told at dd8
  cases hf : fate l m with
  | some v =>
    rw [hf] at dd8
    obtain ⟨pd, xd, rfl, hpd, x0, r0, rfl, ⟨rfl, _⟩, _⟩ := dd8
    exact ⟨_, rfl, pd, _, _, _, rfl, rfl, SqT.of hpd, atI0, rfl, _, rfl, iteTe (decide_eq_true rfl) (k _)⟩
  | none =>
    rw [hf] at dd8
    obtain ⟨pd, xd, rfl, hpd, x0, r0, rfl, ⟨rfl, _⟩, _⟩ := dd8
    refine ⟨_, rfl, pd, _, _, _, rfl, rfl, SqT.of hpd, atI0, rfl, _, rfl, iteFe (decide_eq_false (fun z => absurd (V.str.inj z) (by decide +kernel))) ?_⟩
    have e5' := s58 _ _ e5
    refine ⟨_, rfl, th, _, _, _, rfl, rfl, SqT.of e5', rfl, _, rfl, th, _, _, _, rfl, rfl, SqT.of e5', rfl, fun x dx nx' ndx nex => ?_⟩
    have sm : Same H8 (upd (upd H8 dx (.own x)) x (.ins C dx [])) := fun b o hb => by
      rw [upd_ne (ne_of_none hb nx'), upd_ne (ne_of_none hb ndx)]
      exact hb
    generalize hHm : upd (upd H8 dx (.own x)) x (.ins C dx []) = Hm at sm
    have hx : Hm x = some (.ins C dx []) := by rw [← hHm, upd_same]
    have sm2 := s28.trans sm
    have dlm := dl.same sm2
    have dmm := dm.same sm2
    have f1 := sm _ _ (s58 _ _ e3')
    have f2 := sm _ _ (s58 _ _ e4')
    refine ⟨x, dx, l1, l2, xs, ys, rfl, hx, f1, f2, fun y hy => (dlm.mem hy).choose_spec.2.kn, fun y hy => (dmm.mem hy).choose_spec.2.th, fun v rv H1 d1 s1 e1 => ?_, fun ns mk H9 p' q' k9 g9 hp9 hq9 np nq npq => ⟨rfl, ?_⟩⟩
    · have fv := fate_refd dlm dmm rv
      rw [hf] at fv
      cases fv
    · have s29 : Same H2 H9 := fun b o hb => k9 b o (sm2 _ _ hb) (ne_of_none (s28 _ _ hb) nx')
      obtain ⟨⟨lo, _⟩, rfl, okn, _⟩ := mk
      have gw9 : GridW C H9 x ns dx p' q' := ⟨g9, hp9, okn⟩
      refine ⟨_, rfl, x, dx, _, rfl, g9, flds_no _ _ (by decide +kernel) (by decide +kernel), x, dx, p', q', ns, rfl, gw9, ?_⟩
      have x1 : l1 ≠ x := ne_of_none (s58 _ _ e3') nx'
      have x2 : l2 ≠ x := ne_of_none (s58 _ _ e4') nx'
      have th9 := k9 _ _ (sm _ _ e5') (ne_of_none e5' nx')
      have e39 := k9 _ _ f1 x1
      have e49 := k9 _ _ f2 x2
      have np1 : p' ≠ l1 := Ne.symm (ne_of_none f1 np)
      have np2 : p' ≠ l2 := Ne.symm (ne_of_none f2 np)
      have nq1 : q' ≠ l1 := Ne.symm (ne_of_none f1 nq)
      have nq2 : q' ≠ l2 := Ne.symm (ne_of_none f2 nq)
      have h12 : l1 ≠ l2 := ne_of_none e3 n2
      have hl1 : 1 ≤ (ns.map V.int).length := lo.1
      -- handed[0][0] = 9
      refine ⟨_, rfl, th, _, _, _, rfl, rfl, SqT.of th9, rfl, l1, _, 0, 0, rfl, rfl, e39, ?_, ?_⟩
      · exact ixN_nat (j := 0) hl1
      generalize gA : upd H9 l1 _ = HA
      have sA : Same H2 HA := by rw [← gA]; exact fun b o hb => by rw [upd_ne (ne_of_none hb n1)]; exact s29 _ _ hb
      have oA : ∀ b o, b ≠ l1 → H9 b = some o → HA b = some o := fun b o hb e => by rw [← gA, upd_ne hb]; exact e
      have thA := oA _ _ (Ne.symm (ne_of_none (s4 _ _ e3) nh)) th9
      have e4A := oA _ _ (Ne.symm h12) e49
      -- handed[1].clear()
      refine ⟨_, rfl, th, _, _, _, rfl, rfl, SqT.of thA, rfl, .inl ⟨rfl, _, SqL.of e4A⟩, l2, _, rfl, rfl, e4A, ?_⟩
      generalize gB : upd HA l2 _ = HB
      have n2' : H2 l2 = none := s3.free n2
      have sB : Same H2 HB := by rw [← gB]; exact fun b o hb => by rw [upd_ne (ne_of_none hb n2')]; exact sA _ _ hb
      have oB : ∀ b o, b ≠ l1 → b ≠ l2 → H9 b = some o → HB b = some o := fun b o h1 h2 e => by rw [← gB, upd_ne h2]; exact oA _ _ h1 e
      have gB9 := oB _ _ (Ne.symm x1) (Ne.symm x2) g9
      have hpB := oB _ _ np1 np2 hp9
      have hqB := oB _ _ nq1 nq2 hq9
      have gwB : GridW C HB x ns dx p' q' := ⟨gB9, hpB, okn⟩
      refine ⟨_, rfl, x, dx, _, rfl, gB9, flds_no _ _ (by decide +kernel) (by decide +kernel), x, dx, p', q', ns, rfl, gwB, _, rfl, rfl, _, rfl, ?_⟩
      rw [show (!decide (V.int (prodL ns) = V.int (prodL ns))) = false by simp]
      refine iteF ?_
      refine ⟨_, rfl, x, dx, _, rfl, gB9, flds_no _ _ (by decide +kernel) (by decide +kernel), x, dx, p', q', ns, rfl, gwB, _, rfl, p, _, rfl, .inl (SqL.of (sB _ _ hp)), rfl, _, rfl, ?_⟩
      rw [show (!decide (V.int (ns.length : Int) = V.int ((ns.map V.int).length : Int))) = false by rw [List.length_map]; simp]
      refine iteF ?_
      have L1 : DenN nA HB (.ls l) (.ref p') := ⟨p', _, rfl, id, hpB, dl.same sB⟩
      have L2' : DenN nA HB (.ls l) (.ref p) := ⟨p, _, rfl, id, sB _ _ hp, dl.same sB⟩
      have M1 : DenN nA HB (.ls m) (.ref q') := ⟨q', _, rfl, id, hqB, dm.same sB⟩
      have M2 : DenN nA HB (.ls m) (.ref q) := ⟨q, _, rfl, id, sB _ _ hq, dm.same sB⟩
      have h1 := deps_le pl
      have h2 := deps_le pm
      refine ⟨_, rfl, x, C, dx, _, _, rfl, gB9, TC.cl, TC.nS, flds_sizes _ _, _, rfl, .ls l, .ls l, L1.den K, L2'.den K, by simp only [D.dep]; omega, _, rfl, ?_⟩
      rw [show (if false = true then !(D.ls l).eq (.ls l) else (D.ls l).eq (.ls l)) = true from L1.refl]
      refine iteT ?_
      refine ⟨_, rfl, x, C, dx, _, _, rfl, gB9, TC.cl, TC.nR, flds_rims _ _, _, rfl, .ls m, .ls m, M1.den K, M2.den K, by simp only [D.dep]; omega, ?_⟩
      rw [show (if false = true then !(D.ls m).eq (.ls m) else (D.ls m).eq (.ls m)) = true from M1.refl]
      exact k _
end
end K1
namespace K1
open PySem PyProof.Rows L2 G3
theorem Bs.same {a p q : Addr} {H H' : Hp} (b : Bs a p q H) (s : Same H H') : Bs a p q H' := by
  obtain ⟨xs, ys, l, m, h1, h2, h3, h4, h5⟩ := b.has
  refine ⟨?_, b.npa, b.nqa, b.npq, xs, ys, l, m, s _ _ h1, s _ _ h2, h3.same s, h4.same s, h5⟩
  obtain ⟨x, y, z, e⟩ := b.wl
  exact ⟨x, y, z, s _ _ e⟩
theorem mem_set {α : Type} {l : List α} {i : Nat} {x y : α} (h : y ∈ l.set i x) : y ∈ l ∨ y = x := List.mem_or_eq_of_mem_set h
theorem Bs.setP {a p q : Addr} {H : Hp} (b : Bs a p q H) {d : D} {v : V} (hd : DenN (Av3 a p q) H d v) (dp : d.dep ≤ 2) {xs : List V} (hp : H p = some (.lst xs)) (j : Nat) : Bs a p q (upd H p (.lst (xs.set j v))) := by
  obtain ⟨xs', ys, l, m, h1, h2, h3, h4, h5, h6, h7, h8⟩ := b.has
  rw [hp] at h1
  cases h1
  have k1 : ∀ b zs, H b = some (.tup zs) → (upd H p (.lst (xs.set j v))) b = some (.tup zs) := fun b zs e => by rw [upd_ne (ne_of e hp (by intro z; cases z))]; exact e
  have k2 : ∀ b zs, ¬ Av3 a p q b → H b = some (.lst zs) → (upd H p (.lst (xs.set j v))) b = some (.lst zs) := fun b zs n e => by rw [upd_ne (fun z => n (.inr (.inl z)))]; exact e
  refine ⟨?_, b.npa, b.nqa, b.npq, xs.set j v, ys, l.set j d, m, upd_same, by rw [upd_ne (Ne.symm b.npq)]; exact h2, (DensN.mono k1 k2 _ h3).set j (DenN.mono k1 k2 _ hd), DensN.mono k1 k2 _ h4, fun e he => ?_, h6, by rw [List.length_set]; exact h7, h8⟩
  · obtain ⟨x, y, z, e⟩ := b.wl
    exact ⟨x, y, z, by rw [upd_ne (Ne.symm b.npa)]; exact e⟩
  · rcases mem_set he with he | rfl
    · exact h5 e he
    · exact dp
theorem Bs.setQ {a p q : Addr} {H : Hp} (b : Bs a p q H) {d : D} {v : V} (hd : DenN (Av3 a p q) H d v) (dp : d.dep ≤ 2) {ys : List V} (hq : H q = some (.lst ys)) (j : Nat) : Bs a p q (upd H q (.lst (ys.set j v))) := by
  obtain ⟨xs, ys', l, m, h1, h2, h3, h4, h5, h6, h7, h8⟩ := b.has
  rw [hq] at h2
  cases h2
  have k1 : ∀ b zs, H b = some (.tup zs) → (upd H q (.lst (ys.set j v))) b = some (.tup zs) := fun b zs e => by rw [upd_ne (ne_of e hq (by intro z; cases z))]; exact e
  have k2 : ∀ b zs, ¬ Av3 a p q b → H b = some (.lst zs) → (upd H q (.lst (ys.set j v))) b = some (.lst zs) := fun b zs n e => by rw [upd_ne (fun z => n (.inr (.inr z)))]; exact e
  refine ⟨?_, b.npa, b.nqa, b.npq, xs, ys.set j v, l, m.set j d, by rw [upd_ne b.npq]; exact h1, upd_same, DensN.mono k1 k2 _ h3, (DensN.mono k1 k2 _ h4).set j (DenN.mono k1 k2 _ hd), h5, fun e he => ?_, h7, by rw [List.length_set]; exact h8⟩
  · obtain ⟨x, y, z, e⟩ := b.wl
    exact ⟨x, y, z, by rw [upd_ne (Ne.symm b.nqa)]; exact e⟩
  · rcases mem_set he with he | rfl
    · exact h6 e he
    · exact dp
theorem Bs.odd {a p q : Addr} {H H' : Hp} (b : Bs a p q H) {d : D} {v : V} (h : DenN (fun b => H b ≠ none) H' d v) : DenN (Av3 a p q) H' d v := by
  obtain ⟨xs, ys, l, m, h1, h2, _⟩ := b.has
  obtain ⟨x, y, z, e⟩ := b.wl
  refine DenN.weak (fun c hc => ?_) d h
  rcases hc with rfl | rfl | rfl
  · rw [e]; intro z; cases z
  · rw [h1]; intro z; cases z
  · rw [h2]; intro z; cases z
theorem eq_nil {l : List D} : (D.ls l).eq (.ls []) = l.isEmpty := by
  cases l <;> simp [D.eq, D.eqs]
section
variable {P : Program} {w : World} {K : PySem.W.Frag} {mg : Str → Option Value} {base : Heap}
def elseOf (s : Stmt) : List Stmt := match s with
  | .If _ _ b _ => b
  | _ => []
def loopBody (s : Stmt) : List Stmt := match s with
  | .For _ _ b _ _ => b
  | .While _ b _ _ => b
  | .If _ b _ _ => b
  | _ => []
abbrev sElif : List Stmt := elseOf ((loopBody ((defBody sLaw).getD 4 (.Pass ⟨0, 0, 0, 0⟩))).getD 0 (.Pass ⟨0, 0, 0, 0⟩))
theorem law_elif {f C CG : Addr} {cdv : Value} {A : Around} {outer : List Env} {s : Shared} {H : Hp} {E : XK} (U : Use P w K mg base C CG) (hr : Room 7 (XL P w K mg base f cdv A outer s H E).A) :
    ∃ t, PSs (XL P w K mg base f cdv A outer s H E) sElif t ∧ ∀ (D : Ends) (H2 : Hp) (a p q : Addr) (v0 v4 : Option V), Bs a p q H2 → (∀ H3, Bs a p q H3 → D.nx [v0, some (.ref a), some (.ref p), some (.ref q), v4, none, none, none, none] H3) →
      t D [v0, some (.ref a), some (.ref p), some (.ref q), v4, none, none, none, none] H2 := by
  have hu : (XL P w K mg base f cdv A outer s H E).A.units + 101 < cLine := hu_of2 hr
  have c_oddR := U.oddR
  have c_draw := U.draw
  have T := U.T
  refine ⟨_, (pss_one (ps_if (pt_cmpR (op_neD hu) (pv 3) (pe_lst pa_nil) (nomark _)) (pss_one (ps_asg (pe_c c_oddR (hr.mono (by decide)) rfl pass0 (pa_cons (pv 1) pa_nil)) (pg_sub (pv 3) (pe_c c_draw (hr.mono (by decide)) rfl pass0 (pa_cons (pv 1) (pa_cons (pe_callB call_len_seq (by rfl) T.len PySem.boot_len (pa_cons (pv 3) pa_nil)) pa_nil))) set_list))) pss_nil)), ?_⟩
  intro De H2 a p q v0 v4 b k
  obtain ⟨xs, ys, l, m, hp, hq, dl, dm, pl, pm, lx, ly⟩ := b.has
  refine ⟨_, rfl, by show 0 ≤ sizeLine; decide, fun e0 n0 => ?_⟩
  generalize g5 : upd _ e0 _ = H5
  obtain ⟨s5, e5⟩ := new_of n0 g5
  have b5 := b.same s5
  refine ⟨.ls m, .ls [], ⟨q, ys, rfl, SqL.of (s5 _ _ hq), (dm.same s5).dens K⟩, ⟨e0, [], rfl, SqL.of e5, rfl⟩, ?_, _, rfl, ?_⟩
  · have := deps_le pm
    simp only [D.dep, D.deps]
    omega
  rw [eq_nil]
  cases hm : m.isEmpty with
  | true => exact iteF (k _ b5)
  | false =>
    refine iteT ?_
    have lm := dm.length
    have h0 : 0 < ys.length := by
      rw [← lm]
      cases m with
      | nil => cases hm
      | cons _ _ => simp
    refine ⟨_, rfl, a, rfl, b5.wl, fun v d H6 k6 w6 dd dp => ?_⟩
    have b6 := b5.draw k6 w6
    have dd6 := b5.odd dd
    have hq6 := k6 _ _ (s5 _ _ hq) b.nqa
    refine ⟨_, rfl, _, rfl, _, rfl, q, _, rfl, .inl (SqL.of hq6), a, _, rfl, w6, by omega, by omega, fun n H7 hn0 hn k7 w7 => ?_⟩
    obtain ⟨j, rfl⟩ : ∃ j : Nat, n = (j : Int) := ⟨n.toNat, by omega⟩
    have hq7 := k7 _ _ hq6 b.nqa
    exact ⟨q, _, _, j, rfl, rfl, hq7, ixN_nat (by omega), k _ ((b6.draw k7 w7).setQ (dd6.kp (.inl rfl) k7 w6) dp hq7 j)⟩
theorem law_mid {f C CG : Addr} {cdv : Value} {A : Around} {outer : List Env} {s : Shared} {H : Hp} {E : XK} (U : Use P w K mg base C CG) (hr : Room 7 (XL P w K mg base f cdv A outer s H E).A) :
    ∃ t, PSs (XL P w K mg base f cdv A outer s H E) ((defBody sLaw).drop 4) t ∧ ∀ (nx : L2.St → Hp → Prop) (Q : VK) (H2 : Hp) (a p q : Addr) (v0 v4 : Option V), Bs a p q H2 → (∀ H', Q (.bl true) H') →
      t { nx := nx, rt := Q } [v0, some (.ref a), some (.ref p), some (.ref q), v4, none, none, none, none] H2 := by
  have hu : (XL P w K mg base f cdv A outer s H E).A.units + 101 < cLine := hu_of2 hr
  have c_oddS := U.oddS
  have c_draw := U.draw
  have T := U.T
  obtain ⟨tE, hE, rE⟩ := law_elif (f := f) (cdv := cdv) (A := A) (outer := outer) (s := s) (H := H) (E := E) U hr
  obtain ⟨t5, h5, r5⟩ := law_end (f := f) (cdv := cdv) (A := A) (outer := outer) (s := s) (H := H) (E := E) U hr
  refine ⟨_, (pss_cons (ps_for PassesOwn.never rfl (pi_range1 rfl T.range (pa_cons (pe_c c_draw (hr.mono (by decide)) rfl pass0 (pa_cons (pv 1) (pa_cons pe_int pa_nil))) pa_nil)) (pg_name (i := 4) scLaw.nd rfl (Or.inl rfl)) (pss_one (ps_if (PW.pt (pw_and (pt_cmpR (op_neD hu) (pv 2) (pe_lst pa_nil) (nomark _)) (pw_and1 (pt_cmpR op_eq (pe_c c_draw (hr.mono (by decide)) rfl pass0 (pa_cons (pv 1) (pa_cons pe_int pa_nil))) pe_int (nomark _))))) (pss_one (ps_asg (pe_c c_oddS (hr.mono (by decide)) rfl pass0 (pa_cons (pv 1) pa_nil)) (pg_sub (pv 2) (pe_c c_draw (hr.mono (by decide)) rfl pass0 (pa_cons (pv 1) (pa_cons (pe_callB call_len_seq (by rfl) T.len PySem.boot_len (pa_cons (pv 2) pa_nil)) pa_nil))) set_list))) hE))) h5), ?_⟩
  intro nx Q H2 a p q v0 v4 b k
  refine ⟨_, rfl, a, 3, rfl, b.wl, by decide, by decide, fun n H3 h0 h3 k3 w3 => ?_⟩
  refine ⟨n, rfl, by omega, by omega, for_range (n := n.toNat) (fun i σ H4 => ∃ v4, σ = [v0, some (.ref a), some (.ref p), some (.ref q), v4, none, none, none, none] ∧ Bs a p q H4) ⟨_, rfl, b.draw k3 w3⟩ ?_ ?_⟩
  · rintro i σ H4 hi ⟨v4, rfl, b4⟩
    obtain ⟨xs, ys, l, m, hp, hq, dl, dm, pl, pm, lx, ly⟩ := b4.has
    refine ⟨_, rfl, by show 0 ≤ sizeLine; decide, fun e0 n0 => ?_⟩
    generalize g5 : upd _ e0 _ = H5
    obtain ⟨s5, e5⟩ := new_of n0 g5
    have b5 := b4.same s5
    refine ⟨.ls l, .ls [], ⟨p, xs, rfl, SqL.of (s5 _ _ hp), (dl.same s5).dens K⟩, ⟨e0, [], rfl, SqL.of e5, rfl⟩, ?_, _, rfl, ?_⟩
    · have := deps_le pl
      simp only [D.dep, D.deps]
      omega
    rw [eq_nil]
    cases hm : l.isEmpty with
    | true => exact iteF (iteF (rE _ _ a p q v0 _ b5 fun H6 b6 => ⟨_, rfl, b6⟩))
    | false =>
      refine iteT ?_
      have lm := dl.length
      have h0 : 0 < xs.length := by
        rw [← lm]
        cases l with
        | nil => cases hm
        | cons _ _ => simp
      refine ⟨_, rfl, a, 2, rfl, b5.wl, by decide, by decide, fun u H6 hu0 hu2 k6 w6 => ⟨rfl, _, rfl, ?_⟩⟩
      have b6 := b5.draw k6 w6
      have hp6 := k6 _ _ (s5 _ _ hp) b4.npa
      refine ite2 (fun _ => ?_) (fun _ => rE _ _ a p q v0 _ b6 fun H6 b6 => ⟨_, rfl, b6⟩)
      refine ⟨_, rfl, a, rfl, w6, fun v d H7 k7 w7 dd dp => ?_⟩
      have b7 := b6.draw k7 w7
      have dd7 := b6.odd dd
      have hp7 := k7 _ _ hp6 b4.npa
      refine ⟨_, rfl, _, rfl, _, rfl, p, _, rfl, .inl (SqL.of hp7), a, _, rfl, w7, by omega, by omega, fun n H8 hn0 hn k8 w8 => ?_⟩
      obtain ⟨j, rfl⟩ : ∃ j : Nat, n = (j : Int) := ⟨n.toNat, by omega⟩
      have hp8 := k8 _ _ hp7 b4.npa
      exact ⟨p, _, _, j, rfl, rfl, hp8, ixN_nat (by omega), _, rfl, (b7.draw k8 w8).setP (dd7.kp (.inl rfl) k8 w7) dp hp8 j⟩
  · rintro σ H4 ⟨v4, rfl, b4⟩
    exact r5 nx Q H4 a p q v0 _ v4 b4 k
end
end K1
namespace K1
open PySem PyProof.Rows L2 G3
def S1 (a p : Addr) (H : Hp) : Prop := WellAt H a ∧ p ≠ a ∧ ∃ ns : List Int, H p = some (.lst (ns.map V.int)) ∧ ns.length ≤ 9
theorem dens_of_ints {Av : Addr → Prop} {H : Hp} : ∀ ns : List Int, DensN Av H (ns.map fun n => .fl (.int n)) (ns.map V.int)
  | [] => rfl
  | n :: ns => ⟨_, _, rfl, ⟨rfl, rfl⟩, dens_of_ints ns⟩
theorem rim_den {Av : Addr → Prop} {H : Hp} {t : Addr} {r : Rim} (h : H t = some (.tup (rimV r))) : ∃ d, DenN Av H d (.ref t) ∧ d.dep ≤ 2 := by
  cases r with
  | fixed v => exact ⟨.tp [.fl (.str "fixed"), .fl (.int v)], ⟨t, _, rfl, h, .cons .fl (.cons .fl .nil)⟩, by simp [D.dep, D.deps]⟩
  | mirror => exact ⟨.tp [.fl (.str "mirror")], ⟨t, _, rfl, h, .one .fl⟩, by simp [D.dep, D.deps]⟩
  | round => exact ⟨.tp [.fl (.str "round")], ⟨t, _, rfl, h, .one .fl⟩, by simp [D.dep, D.deps]⟩
section
variable {P : Program} {w : World} {K : PySem.W.Frag} {mg : Str → Option Value} {base : Heap}
theorem law_rims {f C CG : Addr} {cdv : Value} {A : Around} {outer : List Env} {s : Shared} {H : Hp} {E : XK} (U : Use P w K mg base C CG) (hr : Room 7 (XL P w K mg base f cdv A outer s H E).A) :
    ∃ t, PSs (XL P w K mg base f cdv A outer s H E) ((defBody sLaw).drop 3) t ∧ ∀ (nx : L2.St → Hp → Prop) (Q : VK) (H2 : Hp) (a p : Addr) (v0 : Option V), S1 a p H2 → (∀ H', Q (.bl true) H') →
      t { nx := nx, rt := Q } [v0, some (.ref a), some (.ref p), none, none, none, none, none, none] H2 := by
  have c_rim := U.rim
  have c_draw := U.draw
  have T := U.T
  obtain ⟨t4, h4, r4⟩ := law_mid (f := f) (cdv := cdv) (A := A) (outer := outer) (s := s) (H := H) (E := E) U hr
  refine ⟨_, (pss_cons (ps_cp (i := 3) scLaw.nd rfl (Or.inl rfl) (own := ["_law_k"]) (cap := [("_law_well_here", 1)]) (g := gName 0) (defScope sLaw) NLaw rfl rfl (fun x h => cell_has h) (by decide +kernel) rfl (pi_range1 rfl T.range (pa_cons (pe_op op_add (pe_callB call_len_seq (by rfl) T.len PySem.boot_len (pa_cons (pv 2) pa_nil)) (pe_ix ix_list (pe_lst (pa_cons pe_int (pa_cons pe_int (pa_cons pe_int (pa_cons pe_int (pa_cons pe_int (pa_cons (pe_un un_neg pe_int) pa_nil))))))) (pe_c c_draw (hr.mono (by decide)) rfl pass0 (pa_cons (pv 1) (pa_cons pe_int pa_nil))) (fun _ _ => rfl))) pa_nil)) (fun cl C s2 H2 fp => (pg_name (i := 0) (show (["_law_k", "_law_well_here"] : List Str).Nodup by decide +kernel) rfl (Or.inl rfl) (Or.inr rfl))) (fun cl C s2 H2 fp => (pe_c c_rim (hr.mono (by decide)) rfl pass0 (pa_cons (pv 1) pa_nil)))) h4), ?_⟩
  intro nx Q H2 a p v0 ⟨w2, npa, ns, hp, hl⟩ k
  refine ⟨_, rfl, p, _, rfl, .inl (SqL.of hp), _, rfl, by show 6 ≤ sizeLine; decide, fun l0 n0 => ?_⟩
  generalize g3 : upd _ l0 _ = H3
  obtain ⟨s3, e3⟩ := new_of n0 g3
  have w3 : WellAt H3 a := by obtain ⟨x, y, z, e⟩ := w2; exact ⟨x, y, z, s3 _ _ e⟩
  have nl0 : l0 ≠ a := by obtain ⟨x, y, z, e⟩ := w2; exact Ne.symm (ne_of_none e n0)
  refine ⟨_, rfl, a, 6, rfl, w3, by decide, by decide, fun u H4 u0 u6 k4 w4 => ?_⟩
  obtain ⟨c, hc, c1, c2⟩ : ∃ c : Int, atI [V.int 0, .int 0, .int 0, .int 0, .int 1, .int (-1)] u = some (.int c) ∧ -1 ≤ c ∧ c ≤ 1 := by
    have hn : u = 0 ∨ u = 1 ∨ u = 2 ∨ u = 3 ∨ u = 4 ∨ u = 5 := by omega
    rcases hn with rfl | rfl | rfl | rfl | rfl | rfl
    · exact ⟨0, rfl, by decide, by decide⟩
    · exact ⟨0, rfl, by decide, by decide⟩
    · exact ⟨0, rfl, by decide, by decide⟩
    · exact ⟨0, rfl, by decide, by decide⟩
    · exact ⟨1, rfl, by decide, by decide⟩
    · exact ⟨-1, rfl, by decide, by decide⟩
  have hp4 := k4 _ _ (s3 _ _ hp) npa
  refine ⟨l0, _, _, _, rfl, rfl, SqL.of (k4 _ _ e3 nl0), hc, _, _, rfl, rfl, ?_⟩
  have hlen : (ns.map V.int).length ≤ 9 := by rw [List.length_map]; exact hl
  refine ⟨_, rfl, by omega, by omega, fun D hD => ?_⟩
  have hDa : D ≠ a := by obtain ⟨x, y, z, e⟩ := w4; exact Ne.symm (ne_of_none e hD)
  have hDp : p ≠ D := ne_of_none hp4 hD
  obtain ⟨N, hN, hN10⟩ : ∃ N : Nat, ((((ns.map V.int).length : Nat) : Int) + c).toNat = N ∧ N ≤ 10 := ⟨_, rfl, by omega⟩
  rw [hN]
  have s5 := (new_of (o := .lst []) hD rfl).1
  refine comp_range (lo := 0) (n := N) (fun i acc σc H5 => (∃ v0, σc = [v0, some (.ref a)]) ∧ WellAt H5 a ∧ H5 p = some (.lst (ns.map V.int)) ∧ H5 D = some (.lst acc) ∧ acc.length = i ∧ ∃ m, DensN (Av3 a p D) H5 m acc ∧ ∀ d ∈ m, d.dep ≤ 2)
    ⟨⟨none, rfl⟩, by obtain ⟨x, y, z, e⟩ := w4; exact ⟨x, y, z, s5 _ _ e⟩, s5 _ _ hp4, upd_same, rfl, [], rfl, fun d hd => by cases hd⟩ ?_ ?_
  · rintro i acc σc H5 hi ⟨⟨v, rfl⟩, w5, hp5, hD5, hacc, m, dm, pm⟩
    refine ⟨_, rfl, a, rfl, w5, fun t r H6 k6 w6 ht _ => ?_⟩
    have hD6 := k6 _ _ hD5 hDa
    obtain ⟨d, hd, dp⟩ := rim_den (Av := Av3 a p D) ht
    refine cturn hD6 (Nat.lt_of_le_of_lt (show acc.length ≤ 10 by omega) (by decide)) hi ?_
    have k1 : ∀ b zs, H6 b = some (.tup zs) → (upd H6 D (.lst (acc ++ [.ref t]))) b = some (.tup zs) := fun b zs e => by rw [upd_ne (ne_of e hD6 (by intro z; cases z))]; exact e
    have k2 : ∀ b zs, ¬ Av3 a p D b → H6 b = some (.lst zs) → (upd H6 D (.lst (acc ++ [.ref t]))) b = some (.lst zs) := fun b zs n e => by rw [upd_ne (fun z => n (.inr (.inr z)))]; exact e
    refine ⟨⟨_, rfl⟩, ?_, by rw [upd_ne hDp]; exact k6 _ _ hp5 npa, upd_same, by simp [hacc], m ++ [d], (DensN.mono k1 k2 _ (dm.kp (.inl rfl) k6 w5)).app (.one (DenN.mono k1 k2 _ hd)), fun e he => ?_⟩
    · obtain ⟨x, y, z, e⟩ := w6
      exact ⟨x, y, z, by rw [upd_ne (Ne.symm hDa)]; exact e⟩
    · rcases List.mem_append.mp he with he | he
      · exact pm e he
      · rw [List.mem_singleton.mp he]; exact dp
  · rintro acc σc H5 ⟨_, w5, hp5, hD5, hacc, m, dm, pm⟩
    refine r4 nx Q H5 a p D v0 _ ⟨w5, npa, hDa, hDp, _, acc, _, m, hp5, hD5, dens_of_ints ns, dm, fun d hd => ?_, pm, by omega, by omega⟩ k
    obtain ⟨n, _, rfl⟩ := List.mem_map.mp hd
    rw [D.dep]
    decide
theorem ok_law {f C CG : Addr} {fd : FuncData} (F : Fun K "law" "law" sLaw f fd) (U : Use P w K mg base C CG) : FnOk P w K mg base CX0 8 f fd ["_law_script"] (spLaw K) := by
  refine F.ok scLaw (fun vs H Q E h => ?_) (fun cdv A outer s H vs Q E hr h => ?_)
  · obtain ⟨a, ns, rfl, _⟩ := h
    rfl
  · obtain ⟨a0, ns0, rfl, hS, k⟩ := h
    have c_well := U.well
    have c_sizes := U.sizes
    have c_draw := U.draw
    have T := U.T
    obtain ⟨t3, h3, r3⟩ := law_rims (f := f) (cdv := cdv) (A := A) (outer := outer) (s := s) (H := H) (E := E) U hr
    refine ⟨_, (pss_cons (ps_set (i := 1) scLaw.nd rfl (Or.inr rfl) (pe_c c_well (hr.mono (by decide)) rfl pass0 (pa_cons (pv 0) (pa_cons pe_int pa_nil)))) (pss_cons (ps_set (i := 2) scLaw.nd rfl (Or.inl rfl) (pe_c c_sizes (hr.mono (by decide)) rfl pass0 (pa_cons (pv 1) pa_nil))) (pss_cons (ps_if (pt_cmpR op_eq (pe_c c_draw (hr.mono (by decide)) rfl pass0 (pa_cons (pv 1) (pa_cons pe_int pa_nil))) pe_int (nomark _)) (pss_one (ps_cp (i := 2) scLaw.nd rfl (Or.inl rfl) (own := ["_law_k"]) (cap := [("_law_well_here", 1)]) (g := gName 0) (defScope sLaw) NLaw rfl rfl (fun x h => cell_has h) (by decide +kernel) rfl (pi_range1 rfl T.range (pa_cons (pe_c c_draw (hr.mono (by decide)) rfl pass0 (pa_cons (pv 1) (pa_cons pe_int pa_nil))) pa_nil)) (fun cl C s2 H2 fp => (pg_name (i := 0) (show (["_law_k", "_law_well_here"] : List Str).Nodup by decide +kernel) rfl (Or.inl rfl) (Or.inr rfl))) (fun cl C s2 H2 fp => (pe_op op_add pe_int (pe_c c_draw (hr.mono (by decide)) rfl pass0 (pa_cons (pv 1) (pa_cons pe_int pa_nil))))))) pss_nil) h3))), ?_⟩
    refine ⟨_, rfl, a0, 0, ns0, rfl, hS, by decide, fun a H1 s1 n1 w1 => ?_⟩
    refine ⟨_, rfl, a, rfl, w1, fun p ns H2 k2 w2 np hp good => ?_⟩
    have npa : p ≠ a := by obtain ⟨x, y, z, e⟩ := w1; exact Ne.symm (ne_of_none e np)
    refine ⟨_, rfl, a, 4, rfl, w2, by decide, by decide, fun u H3 _ _ k3 w3 => ⟨rfl, _, rfl, ?_⟩⟩
    refine ite2 (fun _ => ?_) (fun _ => r3 _ Q H3 a p (some (.ref a0)) ⟨w3, npa, ns, k3 _ _ hp npa, by have := good.few; omega⟩ k)
    refine ⟨_, rfl, a, 5, rfl, w3, by decide, by decide, fun c H4 c0 c5 k4 w4 => ?_⟩
    refine ⟨c, rfl, by omega, by omega, fun D hD => ?_⟩
    have hDa : D ≠ a := by obtain ⟨x, y, z, e⟩ := w4; exact Ne.symm (ne_of_none e hD)
    obtain ⟨N, hN, hN5⟩ : ∃ N : Nat, c.toNat = N ∧ N ≤ 5 := ⟨_, rfl, by omega⟩
    rw [hN]
    have s5 := (new_of (o := .lst []) hD rfl).1
    refine comp_range (lo := 0) (n := N) (fun i acc σc H5 => (∃ v0, σc = [v0, some (.ref a)]) ∧ WellAt H5 a ∧ H5 D = some (.lst acc) ∧ ∃ zs : List Int, acc = zs.map V.int ∧ zs.length = i)
      ⟨⟨none, rfl⟩, by obtain ⟨x, y, z, e⟩ := w4; exact ⟨x, y, z, s5 _ _ e⟩, upd_same, [], rfl, rfl⟩ ?_ ?_
    · rintro i acc σc H5 hi ⟨⟨v, rfl⟩, w5, hD5, zs, rfl, hz⟩
      refine ⟨_, rfl, a, 9, rfl, w5, by decide, by decide, fun x H6 _ _ k6 w6 => ⟨_, _, rfl, rfl, ?_⟩⟩
      have hD6 := k6 _ _ hD5 hDa
      refine cturn hD6 (Nat.lt_of_le_of_lt (show (zs.map V.int).length ≤ 10 by rw [List.length_map]; omega) (by decide)) hi ?_
      refine ⟨⟨_, rfl⟩, ?_, upd_same, zs ++ [1 + x], by simp, by simp [hz]⟩
      obtain ⟨x, y, z, e⟩ := w6
      exact ⟨x, y, z, by rw [upd_ne (Ne.symm hDa)]; exact e⟩
    · rintro acc σc H5 ⟨_, w5, hD5, zs, rfl, hz⟩
      exact r3 _ Q H5 a D (some (.ref a0)) ⟨w5, hDa, zs, hD5, by omega⟩ k
end
end K1
namespace K1
open PySem PyProof.Rows L2 G3
theorem all_mk {l : PySem.W.OpenLaw} {w : World} {K : PySem.W.Frag} {h : Heap} {mg : Str → Option Value} {fa C CG CT C1 C2 C3 f_whole f_within f_isrim f_check f_prod f_cell f_well f_draw f_sizes f_rim f_oddS f_oddR f_good f_due f_found f_law f_init f_lines f_many f_tile : Addr} (X : K.In h) (G : h.Ns mainGlobals mg) (hfa : mg "law" = some (.ref fa))
    {od_whole an_whole od_within an_within od_isrim an_isrim od_check an_check od_prod an_prod od_cell an_cell od_well an_well od_draw an_draw od_sizes an_sizes od_rim an_rim od_oddS an_oddS od_oddR an_oddR od_good an_good od_due an_due od_found an_found od_law an_law od_init an_init od_lines an_lines od_many an_many od_tile an_tile : Option Addr} {sl_whole sl_within sl_isrim sl_check sl_prod sl_cell sl_well sl_draw sl_sizes sl_rim sl_oddS sl_oddR sl_good sl_due sl_found sl_law sl_init sl_lines sl_many sl_tile : Array (Option Value)} {oc_whole kV_whole dc_whole pm_whole cd_whole ct_whole oc_within kV_within dc_within pm_within cd_within ct_within oc_isrim kV_isrim dc_isrim pm_isrim cd_isrim ct_isrim oc_check kV_check dc_check pm_check cd_check ct_check oc_prod kV_prod dc_prod pm_prod cd_prod ct_prod oc_cell kV_cell dc_cell pm_cell cd_cell ct_cell oc_well kV_well dc_well pm_well cd_well ct_well oc_draw kV_draw dc_draw pm_draw cd_draw ct_draw oc_sizes kV_sizes dc_sizes pm_sizes cd_sizes ct_sizes oc_rim kV_rim dc_rim pm_rim cd_rim ct_rim oc_oddS kV_oddS dc_oddS pm_oddS cd_oddS ct_oddS oc_oddR kV_oddR dc_oddR pm_oddR cd_oddR ct_oddR oc_good kV_good dc_good pm_good cd_good ct_good oc_due kV_due dc_due pm_due cd_due ct_due oc_found kV_found dc_found pm_found cd_found ct_found oc_law kV_law dc_law pm_law cd_law ct_law oc_init kV_init dc_init pm_init cd_init ct_init oc_lines kV_lines dc_lines pm_lines cd_lines ct_lines oc_many kV_many dc_many pm_many cd_many ct_many oc_tile kV_tile dc_tile pm_tile cd_tile ct_tile : Value} {t_gf t_ml t_gs t_mp : Tok}
    (aC : PySem.W.nsIn K mainGlobals "Grid" = some (some (.ref C)))
    (aCG : PySem.W.nsIn K mainGlobals "NoGrid" = some (some (.ref CG)))
    (aCT : PySem.W.nsIn K mainGlobals "TileError" = some (some (.ref CT)))
    (aC1 : PySem.W.nsIn K mainGlobals "NoTerm" = some (some (.ref C1)))
    (aC2 : PySem.W.nsIn K mainGlobals "NoJob" = some (some (.ref C2)))
    (aC3 : PySem.W.nsIn K mainGlobals "NoText" = some (some (.ref C3)))
    (a_whole : PySem.W.nsIn K mainGlobals "is_whole" = some (some (.ref f_whole)))
    (l_whole : K.lookup f_whole = some ⟨oc_whole, od_whole, .func (PySem.W.fnOf "is_whole" "is_whole" (defArgs sWhole) (defBody sWhole) (defScope sWhole) .none kV_whole dc_whole pm_whole an_whole cd_whole ct_whole), sl_whole⟩)
    (c_whole : PySem.W.codeIn K cd_whole "is_whole" = true)
    (k_whole : PySem.W.keepIn K (.ref f_whole) = true)
    (a_within : PySem.W.nsIn K mainGlobals "is_within" = some (some (.ref f_within)))
    (l_within : K.lookup f_within = some ⟨oc_within, od_within, .func (PySem.W.fnOf "is_within" "is_within" (defArgs sWithin) (defBody sWithin) (defScope sWithin) .none kV_within dc_within pm_within an_within cd_within ct_within), sl_within⟩)
    (c_within : PySem.W.codeIn K cd_within "is_within" = true)
    (k_within : PySem.W.keepIn K (.ref f_within) = true)
    (a_isrim : PySem.W.nsIn K mainGlobals "is_rim" = some (some (.ref f_isrim)))
    (l_isrim : K.lookup f_isrim = some ⟨oc_isrim, od_isrim, .func (PySem.W.fnOf "is_rim" "is_rim" (defArgs sIsRim) (defBody sIsRim) (defScope sIsRim) .none kV_isrim dc_isrim pm_isrim an_isrim cd_isrim ct_isrim), sl_isrim⟩)
    (c_isrim : PySem.W.codeIn K cd_isrim "is_rim" = true)
    (k_isrim : PySem.W.keepIn K (.ref f_isrim) = true)
    (a_check : PySem.W.nsIn K mainGlobals "check_lines" = some (some (.ref f_check)))
    (l_check : K.lookup f_check = some ⟨oc_check, od_check, .func (PySem.W.fnOf "check_lines" "check_lines" (defArgs sCheck) (defBody sCheck) (defScope sCheck) .none kV_check dc_check pm_check an_check cd_check ct_check), sl_check⟩)
    (c_check : PySem.W.codeIn K cd_check "check_lines" = true)
    (k_check : PySem.W.keepIn K (.ref f_check) = true)
    (a_prod : PySem.W.nsIn K mainGlobals "product" = some (some (.ref f_prod)))
    (l_prod : K.lookup f_prod = some ⟨oc_prod, od_prod, .func (PySem.W.fnOf "product" "product" (defArgs sProd) (defBody sProd) (defScope sProd) .none kV_prod dc_prod pm_prod an_prod cd_prod ct_prod), sl_prod⟩)
    (c_prod : PySem.W.codeIn K cd_prod "product" = true)
    (k_prod : PySem.W.keepIn K (.ref f_prod) = true)
    (a_cell : PySem.W.nsIn K mainGlobals "_law_cell_at" = some (some (.ref f_cell)))
    (l_cell : K.lookup f_cell = some ⟨oc_cell, od_cell, .func (PySem.W.fnOf "_law_cell_at" "_law_cell_at" (defArgs sCell) (defBody sCell) (defScope sCell) .none kV_cell dc_cell pm_cell an_cell cd_cell ct_cell), sl_cell⟩)
    (c_cell : PySem.W.codeIn K cd_cell "_law_cell_at" = true)
    (k_cell : PySem.W.keepIn K (.ref f_cell) = true)
    (a_well : PySem.W.nsIn K mainGlobals "_law_well" = some (some (.ref f_well)))
    (l_well : K.lookup f_well = some ⟨oc_well, od_well, .func (PySem.W.fnOf "_law_well" "_law_well" (defArgs sWell) (defBody sWell) (defScope sWell) .none kV_well dc_well pm_well an_well cd_well ct_well), sl_well⟩)
    (c_well : PySem.W.codeIn K cd_well "_law_well" = true)
    (k_well : PySem.W.keepIn K (.ref f_well) = true)
    (a_draw : PySem.W.nsIn K mainGlobals "_law_draw" = some (some (.ref f_draw)))
    (l_draw : K.lookup f_draw = some ⟨oc_draw, od_draw, .func (PySem.W.fnOf "_law_draw" "_law_draw" (defArgs sDraw) (defBody sDraw) (defScope sDraw) .none kV_draw dc_draw pm_draw an_draw cd_draw ct_draw), sl_draw⟩)
    (c_draw : PySem.W.codeIn K cd_draw "_law_draw" = true)
    (k_draw : PySem.W.keepIn K (.ref f_draw) = true)
    (a_sizes : PySem.W.nsIn K mainGlobals "_law_sizes" = some (some (.ref f_sizes)))
    (l_sizes : K.lookup f_sizes = some ⟨oc_sizes, od_sizes, .func (PySem.W.fnOf "_law_sizes" "_law_sizes" (defArgs sSizes) (defBody sSizes) (defScope sSizes) .none kV_sizes dc_sizes pm_sizes an_sizes cd_sizes ct_sizes), sl_sizes⟩)
    (c_sizes : PySem.W.codeIn K cd_sizes "_law_sizes" = true)
    (k_sizes : PySem.W.keepIn K (.ref f_sizes) = true)
    (a_rim : PySem.W.nsIn K mainGlobals "_law_rim" = some (some (.ref f_rim)))
    (l_rim : K.lookup f_rim = some ⟨oc_rim, od_rim, .func (PySem.W.fnOf "_law_rim" "_law_rim" (defArgs sRim) (defBody sRim) (defScope sRim) .none kV_rim dc_rim pm_rim an_rim cd_rim ct_rim), sl_rim⟩)
    (c_rim : PySem.W.codeIn K cd_rim "_law_rim" = true)
    (k_rim : PySem.W.keepIn K (.ref f_rim) = true)
    (a_oddS : PySem.W.nsIn K mainGlobals "_law_odd_size" = some (some (.ref f_oddS)))
    (l_oddS : K.lookup f_oddS = some ⟨oc_oddS, od_oddS, .func (PySem.W.fnOf "_law_odd_size" "_law_odd_size" (defArgs sOddS) (defBody sOddS) (defScope sOddS) .none kV_oddS dc_oddS pm_oddS an_oddS cd_oddS ct_oddS), sl_oddS⟩)
    (c_oddS : PySem.W.codeIn K cd_oddS "_law_odd_size" = true)
    (k_oddS : PySem.W.keepIn K (.ref f_oddS) = true)
    (a_oddR : PySem.W.nsIn K mainGlobals "_law_odd_rim" = some (some (.ref f_oddR)))
    (l_oddR : K.lookup f_oddR = some ⟨oc_oddR, od_oddR, .func (PySem.W.fnOf "_law_odd_rim" "_law_odd_rim" (defArgs sOddR) (defBody sOddR) (defScope sOddR) .none kV_oddR dc_oddR pm_oddR an_oddR cd_oddR ct_oddR), sl_oddR⟩)
    (c_oddR : PySem.W.codeIn K cd_oddR "_law_odd_rim" = true)
    (k_oddR : PySem.W.keepIn K (.ref f_oddR) = true)
    (a_good : PySem.W.nsIn K mainGlobals "_law_good_rim" = some (some (.ref f_good)))
    (l_good : K.lookup f_good = some ⟨oc_good, od_good, .func (PySem.W.fnOf "_law_good_rim" "_law_good_rim" (defArgs sGood) (defBody sGood) (defScope sGood) .none kV_good dc_good pm_good an_good cd_good ct_good), sl_good⟩)
    (c_good : PySem.W.codeIn K cd_good "_law_good_rim" = true)
    (k_good : PySem.W.keepIn K (.ref f_good) = true)
    (a_due : PySem.W.nsIn K mainGlobals "_law_due" = some (some (.ref f_due)))
    (l_due : K.lookup f_due = some ⟨oc_due, od_due, .func (PySem.W.fnOf "_law_due" "_law_due" (defArgs sDue) (defBody sDue) (defScope sDue) .none kV_due dc_due pm_due an_due cd_due ct_due), sl_due⟩)
    (c_due : PySem.W.codeIn K cd_due "_law_due" = true)
    (k_due : PySem.W.keepIn K (.ref f_due) = true)
    (a_found : PySem.W.nsIn K mainGlobals "_law_found" = some (some (.ref f_found)))
    (l_found : K.lookup f_found = some ⟨oc_found, od_found, .func (PySem.W.fnOf "_law_found" "_law_found" (defArgs sFound) (defBody sFound) (defScope sFound) .none kV_found dc_found pm_found an_found cd_found ct_found), sl_found⟩)
    (c_found : PySem.W.codeIn K cd_found "_law_found" = true)
    (k_found : PySem.W.keepIn K (.ref f_found) = true)
    (a_law : PySem.W.nsIn K mainGlobals "law" = some (some (.ref f_law)))
    (l_law : K.lookup f_law = some ⟨oc_law, od_law, .func (PySem.W.fnOf "law" "law" (defArgs sLaw) (defBody sLaw) (defScope sLaw) .none kV_law dc_law pm_law an_law cd_law ct_law), sl_law⟩)
    (c_law : PySem.W.codeIn K cd_law "law" = true)
    (k_law : PySem.W.keepIn K (.ref f_law) = true)
    (a_init : PySem.W.findIn K (.ref C) "__init__" = some (some (.ref f_init)))
    (i_init : PySem.W.isFn K (.ref f_init) = true)
    (l_init : K.lookup f_init = some ⟨oc_init, od_init, .func (PySem.W.fnOf "__init__" "Grid.__init__" (defArgs sInit) (defBody sInit) (defScope sInit) .none kV_init dc_init pm_init an_init cd_init ct_init), sl_init⟩)
    (c_init : PySem.W.codeIn K cd_init "Grid.__init__" = true)
    (k_init : PySem.W.keepIn K (.ref f_init) = true)
    (a_lines : PySem.W.findIn K (.ref C) "lines" = some (some (.ref f_lines)))
    (i_lines : PySem.W.isFn K (.ref f_lines) = true)
    (l_lines : K.lookup f_lines = some ⟨oc_lines, od_lines, .func (PySem.W.fnOf "lines" "Grid.lines" (defArgs sLines) (defBody sLines) (defScope sLines) .none kV_lines dc_lines pm_lines an_lines cd_lines ct_lines), sl_lines⟩)
    (c_lines : PySem.W.codeIn K cd_lines "Grid.lines" = true)
    (k_lines : PySem.W.keepIn K (.ref f_lines) = true)
    (a_many : PySem.W.findIn K (.ref C) "places_many" = some (some (.ref f_many)))
    (i_many : PySem.W.isFn K (.ref f_many) = true)
    (l_many : K.lookup f_many = some ⟨oc_many, od_many, .func (PySem.W.fnOf "places_many" "Grid.places_many" (defArgs sMany) (defBody sMany) (defScope sMany) .none kV_many dc_many pm_many an_many cd_many ct_many), sl_many⟩)
    (c_many : PySem.W.codeIn K cd_many "Grid.places_many" = true)
    (k_many : PySem.W.keepIn K (.ref f_many) = true)
    (a_tile : PySem.W.findIn K (.ref CG) "__init__" = some (some (.ref f_tile)))
    (i_tile : PySem.W.isFn K (.ref f_tile) = true)
    (l_tile : K.lookup f_tile = some ⟨oc_tile, od_tile, .func (PySem.W.fnOf "__init__" "TileError.__init__" (defArgs sTile) (defBody sTile) (defScope sTile) .none kV_tile dc_tile pm_tile an_tile cd_tile ct_tile), sl_tile⟩)
    (c_tile : PySem.W.codeIn K cd_tile "TileError.__init__" = true)
    (k_tile : PySem.W.keepIn K (.ref f_tile) = true)
    (pg : PySem.W.plainGet K C Str.empty = true)
    (hd : PySem.W.hasDictIn K C = true)
    (po : PySem.W.plainOver K C = true)
    (sa : PySem.W.findIn K (.ref C) "__setattr__" = some (some (.builtin "object.__setattr__")))
    (mk : PySem.W.makesIn K C = true)
    (kc : PySem.W.keepIn K (.ref C) = true)
    (nS : PySem.W.findIn K (.ref C) "sizes" = some none)
    (nR : PySem.W.findIn K (.ref C) "rims" = some none)
    (x1 : excIn K CG = true)
    (x2 : PySem.W.typeIn K (.ref f_tile) = some (.type "function"))
    (x3 : PySem.W.keepIn K (.ref CG) = true)
    (x4 : PySem.W.findIn K (.ref CG) "__setattr__" = some (some (.builtin "object.__setattr__")))
    (x5 : overE K CG = true)
    (x6 : PySem.W.hasDictIn K CG = true)
    (x7 : PySem.W.ktsIn K CG "ValueError" = true)
    (x8 : PySem.W.takerIn K CG "at" = some none)
    (y1 : PySem.W.exmOne K (.ref CG) (.ref CT) = some true)
    (y2 : PySem.W.kitAny K (.ref CG) ([C1, C2, C3].map Value.ref) = some false)
    (y3 : PySem.W.kitOne K (.ref CG) (.ref CG) = some true)
    (y4 : PySem.W.kitOne K (.ref CG) (.type "ValueError") = some true)
    (y5 : PySem.W.findIn K (.ref CG) "__getattribute__" = some (some (.builtin "BaseException.__getattribute__")))
    (y6 : PySem.W.findIn K (.ref CG) "__getattr__" = some none)
    (y7 : PySem.W.findIn K (.ref CG) "__class__" = some (some (.builtin "object.__class__")))
    (y8 : PySem.W.subIn K (.ref CG) (.type "object") = some true)
    (y9 : PySem.W.findIn K (.ref CG) "at" = some none)
    (z_isinstance : PySem.W.nsIn K mainGlobals "isinstance" = some none)
    (z_int : PySem.W.nsIn K mainGlobals "int" = some none)
    (z_bool : PySem.W.nsIn K mainGlobals "bool" = some none)
    (z_str : PySem.W.nsIn K mainGlobals "str" = some none)
    (z_tuple : PySem.W.nsIn K mainGlobals "tuple" = some none)
    (z_list : PySem.W.nsIn K mainGlobals "list" = some none)
    (z_len : PySem.W.nsIn K mainGlobals "len" = some none)
    (z_range : PySem.W.nsIn K mainGlobals "range" = some none)
    (z_enumerate : PySem.W.nsIn K mainGlobals "enumerate" = some none)
    (z_min : PySem.W.nsIn K mainGlobals "min" = some none)
    (z_zip : PySem.W.nsIn K mainGlobals "zip" = some none)
    (z_all : PySem.W.nsIn K mainGlobals "all" = some none)
    (z_ValueError : PySem.W.nsIn K mainGlobals "ValueError" = some none)
    (q_gf : PySem.W.nsIn K mainGlobals "GREATEST_FIXED" = some (some (.int 1000000000 t_gf)))
    (q_ml : PySem.W.nsIn K mainGlobals "MOST_LINES" = some (some (.int 3 t_ml)))
    (q_gs : PySem.W.nsIn K mainGlobals "GREATEST_SIZE" = some (some (.int 9 t_gs)))
    (q_mp : PySem.W.nsIn K mainGlobals "MOST_PLACES" = some (some (.int 40 t_mp)))
    : ∃ fd : FuncData, (∀ (s : Shared) (v : Value), BindsTo s fd ⟨[v], []⟩ [("_law_script", v)]) ∧ ∀ base : Heap, K.In base → base.Ns mainGlobals mg → FnOk l.prog w K mg base CX0 8 fa fd ["_law_script"] (spLaw K) := by
  have e := hfa.symm.trans (PySem.W.mg_of X G a_law)
  cases e
  have T : Txt K mg := ⟨PySem.W.mg_none_of X G z_isinstance, PySem.W.mg_none_of X G z_int, PySem.W.mg_none_of X G z_bool, PySem.W.mg_none_of X G z_str, PySem.W.mg_none_of X G z_tuple, PySem.W.mg_none_of X G z_list, PySem.W.mg_none_of X G z_len, PySem.W.mg_none_of X G z_range, PySem.W.mg_none_of X G z_enumerate, PySem.W.mg_none_of X G z_min, PySem.W.mg_none_of X G z_zip, PySem.W.mg_none_of X G z_all, ⟨_, PySem.W.mg_of X G q_gf⟩, ⟨_, PySem.W.mg_of X G q_ml⟩, ⟨_, PySem.W.mg_of X G q_gs⟩, ⟨_, PySem.W.mg_of X G q_mp⟩⟩
  have F_whole := fun_mk (st := sWhole) l_whole c_whole k_whole
  have F_within := fun_mk (st := sWithin) l_within c_within k_within
  have F_isrim := fun_mk (st := sIsRim) l_isrim c_isrim k_isrim
  have F_check := fun_mk (st := sCheck) l_check c_check k_check
  have F_prod := fun_mk (st := sProd) l_prod c_prod k_prod
  have F_cell := fun_mk (st := sCell) l_cell c_cell k_cell
  have F_well := fun_mk (st := sWell) l_well c_well k_well
  have F_draw := fun_mk (st := sDraw) l_draw c_draw k_draw
  have F_sizes := fun_mk (st := sSizes) l_sizes c_sizes k_sizes
  have F_rim := fun_mk (st := sRim) l_rim c_rim k_rim
  have F_oddS := fun_mk (st := sOddS) l_oddS c_oddS k_oddS
  have F_oddR := fun_mk (st := sOddR) l_oddR c_oddR k_oddR
  have F_good := fun_mk (st := sGood) l_good c_good k_good
  have F_due := fun_mk (st := sDue) l_due c_due k_due
  have F_found := fun_mk (st := sFound) l_found c_found k_found
  have F_law := fun_mk (st := sLaw) l_law c_law k_law
  have F_init := fun_mk (st := sInit) l_init c_init k_init
  have F_lines := fun_mk (st := sLines) l_lines c_lines k_lines
  have F_many := fun_mk (st := sMany) l_many c_many k_many
  have F_tile := fun_mk (st := sTile) l_tile c_tile k_tile
  have b_whole := F_whole.binds (ps := ["thing"]) fun _ _ _ _ _ _ us hl => match us, hl with | [_], _ => rfl
  have b_within := F_within.binds (ps := ["thing", "least", "most"]) fun _ _ _ _ _ _ us hl => match us, hl with | [_, _, _], _ => rfl
  have b_isrim := F_isrim.binds (ps := ["thing"]) fun _ _ _ _ _ _ us hl => match us, hl with | [_], _ => rfl
  have b_check := F_check.binds (ps := ["sizes", "rims"]) fun _ _ _ _ _ _ us hl => match us, hl with | [_, _], _ => rfl
  have b_prod := F_prod.binds (ps := ["sizes"]) fun _ _ _ _ _ _ us hl => match us, hl with | [_], _ => rfl
  have b_cell := F_cell.binds (ps := ["_law_script", "_law_k"]) fun _ _ _ _ _ _ us hl => match us, hl with | [_, _], _ => rfl
  have b_well := F_well.binds (ps := ["_law_script", "_law_k"]) fun _ _ _ _ _ _ us hl => match us, hl with | [_, _], _ => rfl
  have b_draw := F_draw.binds (ps := ["_law_well_here", "_law_most"]) fun _ _ _ _ _ _ us hl => match us, hl with | [_, _], _ => rfl
  have b_sizes := F_sizes.binds (ps := ["_law_well_here"]) fun _ _ _ _ _ _ us hl => match us, hl with | [_], _ => rfl
  have b_rim := F_rim.binds (ps := ["_law_well_here"]) fun _ _ _ _ _ _ us hl => match us, hl with | [_], _ => rfl
  have b_oddS := F_oddS.binds (ps := ["_law_well_here"]) fun _ _ _ _ _ _ us hl => match us, hl with | [_], _ => rfl
  have b_oddR := F_oddR.binds (ps := ["_law_well_here"]) fun _ _ _ _ _ _ us hl => match us, hl with | [_], _ => rfl
  have b_good := F_good.binds (ps := ["_law_rim_here"]) fun _ _ _ _ _ _ us hl => match us, hl with | [_], _ => rfl
  have b_due := F_due.binds (ps := ["_law_sizes_here", "_law_rims"]) fun _ _ _ _ _ _ us hl => match us, hl with | [_, _], _ => rfl
  have b_found := F_found.binds (ps := ["_law_sizes_here", "_law_rims"]) fun _ _ _ _ _ _ us hl => match us, hl with | [_, _], _ => rfl
  have b_init := F_init.binds (ps := ["self", "sizes", "rims"]) fun _ _ _ _ _ _ us hl => match us, hl with | [_, _, _], _ => rfl
  have b_lines := F_lines.binds (ps := ["self"]) fun _ _ _ _ _ _ us hl => match us, hl with | [_], _ => rfl
  have b_many := F_many.binds (ps := ["self"]) fun _ _ _ _ _ _ us hl => match us, hl with | [_], _ => rfl
  have b_tile := F_tile.binds (ps := ["self", "at"]) fun _ _ _ _ _ _ us hl => match us, hl with | [_, _], _ => rfl
  have m_whole := PySem.W.mg_of X G a_whole
  have m_within := PySem.W.mg_of X G a_within
  have m_isrim := PySem.W.mg_of X G a_isrim
  have m_check := PySem.W.mg_of X G a_check
  have m_prod := PySem.W.mg_of X G a_prod
  have m_cell := PySem.W.mg_of X G a_cell
  have m_well := PySem.W.mg_of X G a_well
  have m_draw := PySem.W.mg_of X G a_draw
  have m_sizes := PySem.W.mg_of X G a_sizes
  have m_rim := PySem.W.mg_of X G a_rim
  have m_oddS := PySem.W.mg_of X G a_oddS
  have m_oddR := PySem.W.mg_of X G a_oddR
  have m_good := PySem.W.mg_of X G a_good
  have m_due := PySem.W.mg_of X G a_due
  have m_found := PySem.W.mg_of X G a_found
  refine ⟨PySem.W.fnOf "law" "law" (defArgs sLaw) (defBody sLaw) (defScope sLaw) .none kV_law dc_law pm_law an_law cd_law ct_law, fun s v => .of_eq rfl, fun base _ _ => ?_⟩
  have TC : Cl K C := ⟨⟨pg, hd, po, sa⟩, nS, nR⟩
  have c_within : Cal l.prog w K mg base CX0 2 "is_within" ["thing", "least", "most"] spWithinG := ⟨_, _, ok_withinG F_within F_whole m_whole b_whole T, m_within, k_within, b_within⟩
  have Gw : FnOk l.prog w K mg base CX0 2 f_within _ ["thing", "least", "most"] spWithinG := ok_withinG F_within F_whole m_whole b_whole T
  have c_isrim : Cal l.prog w K mg base CX0 3 "is_rim" ["thing"] spIsRimG := ⟨_, _, ok_isRimG F_isrim F_within m_within b_within T Gw, m_isrim, k_isrim, b_isrim⟩
  have GT : FnOk l.prog w K mg base CX0 1 f_tile _ ["self", "at"] (spTile K) := ok_tile F_tile (PySem.W.mg_none_of X G z_ValueError)
  have NG : Ng K mg CG f_tile := ⟨⟨x1, a_tile, x2, x3⟩, ⟨x4, x5, x6, x7⟩, x8, PySem.W.mg_of X G aCG⟩
  have c_check : Cal l.prog w K mg base (CXe l.prog w) 4 "check_lines" ["sizes", "rims"] (spCheckE CG) := ⟨_, _, ok_checkE F_check c_within c_isrim T NG GT b_tile, m_check, k_check, b_check⟩
  have c_prod : Cal l.prog w K mg base CX0 1 "product" ["sizes"] spProd := ⟨_, _, ok_prod F_prod, m_prod, k_prod, b_prod⟩
  have Gi : FnOk l.prog w K mg base (CXe l.prog w) 5 f_init _ ["self", "sizes", "rims"] (spInitE CG C) := ok_initE F_init c_check c_prod T TC NG GT b_tile
  have Mi : Mk K C f_init := ⟨mk, a_init, i_init, kc⟩
  have Z : Ec K mg CG CT C1 C2 C3 := ⟨PySem.W.mg_of X G aCT, PySem.W.mg_of X G aCG, PySem.W.mg_of X G aC1, PySem.W.mg_of X G aC2, PySem.W.mg_of X G aC3, PySem.W.mg_none_of X G z_ValueError, y1, y2, y3, y4, ⟨x1, y5, y6, y7, y8⟩, x6, y9⟩
  have c_draw : Cal l.prog w K mg base CX0 1 "_law_draw" ["_law_well_here", "_law_most"] spDraw := ⟨_, _, ok_draw F_draw, m_draw, k_draw, b_draw⟩
  have c_good : Cal l.prog w K mg base CX0 1 "_law_good_rim" ["_law_rim_here"] spGood := ⟨_, _, ok_good F_good T, m_good, k_good, b_good⟩
  exact ok_law F_law ⟨⟨_, _, ok_well F_well F_cell m_cell b_cell T, m_well, k_well, b_well⟩, c_draw, ⟨_, _, ok_sizes F_sizes F_draw m_draw b_draw T, m_sizes, k_sizes, b_sizes⟩, ⟨_, _, ok_rim F_rim F_draw m_draw b_draw, m_rim, k_rim, b_rim⟩, ⟨_, _, ok_oddS F_oddS c_draw, m_oddS, k_oddS, b_oddS⟩, ⟨_, _, ok_oddR F_oddR c_draw, m_oddR, k_oddR, b_oddR⟩, ⟨_, _, ok_due F_due c_good T, m_due, k_due, b_due⟩, ⟨_, _, ok_found F_found Gi Mi b_init (PySem.W.mg_of X G aC) Z T TC, m_found, k_found, b_found⟩, ⟨_, _, Gi, Mi, b_init⟩, ⟨_, _, ok_manyW F_many c_prod TC, ⟨a_many, i_many, k_many⟩, b_many⟩, ⟨_, _, ok_linesW F_lines T TC, ⟨a_lines, i_lines, k_lines⟩, b_lines⟩, PySem.W.mg_of X G aC, T, TC⟩
theorem walk {l : PySem.W.OpenLaw} {q : Program} {loose : List Str} {XP : (Str → Option Value) → Heap → Prop} {YP : World → Heap → Prop} {d : DefRec} {K : Params → PySem.W.Frag} (hn : l.most = some 63) (hdf : d.params.defaults = [])
    (hY : ∀ (w : World) (h : Heap), YP w h → (K w.params).In h)
    (F : ∀ (w : World) (mg : Str → Option Value) (fa : Addr) (h : Heap), (K w.params).In h → h.Ns mainGlobals mg → mg d.name = some (.ref fa) →
      ∃ fd : FuncData, (∀ (s : Shared) (u : Value), BindsTo s fd ⟨[u], []⟩ [("_law_script", u)]) ∧ ∀ base : Heap, (K w.params).In base → base.Ns mainGlobals mg → FnOk l.prog w (K w.params) mg base CX0 8 fa fd ["_law_script"] (spLaw (K w.params))) :
    PySem.W.WalkO q loose XP YP l.row.toRowW d [] (fun f vs => PySem.call f vs) :=
  L2.walk_of (n := 63) (k := 8) (x := "_law_script") (CX := fun _ => CX0) (sp := fun w => spLaw (K w.params)) hn (by decide) hdf ⟨rfl, by decide, by decide⟩ hY F (fun _ _ a ns _ _ hS => ⟨a, ns, rfl, hS, fun _ => rfl⟩) fun _ _ _ _ _ z => z
end K1
open PySem PySem.W PyProof.Rows
set_option maxRecDepth 100000 in
set_option maxHeartbeats 0 in
theorem PySem.Challenge.cw_slanttiles_k01_what_makes_a_grid_holds : PySem.Challenge.rw_slanttiles_k01_what_makes_a_grid.Holds := by
  w_on; o_law; k_head; (case hw => w_witness2)
  k_fill
  refine K1.walk (l := PySem.Challenge.rw_slanttiles_k01_what_makes_a_grid) rfl rfl (fun w h Y => PySem.W.kIn_of Y) ?F
  case F =>
    intro w mg fa h KX G hmg
    refine' K1.all_mk KX G hmg ?aC ?aCG ?aCT ?aC1 ?aC2 ?aC3 ?a_whole ?l_whole ?c_whole ?k_whole ?a_within ?l_within ?c_within ?k_within ?a_isrim ?l_isrim ?c_isrim ?k_isrim ?a_check ?l_check ?c_check ?k_check ?a_prod ?l_prod ?c_prod ?k_prod ?a_cell ?l_cell ?c_cell ?k_cell ?a_well ?l_well ?c_well ?k_well ?a_draw ?l_draw ?c_draw ?k_draw ?a_sizes ?l_sizes ?c_sizes ?k_sizes ?a_rim ?l_rim ?c_rim ?k_rim ?a_oddS ?l_oddS ?c_oddS ?k_oddS ?a_oddR ?l_oddR ?c_oddR ?k_oddR ?a_good ?l_good ?c_good ?k_good ?a_due ?l_due ?c_due ?k_due ?a_found ?l_found ?c_found ?k_found ?a_law ?l_law ?c_law ?k_law ?a_init ?i_init ?l_init ?c_init ?k_init ?a_lines ?i_lines ?l_lines ?c_lines ?k_lines ?a_many ?i_many ?l_many ?c_many ?k_many ?a_tile ?i_tile ?l_tile ?c_tile ?k_tile ?pg ?hd ?po ?sa ?mk ?kc ?nS ?nR ?x1 ?x2 ?x3 ?x4 ?x5 ?x6 ?x7 ?x8 ?y1 ?y2 ?y3 ?y4 ?y5 ?y6 ?y7 ?y8 ?y9 ?z_isinstance ?z_int ?z_bool ?z_str ?z_tuple ?z_list ?z_len ?z_range ?z_enumerate ?z_min ?z_zip ?z_all ?z_ValueError ?q_gf ?q_ml ?q_gs ?q_mp
    (case aC => k_is); (case aCG => k_is); (case aCT => k_is); (case aC1 => k_is); (case aC2 => k_is)
    (case aC3 => k_is); (case a_whole => k_is); (case l_whole => k_is); (case c_whole => k_is); (case k_whole => k_is)
    (case a_within => k_is); (case l_within => k_is); (case c_within => k_is); (case k_within => k_is); (case a_isrim => k_is)
    (case l_isrim => k_is); (case c_isrim => k_is); (case k_isrim => k_is); (case a_check => k_is); (case l_check => k_is)
    (case c_check => k_is); (case k_check => k_is); (case a_prod => k_is); (case l_prod => k_is); (case c_prod => k_is)
    (case k_prod => k_is); (case a_cell => k_is); (case l_cell => k_is); (case c_cell => k_is); (case k_cell => k_is)
    (case a_well => k_is); (case l_well => k_is); (case c_well => k_is); (case k_well => k_is); (case a_draw => k_is)
    (case l_draw => k_is); (case c_draw => k_is); (case k_draw => k_is); (case a_sizes => k_is); (case l_sizes => k_is)
    (case c_sizes => k_is); (case k_sizes => k_is); (case a_rim => k_is); (case l_rim => k_is); (case c_rim => k_is)
    (case k_rim => k_is); (case a_oddS => k_is); (case l_oddS => k_is); (case c_oddS => k_is); (case k_oddS => k_is)
    (case a_oddR => k_is); (case l_oddR => k_is); (case c_oddR => k_is); (case k_oddR => k_is); (case a_good => k_is)
    (case l_good => k_is); (case c_good => k_is); (case k_good => k_is); (case a_due => k_is); (case l_due => k_is)
    (case c_due => k_is); (case k_due => k_is); (case a_found => k_is); (case l_found => k_is); (case c_found => k_is)
    (case k_found => k_is); (case a_law => k_is); (case l_law => k_is); (case c_law => k_is); (case k_law => k_is)
    (case a_init => k_is); (case i_init => k_is); (case l_init => k_is); (case c_init => k_is); (case k_init => k_is)
    (case a_lines => k_is); (case i_lines => k_is); (case l_lines => k_is); (case c_lines => k_is); (case k_lines => k_is)
    (case a_many => k_is); (case i_many => k_is); (case l_many => k_is); (case c_many => k_is); (case k_many => k_is)
    (case a_tile => k_is); (case i_tile => k_is); (case l_tile => k_is); (case c_tile => k_is); (case k_tile => k_is)
    (case pg => k_is); (case hd => k_is); (case po => k_is); (case sa => k_is); (case mk => k_is)
    (case kc => k_is); (case nS => k_is); (case nR => k_is); (case x1 => kernel_rfl); (case x2 => k_is)
    (case x3 => k_is); (case x4 => k_is); (case x5 => kernel_rfl); (case x6 => k_is); (case x7 => kts_isx)
    (case x8 => k_is); (case y1 => kts_exm); (case y2 => kit_is); (case y3 => kit_is); (case y4 => kit_is)
    (case y5 => k_is); (case y6 => k_is); (case y7 => k_is); (case y8 => k_is); (case y9 => k_is)
    (case z_isinstance => k_is); (case z_int => k_is); (case z_bool => k_is); (case z_str => k_is); (case z_tuple => k_is)
    (case z_list => k_is); (case z_len => k_is); (case z_range => k_is); (case z_enumerate => k_is); (case z_min => k_is)
    (case z_zip => k_is); (case z_all => k_is); (case z_ValueError => k_is); (case q_gf => k_is); (case q_ml => k_is)
    (case q_gs => k_is); (case q_mp => k_is)
