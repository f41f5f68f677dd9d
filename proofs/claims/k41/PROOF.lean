import PyProof.Rows.All
import Wide.All
import OpenK.AllK
import Wide.FinOn
import Lean
import PyProof.EqAt
import PyProof.EqKinds
import PyProof.TupleCall
import PyProof.NeKinds
import PyProof.EnumStmt
import PyProof.EnumMake
import PyProof.EnumFor
import PyProof.ListMulRoad
import PyProof.CompFree
import PyProof.CompMap
import PyProof.Rows.SortWalk
import PyProof.Rows.MinMaxN
import PyProof.Rows.SeqMore2
import PyProof.Rows.SetFrom
import KE.KDictList
import PyProof.SumWalk
import PyProof.WalksMore
import PyProof.TupleIter
import PyProof.ListRange
import KE.KDictSum
import PySem.Challenge.RW_slanttiles_k41_waves_of_pieces
set_option Elab.async false
set_option linter.all false
set_option maxRecDepth 100000
/-! THE HAND LAYER, for ints, bools, texts, own classes, LISTS and tuples (index, slices, in, append, pop ..), calls, loops. Paste it whole ahead of your own text; what your proof does not reach may be deleted. -/
namespace L2
open PySem PySem.Spec PyProof.Rows

/-- a key: an int or a str -/
abbrev Key := Sum Int Str
def keyIs : Key → Value → Bool
  | .inl k, v => Value.isInt k v
  | .inr x, v => Value.isStrOf x v
def keyH (w : World) : Key → Int
  | .inl k => hashInt k
  | .inr x => hashStr w x
theorem keyIs_shape : ∀ {k : Key} {v : Value}, keyIs k v = true → (∃ i t, k = Sum.inl i ∧ v = Value.int i t) ∨ (∃ x t, k = Sum.inr x ∧ v = Value.str x t)
  | .inl i, v, h => by
    obtain ⟨t, e⟩ := Value.isInt_shape (k := i) (v := v) h
    exact .inl ⟨i, t, rfl, e⟩
  | .inr x, v, h => by
    obtain ⟨t, e⟩ := Value.isStrOf_shape (x := x) (v := v) h
    exact .inr ⟨x, t, rfl, e⟩
theorem keyIs_int (i : Int) (t : Tok) : keyIs (.inl i) (.int i t) = true := by simp [keyIs, Value.isInt]
theorem keyIs_str (x : Str) (t : Tok) : keyIs (.inr x) (.str x t) = true := by simp [keyIs, Value.isStrOf]
theorem key_ll (a b : Int) : decide ((Sum.inl a : Key) = Sum.inl b) = (a == b) := by
  by_cases e : a = b
  · subst e; simp
  · have h : ¬ (Sum.inl a : Key) = Sum.inl b := fun q => e (Sum.inl.inj q)
    rw [decide_eq_false h]
    exact (beq_eq_false_iff_ne.mpr e).symm
theorem key_rr (a b : Str) : decide ((Sum.inr a : Key) = Sum.inr b) = decide (a = b) := by
  by_cases e : a = b
  · subst e; simp
  · have h : ¬ (Sum.inr a : Key) = Sum.inr b := fun q => e (Sum.inr.inj q)
    rw [decide_eq_false h, decide_eq_false e]
theorem key_lr (a : Int) (b : Str) : decide ((Sum.inl a : Key) = Sum.inr b) = false := decide_eq_false (fun q => nomatch q)
theorem key_rl (a : Str) (b : Int) : decide ((Sum.inr a : Key) = Sum.inl b) = false := decide_eq_false (fun q => nomatch q)

def mixKind (prog : Program) (w : World) : PySem.KeyKind prog w Key where
  is := keyIs
  hash := keyH w
  inj := fun v a b ha hb => by
    rcases keyIs_shape ha with ⟨i, t, rfl, rfl⟩ | ⟨x, t, rfl, rfl⟩
    · rcases keyIs_shape hb with ⟨j, u, rfl, e⟩ | ⟨y, u, rfl, e⟩
      · injection e with e1 _; rw [e1]
      · exact nomatch e
    · rcases keyIs_shape hb with ⟨j, u, rfl, e⟩ | ⟨y, u, rfl, e⟩
      · exact nomatch e
      · injection e with e1 _; rw [e1]
  byValue := fun k v h => by
    rcases keyIs_shape h with ⟨i, t, rfl, rfl⟩ | ⟨x, t, rfl, rfl⟩ <;> rfl
  pyHash := fun hv h => by
    rcases keyIs_shape hv with ⟨i, t, rfl, rfl⟩ | ⟨x, t, rfl, rfl⟩
    · exact wpAny_pyHash_int h
    · exact wpAny_pyHash_str h
  eqBool := fun hu hv h => by
    rcases keyIs_shape hu with ⟨i, t, rfl, rfl⟩ | ⟨x, t, rfl, rfl⟩
    · rcases keyIs_shape hv with ⟨j, u, rfl, rfl⟩ | ⟨y, u, rfl, rfl⟩
      · rw [key_ll] at h; exact wpAny_eqBool_int h
      · rw [key_lr] at h; exact SeqAt.EqAt.int_str i t y u _ _ _ _ h
    · rcases keyIs_shape hv with ⟨j, u, rfl, rfl⟩ | ⟨y, u, rfl, rfl⟩
      · rw [key_rl] at h; exact SeqAt.EqAt.str_int x t j u _ _ _ _ h
      · rw [key_rr] at h; exact wpAny_eqBool_str h
  «strs» := fun k x t v h => by
    rcases keyIs_shape h with ⟨i, u, rfl, e⟩ | ⟨y, u, rfl, e⟩
    · exact nomatch e
    · injection e with e1 _
      subst e1
      cases v <;> rfl

theorem mixKind_is (prog : Program) (w : World) (k : Key) (v : Value) : (mixKind prog w).is k v = keyIs k v := rfl
theorem mixKind_int (prog : Program) (w : World) (i : Int) (t : Tok) : (mixKind prog w).is (.inl i) (.int i t) = true := keyIs_int i t
theorem mixKind_str (prog : Program) (w : World) (x : Str) (t : Tok) : (mixKind prog w).is (.inr x) (.str x t) = true := keyIs_str x t
end L2

namespace L2
open PySem PySem.Spec PyProof.Rows

/-- a value, without the heap -/
inductive V where
  | non | bl (b : Bool) | int (i : Int) | str (x : Str) | byt (b : Array UInt8) | flt (b : UInt64) | ref (a : Addr) | ty (n : String)
  deriving DecidableEq

def RelV : V → Value → Prop
  | .non, u => u = Value.none
  | .bl b, u => u = Value.bool b
  | .int i, u => ∃ t, u = Value.int i t
  | .str x, u => ∃ t, u = Value.str x t
  | .byt b, u => ∃ t, u = Value.bytes b t
  | .flt b, u => ∃ t, u = Value.float b t
  | .ref a, u => u = Value.ref a
  | .ty n, u => u = Value.type n

abbrev Vals : List V → List Value → Prop := Paired RelV
theorem Vals.length {xs : List V} {us : List Value} (r : Vals xs us) : xs.length = us.length := Paired.length r
theorem Vals.get : ∀ {xs : List V} {us : List Value} {i : Nat} {x : V}, Vals xs us → xs[i]? = some x → ∃ u, us[i]? = some u ∧ RelV x u
  | _, _, _, _, .nil, e => by simp at e
  | _, _, 0, _, .cons r _, e => by simp at e; subst e; exact ⟨_, rfl, r⟩
  | _, _, i + 1, x, .cons _ t, e => by
    obtain ⟨u, h1, h2⟩ := Vals.get (i := i) (x := x) t (by simpa using e)
    exact ⟨u, by simpa using h1, h2⟩
theorem Vals.set {x : V} {u : Value} (r : RelV x u) : ∀ {xs : List V} {us : List Value} (i : Nat), Vals xs us → Vals (xs.set i x) (us.set i u)
  | _, _, _, .nil => .nil
  | _, _, 0, .cons _ t => .cons r t
  | _, _, i + 1, .cons q t => .cons q (Vals.set r i t)
theorem Vals.append : ∀ {xs ys : List V} {us ws : List Value}, Vals xs us → Vals ys ws → Vals (xs ++ ys) (us ++ ws)
  | _, _, _, _, .nil, s => s
  | _, _, _, _, .cons r t, s => .cons r (Vals.append t s)
theorem Vals.take : ∀ {xs : List V} {us : List Value} (n : Nat), Vals xs us → Vals (xs.take n) (us.take n)
  | _, _, 0, _ => .nil
  | _, _, _ + 1, .nil => .nil
  | _, _, n + 1, .cons r t => .cons r (Vals.take n t)
theorem Vals.drop : ∀ {xs : List V} {us : List Value} (n : Nat), Vals xs us → Vals (xs.drop n) (us.drop n)
  | _, _, 0, r => r
  | _, _, _ + 1, .nil => .nil
  | _, _, n + 1, .cons _ t => Vals.drop n t
theorem Vals.none_of : ∀ {xs : List V} {us : List Value} {i : Nat}, Vals xs us → xs[i]? = none → us[i]? = none := fun {xs us i} r e => by
  have h1 := r.length
  have h2 : xs.length ≤ i := List.getElem?_eq_none_iff.mp e
  exact List.getElem?_eq_none_iff.mpr (by omega)

def RelO : Option V → Option Value → Prop
  | some v, some u => RelV v u
  | none, none => True
  | _, _ => False
def KV {κ : Type} : List (κ × V) → List (κ × Value) → Prop := Paired fun (p : κ × V) (q : κ × Value) => p.1 = q.1 ∧ RelV p.2 q.2

/-- a key of a dict (00_mix): an int or a text -/
def kV : Key → V
  | .inl i => .int i
  | .inr x => .str x

/-- what stands at a tracked address -/
inductive HO where
  /-- a list -/
  | lst (xs : List V)
  /-- a tuple (never changes) -/
  | tup (xs : List V)
  /-- a dict whose keys are ints and texts; one whose keys are tuples of ints and texts (the empty one is both) -/
  | dK (kvs : List (Key × V)) | dT (kvs : List (List Key × V))
  /-- a set of ints: its members, its size -/
  | set (S : Int → Bool) (n : Nat)
  /-- an instance of the class at C, its dict at dx, its attributes -/
  | ins (C dx : Addr) (fs : List (Str × V))
  /-- the dict of the instance at x -/
  | own (x : Addr)
  /-- the dict of an exception -/
  | xd (fs : List (Str × V))
  /-- a bound method, f of x -/
  | met (f x : Addr)
  /-- a range object lo, lo + 1, .. below hi -/
  | rng (lo hi : Int)
  /-- a thing that is known to the object (the script; a dict while a loop walks it): read, never written while it is so -/
  | frz (o : Obj) (u : HO)
  /-- a code object's table -/
  | tbl (ps : Array Value)
  /-- any other thing, by what is true of its one object (a def of one's own: SetO a S n := HO.ext fun h => ..) -/
  | ext (φ : Heap → Prop)

abbrev Hp := Addr → Option HO
def upd (H : Hp) (a : Addr) (o : HO) : Hp := fun b => if b = a then some o else H b
theorem upd_same {H : Hp} {a : Addr} {o : HO} : upd H a o a = some o := by unfold upd; rw [if_pos rfl]
theorem upd_ne {H : Hp} {a b : Addr} {o : HO} (h : b ≠ a) : upd H a o b = H b := by unfold upd; rw [if_neg h]
theorem upd_upd {H : Hp} {a : Addr} {o u : HO} : upd (upd H a o) a u = upd H a u := by
  funext b; unfold upd; split <;> rfl
/-- two objects of different content stand apart -/
theorem ne_of {H : Hp} {a b : Addr} {o u : HO} (h : H a = some o) (h' : H b = some u) (d : o ≠ u) : a ≠ b := by
  intro e; subst e; rw [h] at h'; exact d (Option.some.inj h')
theorem ne_of_none {H : Hp} {a b : Addr} {o : HO} (h : H a = some o) (h' : H b = none) : a ≠ b := by
  intro e; subst e; rw [h] at h'; cases h'

section
variable (P : Program) (w : World)
def ObjOk (H : Hp) (h : Heap) (a : Addr) : HO → Prop
  | .lst xs => xs.length ≤ sizeLine ∧ ∃ (its : List Value) (n : Nat), Vals xs its ∧ h.get? a = some { cls := .type "list", data := .seq its.toArray n }
  | .tup xs => xs.length ≤ sizeLine ∧ ∃ its : List Value, Vals xs its ∧ IsTup h a its.toArray
  | .dK kvs => kvs.length ≤ sizeLine ∧ (a == sysModules) = false ∧ ∃ vs, KV kvs vs ∧ h.DictOf (mixKind P w) a vs
  | .dT kvs => kvs.length ≤ sizeLine ∧ (a == sysModules) = false ∧ ∃ xs : List (List Key × Addr × Value),
      Paired (fun (p : List Key × V) (q : List Key × Addr × Value) => p.1 = q.1 ∧ H q.2.1 = some (.tup (p.1.map kV)) ∧ RelV p.2 q.2.2) kvs xs ∧
      ∃ o es ep, h.get? a = some o ∧ o.ExactDict ∧ o.data = .dict es ep ∧ es.toList = xs.map (entryOfKey (tupleKind (mixKind P w))) ∧ (xs.map (·.1)).Nodup
  | .set S n => h.SetOf (intKind P w) a S n
  | .ins C dx fs => H dx = some (.own a) ∧ fs.length ≤ 1000 ∧ dx ≠ a ∧ h.get? a = some (PySem.W.instObj C dx) ∧
      ∃ mA, h.Ns1 dx mA ∧ (∀ f, RelO (fs.lookup f) (mA f)) ∧ PySem.Within mA (fs.map (·.1))
  | .own _ => ∃ o, h.get? a = some o
  | .xd fs => ∃ mA, h.Ns1 a mA ∧ ∀ f, RelO (fs.lookup f) (mA f)
  | .rng lo hi => ∃ t u v, h.get? a = some { cls := .type "range", data := .fields #[.int lo t, .int hi u, .int 1 v] }
  | .frz o u => h.get? a = some o ∧ ObjOk H h a u
  | .tbl ps => h.get? a = some { cls := .none, data := .fields ps }
  | .met f x => h.get? a = some (PySem.W.methodObj (.ref f) (.ref x))
  | .ext φ => φ h ∧ (∃ o, h.get? a = some o) ∧ ∀ h1 h2 : Heap, φ h1 → (∀ o, h1.get? a = some o → h2.get? a = some o) → φ h2
/-- the abstract heap is held -/
def HOk (H : Hp) (h : Heap) : Prop := ∀ a o, H a = some o → ObjOk P w H h a o
end

section
variable {P : Program} {w : World} {H H' : Hp} {h h' : Heap} {a : Addr} {o : HO}
theorem ObjOk.lt (x : ObjOk P w H h a o) : a < h.objs.size := by
  cases o with
  | lst xs => obtain ⟨_, _, _, _, e⟩ := x; exact Heap.lt_size e
  | tup xs => obtain ⟨_, _, _, p⟩ := x; exact p.lt
  | dK kvs => obtain ⟨_, _, _, _, o, _, _, e, _⟩ := x; exact Heap.lt_size e
  | dT kvs => obtain ⟨_, _, _, _, o, _, _, e, _⟩ := x; exact Heap.lt_size e
  | set S n => obtain ⟨o, _, _, _, e, _⟩ := x; exact Heap.lt_size e
  | ins C dx fs => obtain ⟨_, _, _, e, _⟩ := x; exact Heap.lt_size e
  | own y => obtain ⟨_, e⟩ := x; exact Heap.lt_size e
  | xd fs => obtain ⟨_, ⟨_, _, _, e, _⟩, _⟩ := x; exact Heap.lt_size e
  | rng lo hi => obtain ⟨_, _, _, e⟩ := x; exact Heap.lt_size e
  | frz ob u => obtain ⟨e, _⟩ := x; exact Heap.lt_size e
  | tbl ps => exact Heap.lt_size (show h.get? a = some _ from x)
  | met f y => exact Heap.lt_size (show h.get? a = some _ from x)
  | ext φ => obtain ⟨_, ⟨_, e⟩, _⟩ := x; exact Heap.lt_size e
theorem Paired.mapP {α β : Type} {F G : α → β → Prop} : ∀ {l₁ : List α} {l₂ : List β}, Paired F l₁ l₂ → (∀ a b, F a b → G a b) → Paired G l₁ l₂
  | _, _, .nil, _ => .nil
  | _, _, .cons r t, f => .cons (f _ _ r) (Paired.mapP t f)
theorem Paired.imp' {α β : Type} {F G : α → β → Prop} (f : ∀ a b, F a b → G a b) {l₁ : List α} {l₂ : List β} (r : Paired F l₁ l₂) : Paired G l₁ l₂ := Paired.mapP r f
/-- what an object's description leans on: its own object, its own dict, the tuples -/
theorem ObjOk.stay (x : ObjOk P w H h a o) (k : ∀ b u, (b = a ∨ H b = some (.own a)) → h.get? b = some u → h'.get? b = some u)
    (ho : ∀ b, H b = some (.own a) → H' b = some (.own a)) (ht : ∀ b xs, H b = some (.tup xs) → H' b = some (.tup xs)) : ObjOk P w H' h' a o := by
  induction o with
  | lst xs => obtain ⟨z, its, n, r, e⟩ := x; exact ⟨z, its, n, r, k _ _ (.inl rfl) e⟩
  | tup xs => obtain ⟨z, its, r, ob, e, c⟩ := x; exact ⟨z, its, r, ob, k _ _ (.inl rfl) e, c⟩
  | dK kvs => obtain ⟨z, y, vs, r, ob, es, ep, e, c⟩ := x; exact ⟨z, y, vs, r, ob, es, ep, k _ _ (.inl rfl) e, c⟩
  | dT kvs =>
    obtain ⟨z, y, xs, r, ob, es, ep, e, c⟩ := x
    exact ⟨z, y, xs, Paired.mapP r fun p q z => ⟨z.1, ht _ _ z.2.1, z.2.2⟩, ob, es, ep, k _ _ (.inl rfl) e, c⟩
  | set S n => obtain ⟨ob, es, ep, t, e, c⟩ := x; exact ⟨ob, es, ep, t, k _ _ (.inl rfl) e, c⟩
  | ins C dx fs =>
    obtain ⟨d, z, ne, e, mA, ⟨od, es, ep, e2, c⟩, r⟩ := x
    exact ⟨ho _ d, z, ne, k _ _ (.inl rfl) e, mA, ⟨od, es, ep, k _ _ (.inr d) e2, c⟩, r⟩
  | own y => obtain ⟨ob, e⟩ := x; exact ⟨ob, k _ _ (.inl rfl) e⟩
  | xd fs => obtain ⟨mA, ⟨od, es, ep, e, c⟩, r⟩ := x; exact ⟨mA, ⟨od, es, ep, k _ _ (.inl rfl) e, c⟩, r⟩
  | rng lo hi => obtain ⟨t, u, v, e⟩ := x; exact ⟨t, u, v, k _ _ (.inl rfl) e⟩
  | frz ob u ih => obtain ⟨e, q⟩ := x; exact ⟨k _ _ (.inl rfl) e, ih q⟩
  | tbl ps =>
    have e : h.get? a = some { cls := .none, data := .fields ps } := x
    show h'.get? a = some { cls := .none, data := .fields ps }
    exact k a _ (.inl rfl) e
  | met f y =>
    have e : h.get? a = some (PySem.W.methodObj (.ref f) (.ref y)) := x
    show h'.get? a = some (PySem.W.methodObj (.ref f) (.ref y))
    exact k a _ (.inl rfl) e
  | ext φ => obtain ⟨p, ⟨o, e⟩, st⟩ := x; exact ⟨st _ _ p fun o q => k _ _ (.inl rfl) q, ⟨o, k _ _ (.inl rfl) e⟩, st⟩
theorem HOk.lt (x : HOk P w H h) (e : H a = some o) : a < h.objs.size := (x a o e).lt
theorem HOk.fresh (x : HOk P w H h) (e : h.objs.size ≤ a) : H a = none := by
  cases q : H a with
  | none => rfl
  | some u => exact absurd (Nat.lt_of_lt_of_le (x.lt q) e) (Nat.lt_irrefl _)
/-- every object of the heap is kept -/
theorem HOk.kept (x : HOk P w H h) (k : ∀ b u, h.get? b = some u → h'.get? b = some u) : HOk P w H h' := fun a o e =>
  (x a o e).stay (fun b u _ q => k b u q) (fun _ q => q) fun _ _ q => q
/-- a new object is laid and tracked -/
theorem HOk.laid (x : HOk P w H h) (k : ∀ b u, h.get? b = some u → h'.get? b = some u) (hp : h.objs.size ≤ a) (new : ObjOk P w (upd H a o) h' a o) : HOk P w (upd H a o) h' := fun b u e => by
  have hn := x.fresh hp
  by_cases hb : b = a
  · subst hb; rw [upd_same] at e; cases e; exact new
  · rw [upd_ne hb] at e
    exact (x b u e).stay (fun c v _ q => k c v q) (fun c q => by rw [upd_ne (ne_of_none q hn)]; exact q) fun c xs q => by rw [upd_ne (ne_of_none q hn)]; exact q
end

/-- what may be read as u: it is u, or a known u -/
def Rd (H : Hp) (a : Addr) (u : HO) : Prop := H a = some u ∨ ∃ o, H a = some (.frz o u)
theorem Rd.of {H : Hp} {a : Addr} {u : HO} (h : H a = some u) : Rd H a u := .inl h
theorem Rd.ok {P : Program} {w : World} {H : Hp} {h : Heap} {a : Addr} {u : HO} (r : Rd H a u) (x : HOk P w H h) : ObjOk P w H h a u := by
  rcases r with r | ⟨o, r⟩
  · exact x a u r
  · obtain ⟨_, q⟩ := x a _ r
    exact q
/-- what may be written -/
def Mut : Option HO → Prop
  | some (.lst _) => True
  | some (.dK _) => True
  | some (.dT _) => True
  | some (.set _ _) => True
  | some (.ins _ _ _) => True
  | some (.ext _) => True
  | _ => False
section
variable {P : Program} {w : World} {H : Hp} {h h' : Heap} {x e : Addr} {o' : HO}
/-- the object at e is changed: x itself, or the dict of the instance x -/
theorem HOk.write (ok : HOk P w H h) (mu : Mut (H x)) (he : e = x ∨ H e = some (.own x)) (k : ∀ b u, b ≠ e → h.get? b = some u → h'.get? b = some u) (heo : ∃ u, h'.get? e = some u)
    (new : ObjOk P w (upd H x o') h' x o') : HOk P w (upd H x o') h' := fun b u q => by
  have nown : ∀ c y, H c = some (.own y) → c ≠ x := fun c y r z => by subst z; rw [r] at mu; exact mu
  have ntup : ∀ c xs, H c = some (.tup xs) → c ≠ x := fun c xs r z => by subst z; rw [r] at mu; exact mu
  by_cases hb : b = x
  · subst hb; rw [upd_same] at q; cases q; exact new
  · rw [upd_ne hb] at q
    by_cases hbe : b = e
    · have q' : H b = some (.own x) := by
        rcases he with z | z
        · exact absurd (hbe.trans z) hb
        · rw [hbe]; exact z
      rw [q] at q'; cases q'
      obtain ⟨v, hv⟩ := heo
      exact ⟨v, by rw [hbe]; exact hv⟩
    · refine (ok b u q).stay (fun c v hc r => k c v ?_ r) (fun c r => by rw [upd_ne (nown c b r)]; exact r) fun c xs r => by rw [upd_ne (ntup c xs r)]; exact r
      rcases hc with rfl | hc
      · exact hbe
      · rintro rfl
        rcases he with z | z
        · exact nown c b hc z
        · rw [hc] at z; cases z; exact hb rfl
end

/-! ### kept unless tracked; of the frames at fs (the callers') the slots may change (an exception that passes writes there); of the records at ex (iterators) nothing is said -/
structure Un (fs ex : List Addr) (H H' : Hp) (h h' : Heap) : Prop where
  keep : ∀ b o, h.get? b = some o → H b = none → b ∉ fs → b ∉ ex → h'.get? b = some o
  slot : ∀ b o, h.get? b = some o → H b = none → b ∈ fs → b ∉ ex → ∃ sl, h'.get? b = some { o with slots := sl }
  free : ∀ b o, h.get? b = some o → H b = none → b ∉ ex → H' b = none
  there : ∀ b o, h.get? b = some o → b ∉ ex → ∃ o', h'.get? b = some o'
  tups : ∀ b xs, H b = some (.tup xs) → H' b = some (.tup xs)
  frzs : ∀ b o u, H b = some (.frz o u) → H' b = some (.frz o u)
  tbls : ∀ b ps, H b = some (.tbl ps) → ∃ more, H' b = some (.tbl (ps ++ more))
section
variable {fs fs' ex ex' : List Addr} {H H1 H2 : Hp} {h h1 h2 h' : Heap} {a x e : Addr} {o : HO}
theorem Un.any (u : Un fs ex H H1 h h1) {b : Addr} {ob : Obj} (q : h.get? b = some ob) (n : H b = none) (hx : b ∉ ex) : ∃ sl, h1.get? b = some { ob with slots := sl } := by
  by_cases hb : b ∈ fs
  · exact u.slot b ob q n hb hx
  · exact ⟨ob.slots, u.keep b ob q n hb hx⟩
theorem Un.trans (a : Un fs ex H H1 h h1) (b : Un fs ex H1 H2 h1 h2) : Un fs ex H H2 h h2 where
  keep := fun c ob q n hc hx => b.keep c ob (a.keep c ob q n hc hx) (a.free c ob q n hx) hc hx
  slot := fun c ob q n hc hx => by
    obtain ⟨sl, e1⟩ := a.slot c ob q n hc hx
    obtain ⟨sl', e2⟩ := b.slot c _ e1 (a.free c ob q n hx) hc hx
    exact ⟨sl', e2⟩
  free := fun c ob q n hx => by
    obtain ⟨o', e1⟩ := a.there c ob q hx
    exact b.free c o' e1 (a.free c ob q n hx) hx
  there := fun c ob q hx => by
    obtain ⟨o', e1⟩ := a.there c ob q hx
    exact b.there c o' e1 hx
  tups := fun c xs q => b.tups c xs (a.tups c xs q)
  frzs := fun c ob xs q => b.frzs c ob xs (a.frzs c ob xs q)
  tbls := fun c ps q => by
    obtain ⟨m1, e1⟩ := a.tbls c ps q
    obtain ⟨m2, e2⟩ := b.tbls c _ e1
    exact ⟨m1 ++ m2, by rw [e2, Array.append_assoc]⟩
theorem Un.kept (k : ∀ b u, h.get? b = some u → h'.get? b = some u) : Un fs ex H H h h' :=
  ⟨fun b ob q _ _ _ => k b ob q, fun b ob q _ _ _ => ⟨ob.slots, k b ob q⟩, fun _ _ _ n _ => n, fun b ob q _ => ⟨ob, k b ob q⟩, fun _ _ q => q, fun _ _ _ q => q, fun _ ps q => ⟨#[], by rw [q]; simp⟩⟩
theorem Un.refl : Un fs ex H H h h := Un.kept fun _ _ q => q
theorem Un.laid (k : ∀ b u, h.get? b = some u → h'.get? b = some u) (hp : h.objs.size ≤ a) (hn : H a = none) : Un fs ex H (upd H a o) h h' where
  keep := fun b u q _ _ _ => k b u q
  slot := fun b u q _ _ _ => ⟨u.slots, k b u q⟩
  free := fun b u q n _ => by rw [upd_ne (Nat.ne_of_lt (Nat.lt_of_lt_of_le (Heap.lt_size q) hp))]; exact n
  there := fun b u q _ => ⟨u, k b u q⟩
  tups := fun b xs q => by rw [upd_ne (ne_of_none q hn)]; exact q
  frzs := fun b u xs q => by rw [upd_ne (ne_of_none q hn)]; exact q
  tbls := fun b ps q => ⟨#[], by rw [upd_ne (ne_of_none q hn), q]; simp⟩
theorem Un.write (mu : Mut (H x)) (he : e = x ∨ H e = some (.own x)) (k : ∀ b u, b ≠ e → h.get? b = some u → h'.get? b = some u) (heo : ∃ u, h'.get? e = some u) : Un fs ex H (upd H x o) h h' := by
  have hx : ∀ b, H b = none → b ≠ x := fun b n z => by subst z; rw [n] at mu; exact mu
  have hb : ∀ b, H b = none → b ≠ e := fun b n z => by
    subst z
    rcases he with r | r
    · exact hx b n r
    · rw [n] at r; cases r
  have hm : ∀ b u, H b = some u → ¬ Mut (some u) → b ≠ x := fun b u q nm z => by subst z; rw [q] at mu; exact nm mu
  refine ⟨fun b u q n _ _ => k b u (hb b n) q, fun b u q n _ _ => ⟨u.slots, k b u (hb b n) q⟩, fun b u q n _ => by rw [upd_ne (hx b n)]; exact n, fun b u q _ => ?_,
    fun b xs q => by rw [upd_ne (hm b _ q fun z => z)]; exact q, fun b u xs q => by rw [upd_ne (hm b _ q fun z => z)]; exact q, fun b ps q => ⟨#[], by rw [upd_ne (hm b _ q fun z => z), q]; simp⟩⟩
  by_cases hbe : b = e
  · subst hbe; exact heo
  · exact ⟨u, k b u hbe q⟩
theorem Un.mono (u : Un fs ex H H1 h h1) (hs : ∀ b ∈ fs, b ∈ fs') (hx : ∀ b ∈ ex, b ∈ ex') : Un fs' ex' H H1 h h1 :=
  ⟨fun b ob q n hb he => u.keep b ob q n (fun z => hb (hs b z)) fun z => he (hx b z), fun _ _ q n _ he => u.any q n fun z => he (hx _ z), fun b ob q n he => u.free b ob q n fun z => he (hx b z), fun b ob q he => u.there b ob q fun z => he (hx b z), u.tups, u.frzs, u.tbls⟩
end

/-! ### the heap without what is tracked -/
def trk (h : Heap) (H : Hp) : List Addr := (List.range h.objs.size).filter fun a => (H a).isSome
def hidT (h : Heap) (H : Hp) : Heap := PySem.W.hideAll h (trk h H)
theorem hidT_size (h : Heap) (H : Hp) : (hidT h H).objs.size = h.objs.size := PySem.W.hideAll_size _ _
theorem hidT_get {h : Heap} {H : Hp} {b : Addr} {o : Obj} (e : h.get? b = some o) (n : H b = none) : (hidT h H).get? b = some o :=
  PySem.W.hideAll_get _ e fun hm => by
    have q : (H b).isSome = true := (List.mem_filter.mp hm).2
    rw [n] at q; simp at q
theorem of_hidT {h : Heap} {H : Hp} {b : Addr} {o : Obj} (e : (hidT h H).get? b = some o) : h.get? b = some o ∧ H b = none := by
  have e' : h.get? b = some o := PySem.W.of_hideAll (trk h H) e
  refine ⟨e', ?_⟩
  cases q : H b with
  | none => rfl
  | some x =>
    have hm : b ∈ trk h H := List.mem_filter.mpr ⟨List.mem_range.mpr (Heap.lt_size e'), by simp [q]⟩
    have z : (hidT h H).get? b = none := PySem.W.hideAll_none (trk h H) hm
    rw [z] at e; cases e

/-! ### OpenK's ledger, filled with every new object but one -/
def allNews (g h : Heap) (L : Addr) : List (Addr × Obj) := (List.range h.objs.size).filterMap fun a => if a = L ∨ (g.get? a).isSome = true then none else (h.get? a).map fun o => (a, o)
theorem mem_allNews {g h : Heap} {L a : Addr} {o : Obj} (h1 : a ≠ L) (h2 : g.get? a = none) (h3 : h.get? a = some o) : (a, o) ∈ allNews g h L :=
  List.mem_filterMap.mpr ⟨a, List.mem_range.mpr (Heap.lt_size h3), by simp [h1, h2, h3]⟩
theorem of_mem_allNews {g h : Heap} {L : Addr} {p : Addr × Obj} (hp : p ∈ allNews g h L) : p.1 ≠ L ∧ g.get? p.1 = none ∧ h.get? p.1 = some p.2 := by
  obtain ⟨b, _, e⟩ := List.mem_filterMap.mp hp
  split at e
  · cases e
  · rename_i hn
    cases q : h.get? b with
    | none => rw [q] at e; simp at e
    | some u =>
      rw [q] at e
      simp only [Option.map_some, Option.some.injEq] at e
      subst e
      refine ⟨fun z => hn (.inl z), ?_, q⟩
      show g.get? b = none
      cases r : g.get? b with
      | none => rfl
      | some v => exact (hn (.inr (by simp [r]))).elim
def rest (g h : Heap) (L d : Addr) : List (Addr × Obj) := (allNews g h L).filter fun p => decide (p.1 ≠ d)
theorem rest_ne {g h : Heap} {L d : Addr} : ∀ p ∈ rest g h L d, p.1 ≠ d := fun p hp => of_decide_eq_true (List.mem_filter.mp hp).2
theorem mem_rest {g h : Heap} {L d a : Addr} {o : Obj} (h1 : a ≠ L) (h2 : g.get? a = none) (h3 : h.get? a = some o) (h4 : a ≠ d) : (a, o) ∈ rest g h L d :=
  List.mem_filter.mpr ⟨mem_allNews h1 h2 h3, decide_eq_true h4⟩
theorem news_all {g h : Heap} {L : Addr} : News g L h (allNews g h L) := fun p hp => let ⟨a, b, c⟩ := of_mem_allNews hp; ⟨c, a, b⟩
theorem news_at {g h : Heap} {L d : Addr} {o : Obj} (h1 : d ≠ L) (h2 : g.get? d = none) (h3 : h.get? d = some o) : News g L h ((d, o) :: rest g h L d) := fun p hp => by
  rcases List.mem_cons.mp hp with rfl | hp
  · exact ⟨h3, h1, h2⟩
  · exact news_all p (List.mem_filter.mp hp).1
/-- behind a rule that changed d alone: all else but the frame is kept -/
theorem kept_of_news {g h h' : Heap} {L d : Addr} {m : Str → Option Value} (k : ∀ b o, g.get? b = some o → h.get? b = some o) (F : Fr g L h' m) (N : News g L h' (rest g h L d)) :
    ∀ b o, b ≠ L → b ≠ d → h.get? b = some o → h'.get? b = some o := fun b o h1 h2 e => by
  cases q : g.get? b with
  | some u =>
    have := k b u q
    rw [e] at this; cases this
    exact F.keep b _ q
  | none => exact (N (b, o) (mem_rest h1 q e h2)).1
end L2

namespace L2
open PySem PySem.Spec PyProof.Rows

/-- the module's facts, over the base: the heap at the law's entry without what is tracked there -/
structure Mod (K : PySem.W.Frag) (mg : Str → Option Value) (base : Heap) : Prop where
  kin : K.In base
  glob : base.Ns mainGlobals mg
  blt : ∃ mb, base.Ns builtinsNs mb ∧ ∀ x : Str, x ≠ "__name__" → mb x = bootBuiltins x
  nolimit : base.NoLimit

/-- the context: a def's body (or a comprehension's block) running. base: fixed through the whole law; s₀, H₀: the entry; outer: the frames whose slots others may change (a def's callers); stack: all frames that run;
   ex: iterators that were made ahead of the entry and are walked here (a comprehension's); fn: the names whose cells were made at the entry (a def: all; a comprehension's block: its own); calm: not within an except suite; pn: pins that every state bears; xe: what is wanted of an exception that leaves the code -/
structure Cx where
  prog : Program
  w : World
  K : PySem.W.Frag
  mg : Str → Option Value
  base : Heap
  A : Around
  N : List Str
  s₀ : Shared
  H₀ : Hp
  env : Env
  outer : List Env
  stack : List Env
  ex : List Addr
  fn : Str → Bool
  calm : Bool
  pn : List (Addr × Obj)
  xe : Value → Shared → Prop
/-- the callers' frames -/
def frs (l : List Env) : List Addr := l.filterMap (·.frame)
abbrev Cx.fs (X : Cx) : List Addr := frs X.outer

def Vis (sc : Scope) (x : Str) : Prop := sc.names.lookup x = some .local ∨ sc.names.lookup x = some .cell ∨ sc.names.lookup x = some .free
def Loc (sc : Scope) (x : Str) : Prop := sc.names.lookup x = some .local ∨ sc.names.lookup x = some .cell
def Look (env : Env) (h : Heap) (m : Str → Option Value) (x : Str) (u : Value) : Prop :=
  (env.kindOf x = some .local ∧ m x = some u) ∨ ((env.kindOf x = some .cell ∨ env.kindOf x = some .free) ∧ ∃ c, env.cells.lookup x = some c ∧ h.IsCell c (some u))

structure Cx.Ok (X : Cx) : Prop where
  mod : Mod X.K X.mg X.base
  kind : X.env.scope.kind = .function
  glob : X.env.globals = mainGlobals
  blt : X.env.builtins = builtinsNs
  above : X.s₀.heap.objs.size ≤ X.env.locals
  inj : ∀ x y c, X.env.cells.lookup x = some c → X.env.cells.lookup y = some c → x = y
  has : ∀ x, (X.env.kindOf x = some .cell ∨ X.env.kindOf x = some .free) → ∃ c, X.env.cells.lookup x = some c
  cab : ∀ x c, X.fn x = true → X.env.cells.lookup x = some c → X.s₀.heap.objs.size ≤ c
  hd : X.calm = true → X.A.handled = none
  frames : X.A.frames = some X.stack
  stk : X.stack = X.outer ∨ (X.stack = X.env :: X.outer ∧ X.env.frame = some X.env.locals)
  exf : ∀ b ∈ X.ex, b ≠ X.env.locals ∧ ∀ x c, X.env.cells.lookup x = some c → c ≠ b
  bs : ∀ b o, X.base.get? b = some o → X.s₀.heap.get? b = some o ∧ X.H₀ b = none
  bsz : X.base.objs.size ≤ X.s₀.heap.objs.size
  noex : ∀ b o, X.base.get? b = some o → b ∉ X.ex
  exfs : ∀ b ∈ X.ex, b ∉ X.fs
  funs : X.s₀.heap.FunFrames X.base X.outer
  frf : ∀ b ∈ X.fs, X.H₀ b = none

structure Inv (X : Cx) (pins : List (Addr × Obj)) (σ : List (Option V)) (H : Hp) (s : Shared) : Prop where
  ok : X.Ok
  os : s.os = X.s₀.os
  bare : AllBare s.gens
  base : Un X.fs X.ex X.H₀ H X.s₀.heap s.heap
  loc : ∃ m, s.heap.Ns X.env.locals m ∧ ∀ (i : Nat) (x : Str) (v : V), X.N[i]? = some x → σ[i]? = some (some v) → Vis X.env.scope x → ∃ u, RelV v u ∧ Look X.env s.heap m x u
  cell : ∀ x c, X.env.cells.lookup x = some c → ∃ v, s.heap.IsCell c v
  free : H X.env.locals = none
  freeC : ∀ x c, X.env.cells.lookup x = some c → H c = none
  pin : ∀ p ∈ X.pn ++ pins, s.heap.get? p.1 = some p.2 ∧ H p.1 = none ∧ p.1 ≠ X.env.locals ∧ p.1 ∉ X.fs ∧ ∀ v, p.2.data ≠ .cell v
  hok : HOk X.prog X.w H s.heap
  len : σ.length = X.N.length

section
variable {X : Cx} {pins : List (Addr × Obj)} {σ : List (Option V)} {H H' : Hp} {s : Shared} {h' : Heap}

theorem Cx.Ok.nofr (ok : X.Ok) {b : Addr} {o : Obj} (e : X.base.get? b = some o) : b ∉ X.fs := fun hb => by
  have := (ok.funs.mem hb).1
  rw [e] at this; cases this
theorem Inv.bs (I : Inv X pins σ H s) : ∀ b o, X.base.get? b = some o → s.heap.get? b = some o ∧ H b = none := fun b o e =>
  ⟨I.base.keep b o (I.ok.bs b o e).1 (I.ok.bs b o e).2 (I.ok.nofr e) (I.ok.noex b o e), I.base.free b o (I.ok.bs b o e).1 (I.ok.bs b o e).2 (I.ok.noex b o e)⟩
theorem Inv.bk (I : Inv X pins σ H s) : ∀ b o, X.base.get? b = some o → s.heap.get? b = some o := fun b o e => (I.bs b o e).1
theorem Inv.mod (I : Inv X pins σ H s) : Mod X.K X.mg X.base := I.ok.mod
theorem Inv.kIn (I : Inv X pins σ H s) : X.K.In s.heap := I.ok.mod.kin.keeps I.bk
theorem Inv.nolimit (I : Inv X pins σ H s) : s.heap.NoLimit := I.ok.mod.nolimit.keeps I.bk
/-- the frame over the base: for OpenK's rules (K.In X.base is I.mod.kin) -/
theorem Inv.fr (I : Inv X pins σ H s) : ∃ m, Fr X.base X.env.locals s.heap m :=
  let ⟨m, hn, _⟩ := I.loc
  ⟨m, hn, I.bk, Nat.le_trans I.ok.bsz I.ok.above⟩
theorem Inv.lt (I : Inv X pins σ H s) : X.env.locals < s.heap.objs.size := let ⟨_, hn, _⟩ := I.loc; hn.lt
theorem Inv.sz (I : Inv X pins σ H s) : X.s₀.heap.objs.size ≤ s.heap.objs.size := Nat.le_trans I.ok.above (Nat.le_of_lt I.lt)
theorem Inv.nofs (I : Inv X pins σ H s) {a : Addr} (h : s.heap.objs.size ≤ a) : a ∉ X.fs := fun hb => by
  obtain ⟨_, o, ho, _⟩ := I.ok.funs.mem hb
  exact absurd (Nat.lt_of_lt_of_le (Heap.lt_size ho) (Nat.le_trans I.sz h)) (Nat.lt_irrefl _)
theorem Inv.cne (I : Inv X pins σ H s) : ∀ x c, X.env.cells.lookup x = some c → c ≠ X.env.locals := fun x c e z => by
  obtain ⟨v, o, ho, hd⟩ := I.cell x c e
  obtain ⟨m, ⟨o', es, ep, ho', hd', _⟩, _⟩ := I.loc
  rw [z, ho'] at ho; cases ho; rw [hd'] at hd; cases hd
theorem Inv.funs (I : Inv X pins σ H s) : s.heap.FunFrames X.base X.outer := by
  have all : ∀ (l : List Env), (∀ b ∈ frs l, b ∈ X.fs) → X.s₀.heap.FunFrames X.base l → s.heap.FunFrames X.base l := by
    intro l
    induction l with
    | nil => intro _ _; trivial
    | cons env r ih =>
      intro hs hl
      obtain ⟨hk, ⟨L, o, hf, hn, ho, hd⟩, hr⟩ := hl
      have hL : L ∈ X.fs := hs L (by unfold frs; rw [List.filterMap_cons, hf]; exact List.mem_cons_self)
      obtain ⟨sl, e⟩ := I.base.slot L o ho (I.ok.frf L hL) hL fun z => I.ok.exfs L z hL
      exact ⟨hk, ⟨L, _, hf, hn, e, hd⟩, ih (fun b hb => hs b (by unfold frs; rw [List.filterMap_cons, hf]; exact List.mem_cons_of_mem _ hb)) hr⟩
  exact all X.outer (fun _ hb => hb) I.ok.funs

/-- the frames that run, for a call -/
theorem Inv.stack (I : Inv X pins σ H s) : s.heap.FunFrames X.base X.stack := by
  rcases I.ok.stk with e | ⟨e, hf⟩
  · rw [e]; exact I.funs
  · rw [e]
    obtain ⟨m, hn, _⟩ := I.loc
    refine .cons (by rw [I.ok.kind]; decide) hf hn ?_ I.funs
    exact Heap.get?_none_of_le (Nat.le_trans I.ok.bsz I.ok.above)
theorem Inv.stkSub (I : Inv X pins σ H s) : ∀ b ∈ frs X.stack, b ∈ X.env.locals :: X.fs := fun b hb => by
  rcases I.ok.stk with e | ⟨e, hf⟩
  · rw [e] at hb; exact List.mem_cons_of_mem _ hb
  · rw [e] at hb
    unfold frs at hb
    rw [List.filterMap_cons, hf] at hb
    exact hb
theorem Inv.stkFree (I : Inv X pins σ H s) : ∀ b ∈ frs X.stack, H b = none := fun b hb => by
  rcases List.mem_cons.mp (I.stkSub b hb) with e | hb
  · rw [e]; exact I.free
  · obtain ⟨_, o, ho, _⟩ := I.ok.funs.mem hb
    exact I.base.free b o ho (I.ok.frf b hb) fun z => I.ok.exfs b z hb

/-- THE STEP: the untracked objects but the frame and the records at ch are kept (the callers' frames up to slots), the frame's map is kept, the new abstract heap is held -/
theorem Inv.step {g' : Array GenState} {t' : Nat} {d' : Drawn} {ch : List Addr} (I : Inv X pins σ H s)
    (hch : ∀ b ∈ ch, (b ∈ X.ex ∨ X.s₀.heap.objs.size ≤ b) ∧ b ≠ X.env.locals ∧ (∀ x c, X.env.cells.lookup x = some c → c ≠ b) ∧ ∀ p ∈ X.pn ++ pins, p.1 ≠ b)
    (keep : ∀ b o, b ≠ X.env.locals → b ∉ X.fs → b ∉ ch → s.heap.get? b = some o → H b = none → h'.get? b = some o)
    (slot : ∀ b o, b ≠ X.env.locals → b ∈ X.fs → b ∉ ch → s.heap.get? b = some o → H b = none → ∃ sl, h'.get? b = some { o with slots := sl }) (free : ∀ b o, b ∉ ch → s.heap.get? b = some o → H b = none → H' b = none)
    (there : ∀ b o, b ∉ ch → s.heap.get? b = some o → ∃ o', h'.get? b = some o')
    (tups : ∀ b xs, H b = some (.tup xs) → H' b = some (.tup xs)) (frzs : ∀ b o u, H b = some (.frz o u) → H' b = some (.frz o u)) (tbls : ∀ b ps, H b = some (.tbl ps) → ∃ more, H' b = some (.tbl (ps ++ more)))
    (ns : ∀ m, s.heap.Ns X.env.locals m → h'.Ns X.env.locals m) (hok : HOk X.prog X.w H' h') (hg : AllBare g') :
    Inv X pins σ H' { s with heap := h', gens := g', drawn := d', toks := t' } := by
  have neL : ∀ b o, X.s₀.heap.get? b = some o → b ≠ X.env.locals := fun b o e => Nat.ne_of_lt (Nat.lt_of_lt_of_le (Heap.lt_size e) I.ok.above)
  have neC : ∀ b o, X.s₀.heap.get? b = some o → b ∉ X.ex → b ∉ ch := fun b o e hx hb => by
    rcases (hch b hb).1 with z | z
    · exact hx z
    · exact absurd (Nat.lt_of_lt_of_le (Heap.lt_size e) z) (Nat.lt_irrefl _)
  have cellK : ∀ x c, X.env.cells.lookup x = some c → ∀ v, s.heap.IsCell c v → h'.IsCell c v := fun x c e v ⟨o, ho, hd⟩ => by
    have nch : c ∉ ch := fun z => (hch c z).2.2.1 x c e rfl
    by_cases hc : c ∈ X.fs
    · obtain ⟨sl, q⟩ := slot c o (I.cne x c e) hc nch ho (I.freeC x c e)
      exact ⟨_, q, hd⟩
    · exact ⟨o, keep c o (I.cne x c e) hc nch ho (I.freeC x c e), hd⟩
  refine ⟨I.ok, I.os, hg, ⟨fun b o e n hb hx => ?_, fun b o e n hb hx => ?_, fun b o e n hx => ?_, fun b o e hx => ?_, fun b xs e => tups b xs (I.base.tups b xs e), fun b o xs e => frzs b o xs (I.base.frzs b o xs e), fun b ps e => ?_⟩, ?_, fun x c e => ?_, ?_, fun x c e => ?_, fun p hp => ?_, hok, I.len⟩
  · exact keep b o (neL b o e) hb (neC b o e hx) (I.base.keep b o e n hb hx) (I.base.free b o e n hx)
  · obtain ⟨sl, e1⟩ := I.base.slot b o e n hb hx
    obtain ⟨sl', e2⟩ := slot b _ (neL b o e) hb (neC b o e hx) e1 (I.base.free b o e n hx)
    exact ⟨sl', e2⟩
  · obtain ⟨o', e1⟩ := I.base.there b o e hx
    exact free b o' (neC b o e hx) e1 (I.base.free b o e n hx)
  · obtain ⟨o', e1⟩ := I.base.there b o e hx
    exact there b o' (neC b o e hx) e1
  · obtain ⟨m1, e1⟩ := I.base.tbls b ps e
    obtain ⟨m2, e2⟩ := tbls b _ e1
    exact ⟨m1 ++ m2, by rw [e2, Array.append_assoc]⟩
  · obtain ⟨m, hn, hl⟩ := I.loc
    refine ⟨m, ns m hn, fun i x v e1 e2 e3 => ?_⟩
    obtain ⟨u, r, l⟩ := hl i x v e1 e2 e3
    refine ⟨u, r, ?_⟩
    rcases l with l | ⟨k, c, e, z⟩
    · exact .inl l
    · exact .inr ⟨k, c, e, cellK x c e _ z⟩
  · obtain ⟨v, z⟩ := I.cell x c e
    exact ⟨v, cellK x c e v z⟩
  · obtain ⟨m, ⟨o, _, _, ho, _⟩, _⟩ := I.loc
    exact free _ o (fun z => (hch _ z).2.1 rfl) ho I.free
  · obtain ⟨v, o, ho, hd⟩ := I.cell x c e
    exact free c o (fun z => (hch c z).2.2.1 x c e rfl) ho (I.freeC x c e)
  · obtain ⟨e, n, ne, nf, d⟩ := I.pin p hp
    have nch : p.1 ∉ ch := fun z => (hch p.1 z).2.2.2 p hp rfl
    exact ⟨keep p.1 p.2 ne nf nch e n, free p.1 p.2 nch e n, ne, nf, d⟩
/-- .. where the frame's own object is kept too -/
theorem Inv.un {t' : Nat} (I : Inv X pins σ H s) (u : Un X.fs [] H H' s.heap h') (hok : HOk X.prog X.w H' h') : Inv X pins σ H' { s with heap := h', toks := t' } := by
  obtain ⟨m, ⟨o, es, ep, ho, r⟩, _⟩ := id I.loc
  obtain ⟨sl, hL⟩ := u.any ho I.free (by simp)
  exact I.step (g' := s.gens) (d' := s.drawn) (ch := []) (fun _ z => nomatch z) (fun b o _ hb _ e n => u.keep b o e n hb (by simp)) (fun b o _ hb _ e n => u.slot b o e n hb (by simp)) (fun b o _ e n => u.free b o e n (by simp)) (fun b o _ e => u.there b o e (by simp)) u.tups u.frzs u.tbls (fun m' hm => by
    obtain ⟨o', es', ep', ho', r'⟩ := hm
    rw [ho] at ho'; cases ho'
    exact ⟨_, es', ep', hL, r'⟩) hok I.bare
/-- behind a call (or a comprehension's block): the slots of this frame may have changed too, the records at ch may have turned -/
theorem Inv.call {g' : Array GenState} {t' : Nat} {d' : Drawn} {ch : List Addr} (I : Inv X pins σ H s) (u : Un (frs X.stack) ch H H' s.heap h') (hok : HOk X.prog X.w H' h') (hg : AllBare g')
    (hch : ∀ b ∈ ch, (b ∈ X.ex ∨ X.s₀.heap.objs.size ≤ b) ∧ b ≠ X.env.locals ∧ (∀ x c, X.env.cells.lookup x = some c → c ≠ b) ∧ ∀ p ∈ X.pn ++ pins, p.1 ≠ b) :
    Inv X pins σ H' { s with heap := h', gens := g', drawn := d', toks := t' } := by
  obtain ⟨m, ⟨o, es, ep, ho, r⟩, _⟩ := id I.loc
  obtain ⟨sl, hL⟩ := u.any ho I.free fun z => (hch _ z).2.1 rfl
  exact I.step (ch := ch) hch (fun b o hL hb hc e n => u.keep b o e n (fun z => (List.mem_cons.mp (I.stkSub b z)).elim hL hb) hc) (fun b o _ _ hc e n => u.any e n hc) (fun b o hc e n => u.free b o e n hc) (fun b o hc e => u.there b o e hc) u.tups u.frzs u.tbls (fun m' hm => by
    obtain ⟨o', es', ep', ho', r'⟩ := hm
    rw [ho] at ho'; cases ho'
    exact ⟨_, es', ep', hL, r'⟩) hok hg
/-- an untracked record of ours (an iterator) has turned -/
theorem Inv.turned {t' : Nat} {it : Addr} (I : Inv X pins σ H s) (k : ∀ b o, b ≠ it → s.heap.get? b = some o → h'.get? b = some o) (hn : H it = none) (hL : it ≠ X.env.locals)
    (h1 : it ∈ X.ex ∨ X.s₀.heap.objs.size ≤ it) (h2 : ∀ x c, X.env.cells.lookup x = some c → c ≠ it) (h3 : ∀ p ∈ X.pn ++ pins, p.1 ≠ it) : Inv X pins σ H { s with heap := h', toks := t' } := by
  have nit : ∀ b u, H b = some u → b ≠ it := fun b u e z => by rw [z, hn] at e; cases e
  refine I.step (g' := s.gens) (d' := s.drawn) (ch := [it]) (fun b hb => ?_) (fun b o _ _ hc e _ => k b o (fun z => hc (by simp [z])) e) (fun b o _ _ hc e _ => ⟨o.slots, k b o (fun z => hc (by simp [z])) e⟩) (fun _ _ _ _ n => n)
    (fun b o hc e => ⟨o, k b o (fun z => hc (by simp [z])) e⟩) (fun _ _ e => e) (fun _ _ _ e => e) (fun b ps e => ⟨#[], by rw [e]; simp⟩) (fun m hm => ?_) (fun b u e => ?_) I.bare
  · have e : b = it := by simpa using hb
    subst e
    exact ⟨h1, hL, h2, h3⟩
  · obtain ⟨o, es, ep, ho, r⟩ := hm
    exact ⟨o, es, ep, k _ o (Ne.symm hL) ho, r⟩
  · refine (I.hok b u e).stay (fun c v hc q => k c v ?_ q) (fun _ q => q) fun _ _ q => q
    rcases hc with z | z
    · rw [z]; exact nit b u e
    · exact nit c _ z
theorem Inv.tok (I : Inv X pins σ H s) (t : Nat) : Inv X pins σ H { s with toks := t } := I.un (h' := s.heap) (t' := t) Un.refl I.hok
/-- all objects kept -/
theorem Inv.kept {t' : Nat} (I : Inv X pins σ H s) (k : ∀ b u, s.heap.get? b = some u → h'.get? b = some u) : Inv X pins σ H { s with heap := h', toks := t' } := I.un (Un.kept k) (I.hok.kept k)
/-- a new object laid and tracked -/
theorem Inv.laid {a : Addr} {o : HO} {t' : Nat} (I : Inv X pins σ H s) (k : ∀ b u, s.heap.get? b = some u → h'.get? b = some u) (hp : s.heap.objs.size ≤ a) (new : ObjOk X.prog X.w (upd H a o) h' a o) :
    Inv X pins σ (upd H a o) { s with heap := h', toks := t' } := I.un (Un.laid k hp (I.hok.fresh hp)) (I.hok.laid k hp new)
/-- an object written -/
theorem Inv.write {x e : Addr} {o : HO} {t' : Nat} (I : Inv X pins σ H s) (mu : Mut (H x)) (he : e = x ∨ H e = some (.own x)) (k : ∀ b u, b ≠ e → s.heap.get? b = some u → h'.get? b = some u) (heo : ∃ u, h'.get? e = some u)
    (new : ObjOk X.prog X.w (upd H x o) h' x o) : Inv X pins σ (upd H x o) { s with heap := h', toks := t' } := I.un (Un.write mu he k heo) (I.hok.write mu he k heo new)
/-- forgetting slots, pins -/
theorem Inv.weak {σ' : List (Option V)} (I : Inv X pins σ H s) (hl : σ'.length = σ.length) (w : ∀ (i : Nat) v, σ'[i]? = some (some v) → σ[i]? = some (some v)) : Inv X pins σ' H s :=
  ⟨I.ok, I.os, I.bare, I.base, let ⟨m, hn, hl'⟩ := I.loc; ⟨m, hn, fun i x v e1 e2 e3 => hl' i x v e1 (w i v e2) e3⟩, I.cell, I.free, I.freeC, I.pin, I.hok, hl.trans I.len⟩
theorem Inv.pins_of {pins' : List (Addr × Obj)} (I : Inv X pins σ H s) (h : ∀ p ∈ pins', s.heap.get? p.1 = some p.2 ∧ H p.1 = none ∧ p.1 ≠ X.env.locals ∧ p.1 ∉ X.fs ∧ ∀ v, p.2.data ≠ .cell v) : Inv X pins' σ H s :=
  ⟨I.ok, I.os, I.bare, I.base, I.loc, I.cell, I.free, I.freeC, fun p hp => (List.mem_append.mp hp).elim (fun z => I.pin p (List.mem_append_left _ z)) (h p), I.hok, I.len⟩

theorem nodup_ix {N : List Str} (hN : N.Nodup) {i j : Nat} {x : Str} (a : N[i]? = some x) (b : N[j]? = some x) : i = j := by
  obtain ⟨h1, e1⟩ := List.getElem?_eq_some_iff.mp a
  obtain ⟨h2, e2⟩ := List.getElem?_eq_some_iff.mp b
  exact (List.getElem_inj hN).mp (e1.trans e2.symm)

/-- a name is stored; what changed -/
theorem store_ok2 {M : Model} {A : Around} {E : Value → Shared → Prop} {i : Nat} {x : Str} {v : V} {u : Value} {Q : Unit → Shared → Prop} (I : Inv X pins σ H s) (hN : X.N.Nodup) (hi : X.N[i]? = some x) (hx : Loc X.env.scope x) (r : RelV v u)
    (h : ∀ s', Inv X pins (σ.set i (some v)) H s' → (∃ a, Heap.SameBut a s.heap s'.heap ∧ (a = X.env.locals ∨ X.env.cells.lookup x = some a)) → Q () s') (hf : X.fn x = true ∨ X.env.scope.names.lookup x = some .local := by first | exact .inl rfl | exact .inr rfl | assumption) : wpAny M A (storeName X.env x u) Q E s := by
  obtain ⟨m, hn, hl⟩ := id I.loc
  have hcls : (X.env.scope.kind == .class || (X.env.scope.kind == .module && X.env.locals != X.env.globals)) = false := by rw [I.ok.kind]; rfl
  have hiσ : i < σ.length := by rw [I.len]; exact (List.getElem?_eq_some_iff.mp hi).1
  have cne := I.cne
  have tracked : ∀ {a : Addr} {h' : Heap}, (∃ o, s.heap.get? a = some o ∧ H a = none) → Heap.SameBut a s.heap h' → HOk X.prog X.w H h' := fun {a h'} ha hs b ob e => by
    obtain ⟨_, _, hfree⟩ := ha
    refine (I.hok b ob e).stay (fun c w' hc q => (hs.2 c ?_).trans q) (fun _ q => q) fun _ _ q => q
    rintro rfl
    rcases hc with rfl | hc
    · rw [hfree] at e; cases e
    · rw [hfree] at hc; cases hc
  rcases hx with hk | hk
  · refine wpAny_storeName_local hk hn (fun h' hn' hs => ?_) hcls
    obtain ⟨oL, _, _, hoL, _⟩ := id hn
    refine h _ ⟨I.ok, I.os, I.bare, ⟨fun b o e n hb hx => ?_, fun b o e n hb hx => ?_, I.base.free, fun b o e hx => ?_, I.base.tups, I.base.frzs, I.base.tbls⟩, ⟨_, hn', fun j y v' e1 e2 e3 => ?_⟩, fun y c e => ?_, I.free, I.freeC, fun p hp => ?_, tracked ⟨oL, hoL, I.free⟩ hs, by simpa using I.len⟩ ⟨_, hs, .inl rfl⟩
    · exact (hs.2 b (Nat.ne_of_lt (Nat.lt_of_lt_of_le (Heap.lt_size e) I.ok.above))).trans (I.base.keep b o e n hb hx)
    · obtain ⟨sl, e1⟩ := I.base.slot b o e n hb hx
      exact ⟨sl, (hs.2 b (Nat.ne_of_lt (Nat.lt_of_lt_of_le (Heap.lt_size e) I.ok.above))).trans e1⟩
    · obtain ⟨o', e1⟩ := I.base.there b o e hx
      exact ⟨o', (hs.2 b (Nat.ne_of_lt (Nat.lt_of_lt_of_le (Heap.lt_size e) I.ok.above))).trans e1⟩
    · by_cases hj : j = i
      · subst hj
        rw [hi] at e1; cases e1
        rw [List.getElem?_set_self hiσ] at e2
        cases e2
        exact ⟨u, r, .inl ⟨hk, by simp⟩⟩
      · rw [List.getElem?_set_ne (Ne.symm hj)] at e2
        obtain ⟨u', r', q⟩ := hl j y v' e1 e2 e3
        refine ⟨u', r', ?_⟩
        rcases q with ⟨k, e⟩ | ⟨k, c, e, z⟩
        · refine .inl ⟨k, ?_⟩
          have : y ≠ x := fun e => hj (nodup_ix hN e1 (e ▸ hi))
          simp [this, e]
        · exact .inr ⟨k, c, e, z.sameBut hs (cne y c e)⟩
    · obtain ⟨w', z⟩ := I.cell y c e
      exact ⟨w', z.sameBut hs (cne y c e)⟩
    · obtain ⟨e, n, ne, nf, d⟩ := I.pin p hp
      exact ⟨(hs.2 p.1 ne).trans e, n, ne, nf, d⟩
  · have hfn : X.fn x = true := by
      rcases hf with z | z
      · exact z
      · rw [z] at hk; cases hk
    obtain ⟨c, hc⟩ := I.ok.has x (.inl hk)
    obtain ⟨w', z⟩ := I.cell x c hc
    refine wpAny_storeName_cell I.ok.kind hk hc z (fun h' hc' hs => ?_)
    obtain ⟨oc, hoc, hocd⟩ := id z
    refine h { s with heap := h' } ⟨I.ok, I.os, I.bare, ⟨fun b o e n hb hx => ?_, fun b o e n hb hx => ?_, I.base.free, fun b o e hx => ?_, I.base.tups, I.base.frzs, I.base.tbls⟩, ⟨m, hn.sameBut hs (Ne.symm (cne x c hc)), fun j y v' e1 e2 e3 => ?_⟩, fun y c' e => ?_, I.free, I.freeC, fun p hp => ?_, tracked ⟨oc, hoc, I.freeC x c hc⟩ hs, by simpa using I.len⟩ ⟨c, hs, .inr hc⟩
    · exact (hs.2 b (Nat.ne_of_lt (Nat.lt_of_lt_of_le (Heap.lt_size e) (I.ok.cab x c hfn hc)))).trans (I.base.keep b o e n hb hx)
    · obtain ⟨sl, e1⟩ := I.base.slot b o e n hb hx
      exact ⟨sl, (hs.2 b (Nat.ne_of_lt (Nat.lt_of_lt_of_le (Heap.lt_size e) (I.ok.cab x c hfn hc)))).trans e1⟩
    · obtain ⟨o', e1⟩ := I.base.there b o e hx
      exact ⟨o', (hs.2 b (Nat.ne_of_lt (Nat.lt_of_lt_of_le (Heap.lt_size e) (I.ok.cab x c hfn hc)))).trans e1⟩
    · by_cases hj : j = i
      · subst hj
        rw [hi] at e1; cases e1
        rw [List.getElem?_set_self hiσ] at e2
        cases e2
        exact ⟨u, r, .inr ⟨.inl hk, c, hc, hc'⟩⟩
      · rw [List.getElem?_set_ne (Ne.symm hj)] at e2
        obtain ⟨u', r', q⟩ := hl j y v' e1 e2 e3
        refine ⟨u', r', ?_⟩
        rcases q with q | ⟨k, c', e, z'⟩
        · exact .inl q
        · refine .inr ⟨k, c', e, z'.sameBut hs ?_⟩
          rintro rfl
          exact hj (nodup_ix hN e1 (I.ok.inj _ _ _ e hc ▸ hi))
    · by_cases hcc : c' = c
      · subst hcc; exact ⟨_, hc'⟩
      · obtain ⟨w2, z2⟩ := I.cell y c' e
        exact ⟨w2, z2.sameBut hs hcc⟩
    · obtain ⟨e, n, ne, nf, d⟩ := I.pin p hp
      refine ⟨(hs.2 p.1 ?_).trans e, n, ne, nf, d⟩
      intro q
      rw [q, hoc] at e
      have q' : oc = p.2 := Option.some.inj e
      exact d w' (by rw [← q']; exact hocd)
theorem store_ok {M : Model} {A : Around} {E : Value → Shared → Prop} {i : Nat} {x : Str} {v : V} {u : Value} {Q : Unit → Shared → Prop} (I : Inv X pins σ H s) (hN : X.N.Nodup) (hi : X.N[i]? = some x) (hx : Loc X.env.scope x) (r : RelV v u)
    (h : ∀ s', Inv X pins (σ.set i (some v)) H s' → Q () s') (hf : X.fn x = true ∨ X.env.scope.names.lookup x = some .local := by first | exact .inl rfl | exact .inr rfl | assumption) : wpAny M A (storeName X.env x u) Q E s :=
  store_ok2 I hN hi hx r (fun s' I' _ => h s' I') hf
/-- behind a call or a block, the state as it is -/
theorem Inv.call' {s' : Shared} {ch : List Addr} (I : Inv X pins σ H s) (ho : s'.os = s.os) (u : Un (frs X.stack) ch H H' s.heap s'.heap) (hok : HOk X.prog X.w H' s'.heap) (hg : AllBare s'.gens)
    (hch : ∀ b ∈ ch, (b ∈ X.ex ∨ X.s₀.heap.objs.size ≤ b) ∧ b ≠ X.env.locals ∧ (∀ x c, X.env.cells.lookup x = some c → c ≠ b) ∧ ∀ p ∈ X.pn ++ pins, p.1 ≠ b) : Inv X pins σ H' s' := by
  obtain ⟨h', g', d', t', o'⟩ := s'
  have e : o' = s.os := ho
  subst e
  exact I.call (g' := g') (t' := t') (d' := d') u hok hg hch
end

/-! ### the judgements -/
/-- an exception: its class, its own dict's address (where it has one), the abstract heap behind it -/
abbrev XK := Value → Option Addr → Hp → Prop
abbrev St := List (Option V)
abbrev VK := V → Hp → Prop
/-- an expression's reading; a test's; an argument list's -/
abbrev TE := St → Hp → VK → Prop
abbrev TT := St → Hp → (Bool → Hp → Prop) → Prop
abbrev TA := St → Hp → (List V → Hp → Prop) → Prop
/-- what is wanted behind a statement -/
structure Ends where
  nx : St → Hp → Prop
  rt : VK
  bk : St → Hp → Prop := fun _ _ => False
  ct : St → Hp → Prop := fun _ _ => False
abbrev TS := Ends → St → Hp → Prop

def EP (X : Cx) (pins : List (Addr × Obj)) (σ : St) (Q : VK) (u : Value) (s' : Shared) : Prop := ∃ v H', Inv X pins σ H' s' ∧ RelV v u ∧ Q v H'
def TP (X : Cx) (pins : List (Addr × Obj)) (σ : St) (Q : Bool → Hp → Prop) (b : Bool) (s' : Shared) : Prop := ∃ H', Inv X pins σ H' s' ∧ Q b H'
def AP (X : Cx) (pins : List (Addr × Obj)) (σ : St) (Q : List V → Hp → Prop) (us : List Value) (s' : Shared) : Prop := ∃ vs H', Inv X pins σ H' s' ∧ Vals vs us ∧ Q vs H'
def SP (X : Cx) (pins : List (Addr × Obj)) (D : Ends) (f : Flow) (s' : Shared) : Prop :=
  match f with
  | .next => ∃ σ' H', Inv X pins σ' H' s' ∧ D.nx σ' H'
  | .brk => ∃ σ' H', Inv X pins σ' H' s' ∧ D.bk σ' H'
  | .cont => ∃ σ' H', Inv X pins σ' H' s' ∧ D.ct σ' H'
  | .ret u => ∃ v σ' H', Inv X pins σ' H' s' ∧ RelV v u ∧ D.rt v H'

def PE (X : Cx) (e : Expr) (t : TE) : Prop :=
  ∀ (pins : List (Addr × Obj)) (s : Shared) (σ : St) (H : Hp) (Q : VK), Inv X pins σ H s → t σ H Q → wpAny (model X.prog X.w) X.A (eval e X.env) (EP X pins σ Q) X.xe s
def PT (X : Cx) (e : Expr) (t : TT) : Prop :=
  ∀ (pins : List (Addr × Obj)) (s : Shared) (σ : St) (H : Hp) (Q : Bool → Hp → Prop), Inv X pins σ H s → t σ H Q → wpAny (model X.prog X.w) X.A (isTrue e X.env (eval e X.env)) (TP X pins σ Q) X.xe s
/-- a test whatever its 'whole' is (and, or) -/
def PW (X : Cx) (e : Expr) (t : TT) : Prop :=
  ∀ (whole : Sem Value) (pins : List (Addr × Obj)) (s : Shared) (σ : St) (H : Hp) (Q : Bool → Hp → Prop), Inv X pins σ H s → t σ H Q → wpAny (model X.prog X.w) X.A (isTrue e X.env whole) (TP X pins σ Q) X.xe s
theorem PW.pt {X : Cx} {e : Expr} {t : TT} (h : PW X e t) : PT X e t := h _
/-- an argument list (no star), from the left -/
def PA (X : Cx) (es : List Expr) (t : TA) : Prop :=
  ∀ (pos : Pos) (pins : List (Addr × Obj)) (s : Shared) (σ : St) (H : Hp) (Q : List V → Hp → Prop), Inv X pins σ H s → t σ H Q → wpAny (model X.prog X.w) X.A (spliced (backTo pos (starEach es X.env))) (AP X pins σ Q) X.xe s
def PS (X : Cx) (st : Stmt) (t : TS) : Prop :=
  ∀ (pins : List (Addr × Obj)) (s : Shared) (σ : St) (H : Hp) (D : Ends), Inv X pins σ H s → t D σ H → wpAny (model X.prog X.w) X.A (exec st X.env) (SP X pins D) X.xe s
def PSs (X : Cx) (st : List Stmt) (t : TS) : Prop :=
  ∀ (pins : List (Addr × Obj)) (s : Shared) (σ : St) (H : Hp) (D : Ends), Inv X pins σ H s → t D σ H → wpAny (model X.prog X.w) X.A (execs st X.env) (SP X pins D) X.xe s
/-- weaken the end -/
theorem thn {α : Type} {t : Sem α} {Q Q' : α → Shared → Prop} {M : Model} {A : Around} {E : Value → Shared → Prop} {s : Shared} (h : wpAny M A t Q E s) (hQ : ∀ a s, Q a s → Q' a s) : wpAny M A t Q' E s := wpAny_mono h hQ fun _ _ x => x
end L2

namespace L2
open PySem PySem.Spec PyProof.Rows
section
variable {X : Cx}

/-- two expressions in a row -/
theorem bin {a b : Expr} {ta tb : TE} (ha : PE X a ta) (hb : PE X b tb) {pins : List (Addr × Obj)} {s : Shared} {σ : St} {H : Hp} {R : V → V → Hp → Prop} (I : Inv X pins σ H s) (h : ta σ H fun x H1 => tb σ H1 fun y H2 => R x y H2)
    {α : Type} {Q : α → Shared → Prop} {f : Value → Value → Sem α}
    (hf : ∀ v u s2 x y H2, Inv X pins σ H2 s2 → RelV x v → RelV y u → R x y H2 → wpAny (model X.prog X.w) X.A (f v u) Q X.xe s2) :
    wpAny (model X.prog X.w) X.A (eval a X.env) (fun v s₁ => wpAny (model X.prog X.w) X.A (eval b X.env) (fun u s₂ => wpAny (model X.prog X.w) X.A (f v u) Q X.xe s₂) X.xe s₁) X.xe s := by
  refine thn (ha pins s σ H _ I h) fun v s1 ⟨x, H1, I1, r1, q1⟩ => ?_
  refine thn (hb pins s1 σ H1 _ I1 q1) fun u s2 ⟨y, H2, I2, r2, q2⟩ => ?_
  exact hf v u s2 x y H2 I2 r1 r2 q2

/-! ### names and constants -/
def tVar (i : Nat) : TE := fun σ H Q => ∃ v, σ[i]? = some (some v) ∧ Q v H
def tC (v : V) : TE := fun _ H Q => Q v H
theorem pe_var {i : Nat} {x : Str} {pos : Pos} (hN : X.N[i]? = some x) (hv : Vis X.env.scope x) (hd : (x == ("__debug__" : Str)) = false := by decide) (hcd : (x == ("__classdict__" : Str)) = false := by decide) : PE X (.Name x pos) (tVar i) := by
  intro pins s σ H Q I h
  obtain ⟨v, e, h⟩ := h
  obtain ⟨m, hn, hl⟩ := I.loc
  obtain ⟨u, r, l⟩ := hl i x v hN e hv
  have fin : EP X pins σ Q u s := ⟨v, H, I, r, h⟩
  rcases l with ⟨hk, hm⟩ | ⟨hk, c, hc, hcell⟩
  · exact wpAny_Name (wpAny_loadName_local I.ok.kind hk hn hm fin) hd
  · rcases hk with hk | hk
    · exact wpAny_Name (wpAny_loadName_cell I.ok.kind hk hc hcell fin) hd
    · exact wpAny_Name (wpAny_loadName_free I.ok.kind hk hc hcell fin hcd) hd
theorem pe_int {i j pos} : PE X (.Constant (.int i) j pos) (tC (.int i)) := fun _ _ _ H _ I h => wpAny_Constant_int ⟨.int i, H, I.tok _, ⟨_, rfl⟩, h⟩
theorem pe_bl {b j pos} : PE X (.Constant (.bool b) j pos) (tC (.bl b)) := fun _ _ _ H _ I h => Constant_bool ⟨.bl b, H, I, rfl, h⟩
theorem pe_non {j pos} : PE X (.Constant .none j pos) (tC .non) := fun _ _ _ H _ I h => Constant_none ⟨.non, H, I, rfl, h⟩
theorem pe_str {x j pos} : PE X (.Constant (.str x) j pos) (tC (.str x)) := fun _ _ _ H _ I h => Calls.Constant_str ⟨.str x, H, I.tok _, ⟨_, rfl⟩, h⟩

/-- a global name of the def -/
def Gl (X : Cx) (x : Str) : Prop := X.env.kindOf x = some .globalImplicit
theorem ld_glob {E : Value → Shared → Prop} {pins : List (Addr × Obj)} {s : Shared} {σ : St} {H : Hp} {x : Str} {u : Value} {pos : Pos} {Q : Value → Shared → Prop} (I : Inv X pins σ H s) (hg : Gl X x) (hm : X.mg x = some u) (h : Q u s)
    (hd : (x == ("__debug__" : Str)) = false := by decide) : wpAny (model X.prog X.w) X.A (eval (.Name x pos) X.env) Q E s :=
  Calls.Name_function_global I.ok.kind hg (Calls.loadGlobal_global (by rw [I.ok.glob]; exact I.mod.glob.keeps I.bk) hm h) hd
theorem ld_blt {E : Value → Shared → Prop} {pins : List (Addr × Obj)} {s : Shared} {σ : St} {H : Hp} {x : Str} {u : Value} {pos : Pos} {Q : Value → Shared → Prop} (I : Inv X pins σ H s) (hg : Gl X x) (hm : X.mg x = none) (hv : bootBuiltins x = some u) (h : Q u s)
    (hn : x ≠ "__name__" := by decide) (hd : (x == ("__debug__" : Str)) = false := by decide) : wpAny (model X.prog X.w) X.A (eval (.Name x pos) X.env) Q E s := by
  obtain ⟨mb, h1, h2⟩ := I.mod.blt
  exact Calls.Name_function_global I.ok.kind hg (Calls.loadGlobal_builtin (by rw [I.ok.glob]; exact I.mod.glob.keeps I.bk) hm (by rw [I.ok.blt]; exact h1.keeps I.bk) ((h2 x hn).trans hv) h) hd
/-- a module's constant, a class, a function, as a value -/
theorem pe_glob {x : Str} {v : V} {u : Value} {pos : Pos} (hg : Gl X x) (hm : X.mg x = some u) (r : RelV v u) (hd : (x == ("__debug__" : Str)) = false := by decide) : PE X (.Name x pos) (tC v) :=
  fun _ _ _ H _ I h => ld_glob I hg hm ⟨v, H, I, r, h⟩ hd
theorem pe_bltn {x : Str} {v : V} {u : Value} {pos : Pos} (hg : Gl X x) (hm : X.mg x = none) (hv : bootBuiltins x = some u) (r : RelV v u) (hn : x ≠ "__name__" := by decide) (hd : (x == ("__debug__" : Str)) = false := by decide) : PE X (.Name x pos) (tC v) :=
  fun _ _ _ H _ I h => ld_blt I hg hm hv ⟨v, H, I, r, h⟩ hn hd

/-! ### arithmetic -/
/-- two ints -/
def t2I (ta tb : TE) (k : Int → Int → Hp → Prop) : St → Hp → Prop := fun σ H => ta σ H fun x H1 => tb σ H1 fun y H2 => ∃ i j, x = .int i ∧ y = .int j ∧ k i j H2
def tAdd (ta tb : TE) : TE := fun σ H Q => t2I ta tb (fun i j H2 => Q (.int (i + j)) H2) σ H
def tSub (ta tb : TE) : TE := fun σ H Q => t2I ta tb (fun i j H2 => Q (.int (i - j)) H2) σ H
/-- the left factor below 2^64 -/
def tMul (ta tb : TE) : TE := fun σ H Q => t2I ta tb (fun i j H2 => (-(2 ^ 64) < i ∧ i < 2 ^ 64) ∧ Q (.int (i * j)) H2) σ H
variable {a b : Expr} {ta tb : TE} {pos : Pos}
theorem pe_add (ha : PE X a ta) (hb : PE X b tb) : PE X (.BinOp a .Add b pos) (tAdd ta tb) := by
  intro pins s σ H Q I h
  refine wpAny_BinOp (bin ha hb I h fun v u s2 x y H2 I2 rx ry q => ?_)
  obtain ⟨i, j, rfl, rfl, q⟩ := q
  obtain ⟨t, rfl⟩ := rx
  obtain ⟨t', rfl⟩ := ry
  exact add_int ⟨.int _, H2, I2.tok _, ⟨_, rfl⟩, q⟩
theorem pe_sub (ha : PE X a ta) (hb : PE X b tb) : PE X (.BinOp a .Sub b pos) (tSub ta tb) := by
  intro pins s σ H Q I h
  refine wpAny_BinOp (bin ha hb I h fun v u s2 x y H2 I2 rx ry q => ?_)
  obtain ⟨i, j, rfl, rfl, q⟩ := q
  obtain ⟨t, rfl⟩ := rx
  obtain ⟨t', rfl⟩ := ry
  exact sub_int ⟨.int _, H2, I2.tok _, ⟨_, rfl⟩, q⟩
theorem pe_mul (ha : PE X a ta) (hb : PE X b tb) : PE X (.BinOp a .Mult b pos) (tMul ta tb) := by
  intro pins s σ H Q I h
  refine wpAny_BinOp (bin ha hb I h fun v u s2 x y H2 I2 rx ry q => ?_)
  obtain ⟨i, j, rfl, rfl, ⟨q1, q2⟩, q⟩ := q
  obtain ⟨t, rfl⟩ := rx
  obtain ⟨t', rfl⟩ := ry
  exact mul_int ⟨.int _, H2, I2.tok _, ⟨_, rfl⟩, q⟩ (.of_left (intBits_le_64 q1 q2))

/-! ### comparisons -/
def PC (X : Cx) (op : CmpOp) (a b : Expr) (t : TE) : Prop :=
  ∀ (pins : List (Addr × Obj)) (s : Shared) (σ : St) (H : Hp) (Q : VK), Inv X pins σ H s → t σ H Q →
    wpAny (model X.prog X.w) X.A (eval a X.env) (fun v s₁ => wpAny (model X.prog X.w) X.A (eval b X.env) (fun u s₂ => wpAny (model X.prog X.w) X.A (compareOp op v u) (EP X pins σ Q) X.xe s₂) X.xe s₁) X.xe s
theorem nobehind (b : Expr) {op : CmpOp} (h : op ≠ .In) (h2 : op ≠ .NotIn) : behindInMarks op b = false := by
  have e1 : (op == CmpOp.In) = false := by cases op <;> first | rfl | exact absurd rfl h
  have e2 : (op == CmpOp.NotIn) = false := by cases op <;> first | rfl | exact absurd rfl h2
  cases b <;> simp [behindInMarks, e1, e2]
def tCmp (p : Int → Int → Bool) (ta tb : TE) : TE := fun σ H Q => t2I ta tb (fun i j H2 => Q (.bl (p i j)) H2) σ H
abbrev tLt : TE → TE → TE := tCmp fun i j => decide (i < j)
abbrev tLe : TE → TE → TE := tCmp fun i j => decide (i ≤ j)
abbrev tGt : TE → TE → TE := tCmp fun i j => decide (j < i)
abbrev tGe : TE → TE → TE := tCmp fun i j => decide (j ≤ i)
abbrev tEqI : TE → TE → TE := tCmp fun i j => decide (i = j)
abbrev tNeI : TE → TE → TE := tCmp fun i j => !decide (i = j)
/-- a comparison of two ints, by its rule -/
theorem pc_int {op : CmpOp} {p : Int → Int → Bool} (ha : PE X a ta) (hb : PE X b tb)
    (rule : ∀ (i j : Int) (t u : Tok) (Q : Value → Shared → Prop) (s : Shared), Q (.bool (p i j)) s → wpAny (model X.prog X.w) X.A (compareOp op (.int i t) (.int j u)) Q X.xe s) : PC X op a b (tCmp p ta tb) := by
  intro pins s σ H Q I h
  refine bin ha hb I h fun v u s2 x y H2 I2 rx ry q => ?_
  obtain ⟨i, j, rfl, rfl, q⟩ := q
  obtain ⟨t, rfl⟩ := rx
  obtain ⟨t', rfl⟩ := ry
  exact rule i j t t' _ s2 ⟨.bl _, H2, I2, rfl, q⟩
theorem pc_lt (ha : PE X a ta) (hb : PE X b tb) : PC X .Lt a b (tLt ta tb) := pc_int ha hb fun _ _ _ _ _ _ h => lt_int h
theorem pc_le (ha : PE X a ta) (hb : PE X b tb) : PC X .LtE a b (tLe ta tb) := pc_int ha hb fun _ _ _ _ _ _ h => le_int h
theorem pc_gt (ha : PE X a ta) (hb : PE X b tb) : PC X .Gt a b (tGt ta tb) := pc_int ha hb fun _ _ _ _ _ _ h => gt_int h
theorem pc_ge (ha : PE X a ta) (hb : PE X b tb) : PC X .GtE a b (tGe ta tb) := pc_int ha hb fun _ _ _ _ _ _ h => ge_int h
theorem pc_eqI (ha : PE X a ta) (hb : PE X b tb) : PC X .Eq a b (tEqI ta tb) := pc_int ha hb fun _ _ _ _ _ _ h => eq_int (by rw [Bool.beq_eq_decide_eq]; exact h)
theorem pc_neI (ha : PE X a ta) (hb : PE X b tb) : PC X .NotEq a b (tNeI ta tb) := pc_int ha hb fun _ _ _ _ _ _ h => ne_int (by rw [bne, Bool.beq_eq_decide_eq]; exact h)
/-- is None -/
def tIsN (ta : TE) : TE := fun σ H Q => ta σ H fun x H1 => Q (.bl (decide (x = .non))) H1
def tNotN (ta : TE) : TE := fun σ H Q => ta σ H fun x H1 => Q (.bl (!decide (x = .non))) H1
theorem RelV.none_iff {x : V} {v : Value} (r : RelV x v) : (v == Value.none) = decide (x = .non) := by
  cases x with
  | non => cases r; rfl
  | bl _ => cases r; rfl
  | int _ => obtain ⟨t, rfl⟩ := r; rfl
  | str _ => obtain ⟨t, rfl⟩ := r; rfl
  | byt _ => obtain ⟨t, rfl⟩ := r; rfl
  | flt _ => obtain ⟨t, rfl⟩ := r; rfl
  | ref _ => cases r; rfl
  | ty _ => cases r; rfl
theorem pc_isN {j pos'} (ha : PE X a ta) : PC X .Is a (.Constant .none j pos') (tIsN ta) := by
  intro pins s σ H Q I h
  refine thn (ha pins s σ H _ I h) fun v s1 ⟨x, H1, I1, r1, q1⟩ => ?_
  exact Constant_none (is_none_gen ⟨.bl _, H1, I1, by rw [r1.none_iff]; rfl, q1⟩)
theorem pc_notN {j pos'} (ha : PE X a ta) : PC X .IsNot a (.Constant .none j pos') (tNotN ta) := by
  intro pins s σ H Q I h
  refine thn (ha pins s σ H _ I h) fun v s1 ⟨x, H1, I1, r1, q1⟩ => ?_
  exact Constant_none (isnot_none_gen ⟨.bl _, H1, I1, by rw [r1.none_iff]; rfl, q1⟩)
/-- a comparison as a value, as a test -/
def tB (t : TE) : TT := fun σ H Q => t σ H fun x H1 => ∃ c, x = .bl c ∧ Q c H1
theorem pe_cmp {op : CmpOp} {t : TE} (h : PC X op a b t) (h1 : behindInMarks op b = false := by first | exact nobehind _ (by decide) (by decide) | rfl) : PE X (.Compare a [op] [b] pos) t := fun pins s σ H Q I hw => wpAny_Compare1 (h pins s σ H Q I hw) h1
theorem pt_cmp {op : CmpOp} {t : TE} (h : PC X op a b t) (h1 : behindInMarks op b = false := by first | exact nobehind _ (by decide) (by decide) | rfl) : PT X (.Compare a [op] [b] pos) (tB t) := by
  intro pins s σ H Q I hw
  refine wpAny_isTrue_Compare1 (thn (h pins s σ H _ I hw) fun v s1 h1 => thn h1 fun u s2 h2 => thn h2 fun c s3 ⟨x, H1, I1, r1, q1⟩ => ?_) h1
  obtain ⟨d, rfl, q⟩ := q1
  cases r1
  exact wpAny_truthy_bool ⟨H1, I1, q⟩
/-- an expression whose value is a bool, as a test -/
theorem pt_val {e : Expr} {t : TE} (h : PE X e t) (he : ∀ whole, isTrue e X.env whole = (do let v ← whole; standAt e.pos; holding [v] (truthy v)) := by intro _; rfl) : PT X e (tB t) := by
  intro pins s σ H Q I hw
  refine isTrue_plain (thn (h pins s σ H _ I hw) fun v s1 ⟨x, H1, I1, r1, q1⟩ => ?_) (he _)
  obtain ⟨d, rfl, q⟩ := q1
  cases r1
  exact wpAny_truthy_bool ⟨H1, I1, q⟩

/-! ### and, or, not -/
variable {tA tB' : TT} {rest : List Expr}
def tAnd (t u : TT) : TT := fun σ H Q => t σ H fun c H1 => if c = true then u σ H1 Q else Q false H1
def tOr (t u : TT) : TT := fun σ H Q => t σ H fun c H1 => if c = true then Q true H1 else u σ H1 Q
def tNot (t : TT) : TT := fun σ H Q => t σ H fun c H1 => Q (!c) H1
theorem pw_and1 (ha : PT X a tA) : PW X (.BoolOp .And [a] pos) tA := by
  intro wh pins s σ H Q I h
  refine isTrue_and (thn (ha pins s σ H Q I h) fun c s1 e => ?_)
  cases c with
  | true => exact isTrue_and_nil e
  | false => exact e
theorem pw_or1 (ha : PT X a tA) : PW X (.BoolOp .Or [a] pos) tA := by
  intro wh pins s σ H Q I h
  refine isTrue_or (thn (ha pins s σ H Q I h) fun c s1 e => ?_)
  cases c with
  | false => exact isTrue_or_nil e
  | true => exact e
theorem pw_and (ha : PT X a tA) (hb : PW X (.BoolOp .And (b :: rest) pos) tB') : PW X (.BoolOp .And (a :: b :: rest) pos) (tAnd tA tB') := by
  intro wh pins s σ H Q I h
  refine isTrue_and (thn (ha pins s σ H _ I h) fun c s1 ⟨H1, I1, q1⟩ => ?_)
  cases c with
  | true => exact hb wh pins s1 σ H1 Q I1 q1
  | false => exact ⟨H1, I1, q1⟩
theorem pw_or (ha : PT X a tA) (hb : PW X (.BoolOp .Or (b :: rest) pos) tB') : PW X (.BoolOp .Or (a :: b :: rest) pos) (tOr tA tB') := by
  intro wh pins s σ H Q I h
  refine isTrue_or (thn (ha pins s σ H _ I h) fun c s1 ⟨H1, I1, q1⟩ => ?_)
  cases c with
  | true => exact ⟨H1, I1, q1⟩
  | false => exact hb wh pins s1 σ H1 Q I1 q1
theorem pt_not (ha : PT X a tA) : PT X (.UnaryOp .Not a pos) (tNot tA) := by
  intro pins s σ H Q I h
  exact isTrue_not (ha pins s σ H (fun c H1 => Q (!c) H1) I h)
/-- .. as values (bools) -/
def tAndV (ta tb : TE) : TE := fun σ H Q => ta σ H fun x H1 => ∃ c, x = .bl c ∧ if c = true then tb σ H1 Q else Q (.bl false) H1
def tOrV (ta tb : TE) : TE := fun σ H Q => ta σ H fun x H1 => ∃ c, x = .bl c ∧ if c = true then Q (.bl true) H1 else tb σ H1 Q
def tNotV (ta : TE) : TE := fun σ H Q => ta σ H fun x H1 => ∃ c, x = .bl c ∧ Q (.bl (!c)) H1
theorem pe_one {op} {t : TE} (h : PE X a t) : PE X (.BoolOp op [a] pos) t := fun pins s σ H Q I hw => BoolOp_one (h pins s σ H Q I hw)
theorem pe_and (ha : PE X a ta) (hb : PE X (.BoolOp .And (b :: rest) pos) tb) : PE X (.BoolOp .And (a :: b :: rest) pos) (tAndV ta tb) := by
  intro pins s σ H Q I h
  refine BoolOp_and (thn (ha pins s σ H _ I h) fun v s1 ⟨x, H1, I1, r1, q1⟩ => ?_)
  obtain ⟨c, rfl, q1⟩ := q1
  cases r1
  refine wpAny_truthy_bool ?_
  cases c with
  | true => exact hb pins s1 σ H1 Q I1 q1
  | false => exact ⟨.bl false, H1, I1, rfl, q1⟩
theorem pe_or (ha : PE X a ta) (hb : PE X (.BoolOp .Or (b :: rest) pos) tb) : PE X (.BoolOp .Or (a :: b :: rest) pos) (tOrV ta tb) := by
  intro pins s σ H Q I h
  refine BoolOp_or (thn (ha pins s σ H _ I h) fun v s1 ⟨x, H1, I1, r1, q1⟩ => ?_)
  obtain ⟨c, rfl, q1⟩ := q1
  cases r1
  refine wpAny_truthy_bool ?_
  cases c with
  | false => exact hb pins s1 σ H1 Q I1 q1
  | true => exact ⟨.bl true, H1, I1, rfl, q1⟩
theorem pe_not (ha : PE X a ta) : PE X (.UnaryOp .Not a pos) (tNotV ta) := by
  intro pins s σ H Q I h
  refine UnaryOp_ (thn (ha pins s σ H _ I h) fun v s1 ⟨x, H1, I1, r1, q1⟩ => ?_)
  obtain ⟨c, rfl, q1⟩ := q1
  cases r1
  exact not_of (wpAny_truthy_bool ⟨.bl (!c), H1, I1, rfl, q1⟩)
/-- a if t else b -/
def tIf (t : TT) (ta tb : TE) : TE := fun σ H Q => t σ H fun c H1 => if c = true then ta σ H1 Q else tb σ H1 Q
theorem pe_ifExp {c : Expr} (hc : PT X c tA) (ha : PE X a ta) (hb : PE X b tb) : PE X (.IfExp c a b pos) (tIf tA ta tb) := by
  intro pins s σ H Q I h
  refine wpAny_IfExp (thn (hc pins s σ H _ I h) fun d s1 ⟨H1, I1, q1⟩ => ?_)
  cases d with
  | true => exact ha pins s1 σ H1 Q I1 q1
  | false => exact hb pins s1 σ H1 Q I1 q1
end
end L2

namespace L2
open PySem PySem.Spec PyProof.Rows

/-! ### a list, a tuple that is read: tracked, frozen, or an object of the module -/
def SqL (K : PySem.W.Frag) (H : Hp) (a : Addr) (xs : List V) : Prop :=
  Rd H a (.lst xs) ∨
    ∃ (o : Obj) (its : Array Value) (n : Nat), K.lookup a = some o ∧ o.cls = .type "list" ∧ o.dict = none ∧ o.data = .seq its n ∧ its.size ≤ sizeLine ∧ Vals xs its.toList
def SqT (K : PySem.W.Frag) (H : Hp) (a : Addr) (xs : List V) : Prop :=
  Rd H a (.tup xs) ∨
    ∃ (o : Obj) (its : Array Value) (n : Nat), K.lookup a = some o ∧ o.cls = .type "tuple" ∧ o.data = .seq its n ∧ its.size ≤ sizeLine ∧ Vals xs its.toList
def absV : Value → Option V
  | .none => some .non
  | .bool b => some (.bl b)
  | .int i _ => some (.int i)
  | .str x _ => some (.str x)
  | .bytes b _ => some (.byt b)
  | .float b _ => some (.flt b)
  | .ref a => some (.ref a)
  | .type n => some (.ty n)
  | _ => none
theorem RelV.abs {x : V} {u : Value} (r : RelV x u) : absV u = some x := by
  cases x with
  | non => cases r; rfl
  | bl _ => cases r; rfl
  | int _ => obtain ⟨t, rfl⟩ := r; rfl
  | str _ => obtain ⟨t, rfl⟩ := r; rfl
  | byt _ => obtain ⟨t, rfl⟩ := r; rfl
  | flt _ => obtain ⟨t, rfl⟩ := r; rfl
  | ref _ => cases r; rfl
  | ty _ => cases r; rfl
theorem RelV.inj {x y : V} {u : Value} (r : RelV x u) (q : RelV y u) : x = y := Option.some.inj (r.abs.symm.trans q.abs)
theorem Vals.inj : ∀ {xs ys : List V} {us : List Value}, Vals xs us → Vals ys us → xs = ys
  | _, _, _, .nil, .nil => rfl
  | _, _, _, .cons r t, .cons r' t' => by rw [r.inj r', Vals.inj t t']
section
variable {X : Cx} {pins : List (Addr × Obj)} {σ : St} {H : Hp} {s : Shared} {a : Addr} {xs ys : List V}
theorem SqL.of {K : PySem.W.Frag} (h : H a = some (.lst xs)) : SqL K H a xs := .inl (.inl h)
theorem SqT.of {K : PySem.W.Frag} (h : H a = some (.tup xs)) : SqT K H a xs := .inl (.inl h)
theorem Inv.list (I : Inv X pins σ H s) (h : SqL X.K H a xs) : ∃ its : List Value, Vals xs its ∧ PlainL s.heap a its.toArray ∧ xs.length ≤ sizeLine := by
  rcases h with h | ⟨o, its, n, hk, hc, hd, hs, hz, r⟩
  · obtain ⟨z, its, n, r, e⟩ := h.ok I.hok
    exact ⟨its, r, ⟨_, n, e, rfl, rfl, rfl⟩, z⟩
  · refine ⟨its.toList, r, ⟨o, n, I.kIn a o hk, hc, hd, by simpa using hs⟩, ?_⟩
    have e := r.length
    simp only [Array.length_toList] at e
    omega
theorem Inv.tuple (I : Inv X pins σ H s) (h : SqT X.K H a xs) : ∃ its : List Value, Vals xs its ∧ IsTup s.heap a its.toArray ∧ xs.length ≤ sizeLine := by
  rcases h with h | ⟨o, its, n, hk, hc, hs, hz, r⟩
  · obtain ⟨z, its, r, p⟩ := h.ok I.hok
    exact ⟨its, r, p, z⟩
  · refine ⟨its.toList, r, ⟨o, I.kIn a o hk, hc, n, by simpa using hs⟩, ?_⟩
    have e := r.length
    simp only [Array.length_toList] at e
    omega
theorem Inv.list_inj (I : Inv X pins σ H s) (h : SqL X.K H a xs) (h' : SqL X.K H a ys) : xs = ys := by
  obtain ⟨its, r, ⟨o, n, e, _, _, d⟩, _⟩ := I.list h
  obtain ⟨its', r', ⟨o', n', e', _, _, d'⟩, _⟩ := I.list h'
  rw [e] at e'; cases e'
  rw [d] at d'
  injection d' with d1 _
  have : its = its' := by simpa using congrArg Array.toList d1
  subst this
  exact r.inj r'
theorem Inv.tuple_inj (I : Inv X pins σ H s) (h : SqT X.K H a xs) (h' : SqT X.K H a ys) : xs = ys := by
  obtain ⟨its, r, ⟨o, e, _, n, d⟩, _⟩ := I.tuple h
  obtain ⟨its', r', ⟨o', e', _, n', d'⟩, _⟩ := I.tuple h'
  rw [e] at e'; cases e'
  rw [d] at d'
  injection d' with d1 _
  have : its = its' := by simpa using congrArg Array.toList d1
  subst this
  exact r.inj r'
end

/-! ### another wish about exceptions -/
abbrev Cx.wish (X : Cx) (E : Value → Shared → Prop) : Cx := { X with xe := E }
/-- no exception leaves -/
abbrev Cx.nox (X : Cx) : Cx := X.wish fun _ _ => False
theorem Cx.Ok.wish {X : Cx} (ok : X.Ok) (E : Value → Shared → Prop) : (X.wish E).Ok :=
  ⟨ok.mod, ok.kind, ok.glob, ok.blt, ok.above, ok.inj, ok.has, ok.cab, ok.hd, ok.frames, ok.stk, ok.exf, ok.bs, ok.bsz, ok.noex, ok.exfs, ok.funs, ok.frf⟩
theorem Cx.Ok.unwish {X : Cx} {E : Value → Shared → Prop} (ok : (X.wish E).Ok) : X.Ok :=
  ⟨ok.mod, ok.kind, ok.glob, ok.blt, ok.above, ok.inj, ok.has, ok.cab, ok.hd, ok.frames, ok.stk, ok.exf, ok.bs, ok.bsz, ok.noex, ok.exfs, ok.funs, ok.frf⟩
section
variable {X : Cx} {pins : List (Addr × Obj)} {σ : St} {H : Hp} {s : Shared} {E : Value → Shared → Prop}
theorem Inv.wish (I : Inv X pins σ H s) (E : Value → Shared → Prop) : Inv (X.wish E) pins σ H s := ⟨I.ok.wish E, I.os, I.bare, I.base, I.loc, I.cell, I.free, I.freeC, I.pin, I.hok, I.len⟩
theorem Inv.unwish (I : Inv (X.wish E) pins σ H s) : Inv X pins σ H s := ⟨I.ok.unwish, I.os, I.bare, I.base, I.loc, I.cell, I.free, I.freeC, I.pin, I.hok, I.len⟩
theorem SP.unwish {D : Ends} {f : Flow} {s' : Shared} (h : SP (X.wish E) pins D f s') : SP X pins D f s' := by
  cases f with
  | next => obtain ⟨σ', H', I, q⟩ := h; exact ⟨σ', H', I.unwish, q⟩
  | brk => obtain ⟨σ', H', I, q⟩ := h; exact ⟨σ', H', I.unwish, q⟩
  | cont => obtain ⟨σ', H', I, q⟩ := h; exact ⟨σ', H', I.unwish, q⟩
  | ret u => obtain ⟨v, σ', H', I, r, q⟩ := h; exact ⟨v, σ', H', I.unwish, r, q⟩
theorem PE.nox {e : Expr} {t : TE} (h : PE X.nox e t) : PE X e t := fun pins s σ H Q I hw =>
  wpAny_mono (h pins s σ H Q (I.wish _) hw) (fun _ _ ⟨v, H', I', r, q⟩ => ⟨v, H', I'.unwish, r, q⟩) fun _ _ z => False.elim z
theorem PT.nox {e : Expr} {t : TT} (h : PT X.nox e t) : PT X e t := fun pins s σ H Q I hw =>
  wpAny_mono (h pins s σ H Q (I.wish _) hw) (fun _ _ ⟨H', I', q⟩ => ⟨H', I'.unwish, q⟩) fun _ _ z => False.elim z
theorem PSs.nox {st : List Stmt} {t : TS} (h : PSs X.nox st t) : PSs X st t := fun pins s σ H D I hw =>
  wpAny_mono (h pins s σ H D (I.wish _) hw) (fun _ _ q => q.unwish) fun _ _ z => False.elim z
end

/-! ### blocks and small statements -/
section
variable {X : Cx} {st : Stmt} {rest : List Stmt} {t u : TS} {e : Expr} {te : TE} {pos : Pos}
def tNext : TS := fun D σ H => D.nx σ H
def tSeq (t u : TS) : TS := fun D σ H => t { D with nx := u D } σ H
theorem pss_nil : PSs X [] tNext := fun _ _ σ H _ I h => wpAny_execs_nil ⟨σ, H, I, h⟩
theorem pss_cons (h1 : PS X st t) (h2 : PSs X rest u) : PSs X (st :: rest) (tSeq t u) := by
  intro pins s σ H D I h
  refine wpAny_execs_cons (thn (h1 pins s σ H { D with nx := u D } I h) fun f s1 q => ?_)
  cases f with
  | next =>
    obtain ⟨σ', H', I', q⟩ := q
    exact h2 pins s1 σ' H' D I' q
  | ret v => exact q
  | brk => exact q
  | cont => exact q
theorem pss_one (h1 : PS X st t) : PSs X [st] t := by
  intro pins s σ H D I h
  refine wpAny_execs_cons (thn (h1 pins s σ H D I h) fun f s1 q => ?_)
  cases f with
  | next => exact wpAny_execs_nil q
  | ret v => exact q
  | brk => exact q
  | cont => exact q
def tBreak : TS := fun D σ H => D.bk σ H
def tCont : TS := fun D σ H => D.ct σ H
theorem ps_pass : PS X (.Pass pos) tNext := fun _ _ σ H _ I h => wpAny_Pass ⟨σ, H, I, h⟩
theorem ps_break : PS X (.Break pos) tBreak := fun _ _ σ H _ I h => wpAny_Break ⟨σ, H, I, h⟩
theorem ps_continue : PS X (.Continue pos) tCont := fun _ _ σ H _ I h => wpAny_Continue ⟨σ, H, I, h⟩
/-- in a def's body nothing is shown -/
theorem Inv.quiet {pins : List (Addr × Obj)} {σ : St} {H : Hp} {s : Shared} (I : Inv X pins σ H s) : interactive X.env = false := by simp [interactive, I.ok.kind]
/-- a docstring -/
theorem ps_doc {x j pos pos'} : PS X (.Expr (.Constant (.str x) j pos) pos') tNext := fun _ s σ H _ I h => wpAny_Expr (Calls.Constant_str (show SP X _ _ .next { s with toks := s.toks + 1 } from ⟨σ, H, I.tok _, h⟩)) I.quiet
/-- an expression whose value is dropped -/
def tDrop (te : TE) : TS := fun D σ H => te σ H fun _ H1 => D.nx σ H1
theorem ps_expr (he : PE X e te) (hs : swapsWith e none pos.line X.env = pure false := by rfl) : PS X (.Expr e pos) (tDrop te) := by
  intro pins s σ H D I h
  exact wpAny_Expr_any (thn (he pins s σ H _ I h) fun v s1 ⟨x, H1, I1, r1, q1⟩ => ⟨σ, H1, I1, q1⟩) I.quiet hs
def tRet (te : TE) : TS := fun D σ H => te σ H D.rt
theorem ps_ret (he : PE X e te) : PS X (.Return (some e) pos) (tRet te) := by
  intro pins s σ H D I h
  exact wpAny_Return_some (thn (he pins s σ H _ I h) fun v s1 ⟨x, H1, I1, r1, q1⟩ => ⟨x, σ, H1, I1, r1, q1⟩)
def tRetN : TS := fun D _ H => D.rt .non H
theorem ps_retN : PS X (.Return none pos) tRetN := fun _ _ σ H _ I h => wpAny_Return_none ⟨.non, σ, H, I, rfl, h⟩
def tIfS (c : TT) (t u : TS) : TS := fun D σ H => c σ H fun b H1 => if b = true then t D σ H1 else u D σ H1
theorem ps_if {c : Expr} {a b : List Stmt} {tc : TT} (hc : PT X c tc) (ha : PSs X a t) (hb : PSs X b u) : PS X (.If c a b pos) (tIfS tc t u) := by
  intro pins s σ H D I h
  refine wpAny_If (thn (hc pins s σ H _ I h) fun d s1 ⟨H1, I1, q1⟩ => ?_)
  cases d with
  | true => exact ha pins s1 σ H1 D I1 q1
  | false => exact hb pins s1 σ H1 D I1 q1
/-- code that the proof never comes to -/
def tNever : TS := fun _ _ _ => False
theorem ps_never : PS X st tNever := fun _ _ _ _ _ _ h => h.elim
theorem pss_never {sts : List Stmt} : PSs X sts tNever := fun _ _ _ _ _ _ h => h.elim
end

/-! ### targets -/
abbrev TG := V → St → Hp → (St → Hp → Prop) → Prop
abbrev TGs := List V → St → Hp → (St → Hp → Prop) → Prop
def PG (X : Cx) (target : Expr) (t : TG) : Prop :=
  ∀ (pins : List (Addr × Obj)) (s : Shared) (σ : St) (H : Hp) (v : V) (u : Value) (Q : St → Hp → Prop), Inv X pins σ H s → RelV v u → t v σ H Q →
    wpAny (model X.prog X.w) X.A (assign target X.env u) (fun _ s' => ∃ σ' H', Inv X pins σ' H' s' ∧ Q σ' H') X.xe s
/-- several targets, one after another -/
def PGs (X : Cx) (ts : List Expr) (t : TGs) : Prop :=
  ∀ (pins : List (Addr × Obj)) (s : Shared) (σ : St) (H : Hp) (vs : List V) (us : List Value) (Q : St → Hp → Prop), Inv X pins σ H s → Vals vs us → t vs σ H Q →
    wpAny (model X.prog X.w) X.A (assignInOrder ((assignEach ts X.env).map (·.2)) us) (fun _ s' => ∃ σ' H', Inv X pins σ' H' s' ∧ Q σ' H') X.xe s
/-- o[i] = v, by values -/
abbrev TSet := V → V → V → Hp → (Hp → Prop) → Prop
def PSet (X : Cx) (t : TSet) : Prop :=
  ∀ (pins : List (Addr × Obj)) (s : Shared) (σ : St) (H : Hp) (o i v : V) (ov iv u : Value) (Q : Hp → Prop), Inv X pins σ H s → RelV o ov → RelV i iv → RelV v u → t o i v H Q →
    wpAny (model X.prog X.w) X.A (setItem ov iv u) (fun _ s' => ∃ H', Inv X pins σ H' s' ∧ Q H') X.xe s
/-- a op= b, by values -/
abbrev TIp := V → V → Hp → VK → Prop
def PIp (X : Cx) (op : Operator) (t : TIp) : Prop :=
  ∀ (pins : List (Addr × Obj)) (s : Shared) (σ : St) (H : Hp) (x y : V) (v u : Value) (Q : VK), Inv X pins σ H s → RelV x v → RelV y u → t x y H Q →
    wpAny (model X.prog X.w) X.A (inplaceOp op v u) (EP X pins σ Q) X.xe s
section
variable {X : Cx} {pos : Pos}
def gName (i : Nat) : TG := fun v σ H Q => Q (σ.set i (some v)) H
theorem pg_name {i : Nat} {x : Str} (hN : X.N.Nodup) (hi : X.N[i]? = some x) (hx : Loc X.env.scope x) (hf : X.fn x = true ∨ X.env.scope.names.lookup x = some .local := by first | exact .inl rfl | exact .inr rfl | assumption) : PG X (.Name x pos) (gName i) := by
  intro pins s σ H v u Q I r h
  exact wpAny_assign_Name (store_ok I hN hi hx r (fun s' I' => ⟨_, H, I', h⟩) hf)
def gNil : TGs := fun vs σ H Q => vs = [] ∧ Q σ H
def gCons (t : TG) (u : TGs) : TGs := fun vs σ H Q => ∃ v r, vs = v :: r ∧ t v σ H fun σ' H' => u r σ' H' Q
theorem pgs_nil : PGs X [] gNil := by
  intro pins s σ H vs us Q I r h
  obtain ⟨e, h⟩ := h
  subst e
  cases r
  exact assignInOrder_nil ⟨σ, H, I, h⟩
theorem pgs_cons {e : Expr} {es : List Expr} {t : TG} {u : TGs} (h1 : PG X e t) (h2 : PGs X es u)
    (hs : (assignEach (e :: es) X.env).map (·.2) = assign e X.env :: (assignEach es X.env).map (·.2) := by rfl) : PGs X (e :: es) (gCons t u) := by
  intro pins s σ H vs us Q I r h
  obtain ⟨v, vr, e1, h⟩ := h
  subst e1
  cases r with
  | cons r rr =>
    rw [hs]
    refine assignInOrder_cons (thn (h1 pins s σ H _ _ _ I r h) fun _ s1 ⟨σ1, H1, I1, q1⟩ => ?_)
    exact h2 pins s1 σ1 H1 _ _ Q I1 rr q1
/-- (a, b, ..) = a tuple of that length -/
def gTup (K : PySem.W.Frag) (n : Nat) (t : TGs) : TG := fun v σ H Q => ∃ a xs, v = .ref a ∧ SqT K H a xs ∧ xs.length = n ∧ t xs σ H Q
theorem pg_tup {es : List Expr} {k : Nat} {t : TGs} {n : Nat} (hc : X.calm = true) (h : PGs X es t)
    (hn : (assignEach es X.env).length = n := by rfl) (hst : (assignEach es X.env).findIdx? (·.1) = none := by rfl) : PG X (.Tuple es k pos) (gTup X.K n t) := by
  intro pins s σ H v u Q I r hw
  obtain ⟨a, xs, e1, hq, hl, hw⟩ := hw
  subst e1
  cases r
  obtain ⟨its, rv, ht, hz⟩ := I.tuple hq
  refine assign_Tuple_tuple (I.ok.hd hc) ht (by simp [hn, ← hl, rv.length]) hst fun h' hx => ?_
  have I1 : Inv X pins σ H { s with heap := h' } := I.kept (t' := s.toks) fun b o e => hx b o (Nat.ne_of_lt (Heap.lt_size e)) e
  exact h pins _ σ H xs _ Q I1 (by simpa using rv) hw
/-- o[i] = .. -/
def gSub (to ti : TE) (t : TSet) : TG := fun v σ H Q => to σ H fun o H1 => ti σ H1 fun i H2 => t o i v H2 fun H3 => Q σ H3
theorem pg_sub {o i : Expr} {to ti : TE} {t : TSet} (ho : PE X o to) (hi : PE X i ti) (hs : PSet X t)
    (ha : ∀ v, assign (.Subscript o i pos) X.env v = (do
      let ov ← holding [v] (eval o X.env)
      let iv ← holding [v, ov] (eval i X.env)
      standAt pos
      holding [v, ov, iv] (setItem ov iv v)
      release [v, ov, iv] []) := by intro _; rfl) : PG X (.Subscript o i pos) (gSub to ti t) := by
  intro pins s σ H v u Q I r h
  rw [ha]
  refine wpAny_bind (wpAny_holding (thn (ho pins s σ H _ I h) fun ov s1 ⟨x, H1, I1, r1, q1⟩ => ?_))
  refine wpAny_bind (wpAny_holding (thn (hi pins s1 σ H1 _ I1 q1) fun iv s2 ⟨y, H2, I2, r2, q2⟩ => ?_))
  refine wpAny_bind (wpAny_standAt (wpAny_bind (wpAny_holding (thn (hs pins s2 σ H2 x y v ov iv u _ I2 r1 r2 r q2) fun _ s3 ⟨H3, I3, q3⟩ => ?_))))
  exact wpAny_release ⟨σ, H3, I3, q3⟩
/-- target = value -/
def tAsg (te : TE) (g : TG) : TS := fun D σ H => te σ H fun x H1 => g x σ H1 D.nx
theorem ps_asg {tg e : Expr} {te : TE} {g : TG} (he : PE X e te) (hg : PG X tg g) (hs : swapsWithSole [tg] e pos.line X.env = pure false := by rfl) (hw : swappedStores [tg] e X.env = pure none := by rfl)
    (h1 : (assignEach [tg] X.env).map (·.2) = [assign tg X.env] := by rfl) : PS X (.Assign [tg] e pos) (tAsg te g) := by
  intro pins s σ H D I h
  refine wpAny_Assign_stores (thn (he pins s σ H _ I h) fun v s1 ⟨x, H1, I1, r1, q1⟩ => ?_) hs hw
  rw [h1]
  exact thn (hg pins s1 σ H1 x v _ I1 r1 q1) fun _ s2 q => q
/-- name = value -/
theorem ps_set {i : Nat} {x : Str} {e : Expr} {te : TE} {pos' : Pos} (hN : X.N.Nodup) (hi : X.N[i]? = some x) (hx : Loc X.env.scope x) (he : PE X e te) (hs : swapsWith e (some (.Name x pos')) pos.line X.env = pure false := by rfl) (hf : X.fn x = true ∨ X.env.scope.names.lookup x = some .local := by first | exact .inl rfl | exact .inr rfl | assumption) :
    PS X (.Assign [.Name x pos'] e pos) (tAsg te (gName i)) := by
  intro pins s σ H D I h
  refine wpAny_Assign_Name (thn (he pins s σ H _ I h) fun v s1 ⟨y, H1, I1, r1, q1⟩ => ?_) hs
  exact store_ok I1 hN hi hx r1 (fun s2 I2 => ⟨_, H1, I2, q1⟩) hf
/-- a, b = x, y with plain local names: stored from the right; the pair itself is not tracked (the opening rows as in PyProof/Rows/TupAssign.lean:23) -/
def tPar (i j : Nat) (ta : TA) : TS := fun D σ H => ta σ H fun vs H1 => ∃ v w, vs = [v, w] ∧ D.nx ((σ.set i (some v)).set j (some w)) H1
theorem ps_par {i j : Nat} {x y : Str} {a b : Expr} {ta : TA} {px py pt : Pos} {kt k2 pt2} (hc : X.calm = true) (hN : X.N.Nodup) (hi : X.N[i]? = some x) (hj : X.N[j]? = some y) (hij : i ≠ j)
    (hx : X.env.scope.names.lookup x = some .local) (hy : X.env.scope.names.lookup y = some .local) (ha : PA X [a, b] ta)
    (hw : swappedStores [.Tuple [.Name x px, .Name y py] kt pt] (.Tuple [a, b] k2 pt2) X.env = pure (some [x, y]))
    (hs : swapsWithSole [.Tuple [.Name x px, .Name y py] kt pt] (.Tuple [a, b] k2 pt2) pos.line X.env = pure false := by rfl) :
    PS X (.Assign [.Tuple [.Name x px, .Name y py] kt pt] (.Tuple [a, b] k2 pt2) pos) (tPar i j ta) := by
  intro pins s σ H D I h
  rw [exec_Assign_arm]
  refine wpAny_bind (wpAny_standAt ?_)
  rw [hs]
  refine wpAny_bind (wpAny_pure ?_)
  rw [if_neg (by decide)]
  refine wpAny_bind (Tuple_ (thn (ha _ pins s σ H _ I h) fun us s1 ⟨vs, H1, I1, r1, q1⟩ => ?_))
  obtain ⟨v, w, e1, q1⟩ := q1
  subst e1
  obtain ⟨u1, u2, rfl, rv, rw'⟩ : ∃ u1 u2, us = [u1, u2] ∧ RelV v u1 ∧ RelV w u2 := by
    cases r1 with
    | cons p q =>
      cases q with
      | cons p' q' =>
        cases q'
        exact ⟨_, _, rfl, p, p'⟩
  refine wpAny_newObj_type ?_ (by show 2 ≤ sizeLine; decide)
  have I2 : Inv X pins σ H1 { s1 with heap := s1.heap.push { cls := .type "tuple", data := .seq [u1, u2].toArray } } := I1.kept (t' := s1.toks) fun b o e => Heap.get?_push_of_some _ e
  rw [hw]
  refine wpAny_bind (wpAny_pure ?_)
  show wpAny (model X.prog X.w) X.A (do rule "assign.swapped-stores"; let items ← unpackItems (.ref s1.heap.objs.size) 2 none; assignInOrder [fun v => bindName X.env y v, fun v => bindName X.env x v] items.reverse; pure Flow.next) _ _ _
  refine wpAny_bind (wpAny_rule (wpAny_bind (unpackItems_tuple (items := #[u1, u2]) (I.ok.hd hc) (IsTup.new s1.heap _) fun h' hx' => ?_)))
  have I3 := I2.kept (h' := h') (t' := s1.toks) fun b o e => hx' b o (Nat.ne_of_lt (Heap.lt_size e)) e
  show wpAny _ _ (assignInOrder [fun v => bindName X.env y v, fun v => bindName X.env x v] [u2, u1] >>= fun _ => pure Flow.next) _ _ _
  refine wpAny_bind (assignInOrder_cons (wpAny_bindName (store_ok I3 hN hj (.inl hy) rw' (fun s2 I4 => ?_) (.inr hy))))
  refine assignInOrder_cons (wpAny_bindName (store_ok I4 hN hi (.inl hx) rv (fun s3 I5 => assignInOrder_nil (wpAny_pure ?_)) (.inr hx)))
  rw [List.set_comm _ _ (Ne.symm hij)] at I5
  exact ⟨_, H1, I5, q1⟩
/-- name op= e -/
def tAug (i : Nat) (te : TE) (ti : TIp) : TS := fun D σ H => ∃ x, σ[i]? = some (some x) ∧ te σ H fun y H1 => ti x y H1 fun z H2 => D.nx (σ.set i (some z)) H2
theorem ps_aug {i : Nat} {x : Str} {e : Expr} {te : TE} {op : Operator} {ti : TIp} {pos' : Pos} (hN : X.N.Nodup) (hi : X.N[i]? = some x) (hx : Loc X.env.scope x) (he : PE X e te) (ho : PIp X op ti) (hf : X.fn x = true ∨ X.env.scope.names.lookup x = some .local := by first | exact .inl rfl | exact .inr rfl | assumption) :
    PS X (.AugAssign (.Name x pos') op e pos) (tAug i te ti) := by
  intro pins s σ H D I h
  obtain ⟨v, e1, h⟩ := h
  obtain ⟨m, hn, hl⟩ := I.loc
  have vis : Vis X.env.scope x := by rcases hx with k | k; exact .inl k; exact .inr (.inl k)
  obtain ⟨u, r, l⟩ := hl i x v hi e1 vis
  refine wpAny_AugAssign_Name ?_
  have go : wpAny (model X.prog X.w) X.A (eval e X.env) (fun w s₂ => wpAny (model X.prog X.w) X.A (inplaceOp op u w) (fun r s₃ => wpAny (model X.prog X.w) X.A (storeName X.env x r) (fun _ => SP X pins D .next) X.xe s₃) X.xe s₂) X.xe s := by
    refine thn (he pins s σ H _ I h) fun w s1 ⟨y, H1, I1, r1, q1⟩ => ?_
    refine thn (ho pins s1 σ H1 v y u w _ I1 r r1 q1) fun z s2 ⟨zv, H2, I2, r2, q2⟩ => ?_
    exact store_ok I2 hN hi hx r2 (fun s3 I3 => ⟨_, H2, I3, q2⟩) hf
  rcases l with ⟨hk, hm⟩ | ⟨hk, c, hc, hcell⟩
  · exact wpAny_loadName_local I.ok.kind hk hn hm go
  · rcases hk with hk | hk
    · exact wpAny_loadName_cell I.ok.kind hk hc hcell go
    · rcases hx with k | k
      · have : X.env.scope.names.lookup x = some .free := hk
        rw [k] at this; cases this
      · have : X.env.scope.names.lookup x = some .free := hk
        rw [k] at this; cases this
/-- o[i] op= e -/
def tAugS (to ti te : TE) (tget : V → V → Hp → VK → Prop) (tip : TIp) (tset : TSet) : TS := fun D σ H => to σ H fun o H1 => ti σ H1 fun i H2 => tget o i H2 fun x H3 => te σ H3 fun y H4 => tip x y H4 fun z H5 => tset o i z H5 fun H6 => D.nx σ H6
/-- o[i], by values -/
def PGet (X : Cx) (t : V → V → Hp → VK → Prop) : Prop :=
  ∀ (pins : List (Addr × Obj)) (s : Shared) (σ : St) (H : Hp) (o i : V) (ov iv : Value) (Q : VK), Inv X pins σ H s → RelV o ov → RelV i iv → t o i H Q →
    wpAny (model X.prog X.w) X.A (getItem ov iv) (EP X pins σ Q) X.xe s
theorem ps_augS {o i e : Expr} {to ti te : TE} {tget : V → V → Hp → VK → Prop} {tip : TIp} {tset : TSet} {op : Operator} {tpos : Pos} (ho : PE X o to) (hi : PE X i ti) (hg : PGet X tget) (he : PE X e te) (hp : PIp X op tip) (hs : PSet X tset)
    (ha : ∀ ov iv new, augStore i ov iv new = (do holding [new, ov, iv] (setItem ov iv new); release [new, ov, iv] []; pure .next) := by intros; rfl) : PS X (.AugAssign (.Subscript o i tpos) op e pos) (tAugS to ti te tget tip tset) := by
  intro pins s σ H D I h
  refine wpAny_AugAssign_SubscriptAny (thn (ho pins s σ H _ I h) fun ov s1 ⟨x1, H1, I1, r1, q1⟩ => ?_) ha
  refine thn (hi pins s1 σ H1 _ I1 q1) fun iv s2 ⟨x2, H2, I2, r2, q2⟩ => ?_
  refine thn (hg pins s2 σ H2 x1 x2 ov iv _ I2 r1 r2 q2) fun old s3 ⟨x3, H3, I3, r3, q3⟩ => ?_
  refine thn (he pins s3 σ H3 _ I3 q3) fun v s4 ⟨x4, H4, I4, r4, q4⟩ => ?_
  refine thn (hp pins s4 σ H4 x3 x4 old v _ I4 r3 r4 q4) fun new s5 ⟨x5, H5, I5, r5, q5⟩ => ?_
  exact thn (hs pins s5 σ H5 x1 x2 x5 ov iv new _ I5 r1 r2 r5 q5) fun _ s6 ⟨H6, I6, q6⟩ => ⟨σ, H6, I6, q6⟩
/-- ints -/
def ipI (f : Int → Int → Int) : TIp := fun x y H Q => ∃ i j, x = .int i ∧ y = .int j ∧ Q (.int (f i j)) H
theorem ip_add : PIp X .Add (ipI fun i j => i + j) := by
  intro pins s σ H x y v u Q I r1 r2 h
  obtain ⟨i, j, e1, e2, q⟩ := h
  subst e1; subst e2
  obtain ⟨t, rfl⟩ := r1
  obtain ⟨t', rfl⟩ := r2
  exact iadd_int ⟨.int _, H, I.tok _, ⟨_, rfl⟩, q⟩
theorem ip_sub : PIp X .Sub (ipI fun i j => i - j) := by
  intro pins s σ H x y v u Q I r1 r2 h
  obtain ⟨i, j, e1, e2, q⟩ := h
  subst e1; subst e2
  obtain ⟨t, rfl⟩ := r1
  obtain ⟨t', rfl⟩ := r2
  exact isub_int ⟨.int _, H, I.tok _, ⟨_, rfl⟩, q⟩
end

/-! ### while -/
section
variable {X : Cx} {pos : Pos}
/-- the invariant W with its measure -/
def tWhile (c : TT) (tb : TS) : TS := fun D σ H => ∃ W : Nat → St → Hp → Prop, (∃ m, W m σ H) ∧ ∀ m σ H, W m σ H →
  c σ H fun b H1 => if b = true then ∃ N : St → Hp → Prop, (∀ σ' H', N σ' H' → ∃ m', m' < m ∧ W m' σ' H') ∧ tb { D with nx := N, ct := N, bk := D.nx } σ H1 else D.nx σ H1
theorem ps_while {c : Expr} {body : List Stmt} {tc : TT} {tb : TS} (hp : PassesOwn (model X.prog X.w) X.A X.env X.xe) (hc : PT X c tc) (hb : PSs X body tb) : PS X (.While c body [] pos) (tWhile tc tb) := by
  intro pins s σ H D I h
  obtain ⟨W, ⟨m0, w0⟩, turn⟩ := h
  refine wpAny_While (codeAny_whileLoop (fun n s' => ∃ σ' H', Inv X pins σ' H' s' ∧ W n σ' H') ?_ m0 ⟨σ, H, I, w0⟩)
  rintro n s1 ⟨σ1, H1, I1, w1⟩
  refine wpAny_passesOwn hp (thn (hc pins s1 σ1 H1 _ I1 (turn n σ1 H1 w1)) fun b s2 ⟨H2, I2, q2⟩ => ?_)
  cases b with
  | true =>
    obtain ⟨N, hN, q2⟩ := q2
    rw [if_pos rfl]
    refine wpAny_passesOwn hp (thn (hb pins s2 σ1 H2 _ I2 q2) fun f s3 q3 => ?_)
    cases f with
    | next =>
      obtain ⟨σ3, H3, I3, n3⟩ := q3
      obtain ⟨m', hm, w3⟩ := hN σ3 H3 n3
      exact ⟨m', hm, σ3, H3, I3, w3⟩
    | cont =>
      obtain ⟨σ3, H3, I3, n3⟩ := q3
      obtain ⟨m', hm, w3⟩ := hN σ3 H3 n3
      exact ⟨m', hm, σ3, H3, I3, w3⟩
    | brk => exact q3
    | ret v => exact q3
  | false =>
    rw [if_neg Bool.false_ne_true]
    exact wpAny_execs_nil ⟨σ1, H2, I2, q2⟩
end

/-! ### what a loop or a comprehension walks -/
/-- at turn i: it yields x (the heap may grow), or it stops -/
structure It where
  go : Nat → Hp → Prop
  yld : Nat → Hp → V → Hp → Prop
  stop : Nat → Hp → Prop
/-- the iterator's own objects may turn: they are not the frame's, not pinned, younger than the entry (or a comprehension's own) -/
def FpOk (X : Cx) (pins : List (Addr × Obj)) (H : Hp) (b : Addr) : Prop :=
  H b = none ∧ b ≠ X.env.locals ∧ b ∉ X.fs ∧ (b ∈ X.ex ∨ X.s₀.heap.objs.size ≤ b) ∧ (∀ x c, X.env.cells.lookup x = some c → c ≠ b) ∧ ∀ p ∈ X.pn ++ pins, p.1 ≠ b
theorem Inv.fpOk {X : Cx} {pins : List (Addr × Obj)} {σ : St} {H H' : Hp} {s : Shared} {b : Addr} (I : Inv X pins σ H s) (hb : s.heap.objs.size ≤ b) (hn : H' b = none) : FpOk X pins H' b := by
  refine ⟨hn, Nat.ne_of_gt (Nat.lt_of_lt_of_le I.lt hb), I.nofs hb, .inr (Nat.le_trans I.sz hb), fun x c e z => ?_, fun p hp z => ?_⟩
  · obtain ⟨v, q⟩ := I.cell x c e
    exact absurd (Nat.lt_of_lt_of_le q.lt (by rw [z]; exact hb)) (Nat.lt_irrefl _)
  · exact absurd (Nat.lt_of_lt_of_le (Heap.lt_size (I.pin p hp).1) (by rw [z]; exact hb)) (Nat.lt_irrefl _)
structure Turn (P : Program) (w : World) (K : PySem.W.Frag) (tg : Expr) (J : It) (fp : List Addr) (it : Addr) (tn : Nat → Heap → Prop) : Prop where
  mem : it ∈ fp
  obj : ∀ i h, tn i h → ∀ b ∈ fp, ∃ o, h.get? b = some o ∧ ∀ v, o.data ≠ .cell v
  keep : ∀ i h h', tn i h → (∀ b ∈ fp, ∀ o, h.get? b = some o → h'.get? b = some o) → tn i h'
  item : ∀ (X : Cx), X.prog = P → X.w = w → X.K = K → X.calm = true → ∀ (i : Nat) (pins : List (Addr × Obj)) (s : Shared) (σ : St) (H : Hp) (E : Value → Shared → Prop), Inv X pins σ H s → (∀ b ∈ fp, FpOk X pins H b) → tn i s.heap → J.go i H →
    wpAny (model P w) X.A (pyNext (.ref it)) (fun r s1 => ∃ u, r = some u ∧
      wpAny (model P w) X.A (letOwnedTupleGo tg (.ref it) u) (fun _ s2 => ∃ x H', Inv X pins σ H' s2 ∧ RelV x u ∧ J.yld i H x H' ∧ tn (i + 1) s2.heap ∧ ∀ b ∈ fp, H' b = none) E s1) E s
  done : ∀ (X : Cx), X.prog = P → X.w = w → X.K = K → X.calm = true → ∀ (i : Nat) (pins : List (Addr × Obj)) (s : Shared) (σ : St) (H : Hp) (E : Value → Shared → Prop), Inv X pins σ H s → (∀ b ∈ fp, FpOk X pins H b) → tn i s.heap → J.stop i H →
    wpAny (model P w) X.A (pyNext (.ref it)) (fun r s1 => r = none ∧ Inv X pins σ H s1) E s
  self : ∀ (A : Around) (i : Nat) (s : Shared) (Q : Value → Shared → Prop) (E : Value → Shared → Prop), tn i s.heap → Q (.ref it) s → wpAny (model P w) A (pyIter (.ref it)) Q E s
abbrev TI := St → Hp → (It → Hp → Prop) → Prop
/-- an iterator has come -/
def PIE (X : Cx) (pins : List (Addr × Obj)) (σ : St) (tg : Expr) (R : It → Hp → Prop) (itv : Value) (s2 : Shared) : Prop :=
  ∃ (it : Addr) (fp : List Addr) (tn : Nat → Heap → Prop) (J : It) (H' : Hp), itv = .ref it ∧ Inv X pins σ H' s2 ∧ Turn X.prog X.w X.K tg J fp it tn ∧ tn 0 s2.heap ∧ (∀ b ∈ fp, FpOk X pins H' b) ∧ R J H'
def PI (X : Cx) (tg iter : Expr) (wi : TI) : Prop :=
  ∀ (pins : List (Addr × Obj)) (s : Shared) (σ : St) (H : Hp) (R : It → Hp → Prop), Inv X pins σ H s → wi σ H R →
    wpAny (model X.prog X.w) X.A (eval iter X.env) (fun v s1 => wpAny (model X.prog X.w) X.A (pyIter v) (PIE X pins σ tg R) X.xe s1) X.xe s

/-- the step ahead of the store is nothing for an iterator that keeps no tuple -/
theorem go_of {M : Model} {A : Around} {E : Value → Shared → Prop} {s : Shared} {tg : Expr} {it : Addr} {u : Value} {o : Obj} {n : String} {vs : Array Value} {Q : Unit → Shared → Prop} (ho : s.heap.get? it = some o) (hc : o.cls = .type n) (hd : o.data = .fields vs)
    (hn : ["enumerate", "zip", "dict_itemiterator", "dict_reverseitemiterator", "odict_iterator", "itertools.zip_longest", "itertools.pairwise"].contains n = false) (hQ : Q () s) : wpAny M A (letOwnedTupleGo tg (.ref it) u) Q E s := by
  unfold letOwnedTupleGo
  cases tg <;> first
    | exact wpAny_pure hQ
    | (cases u <;> first
        | exact wpAny_pure hQ
        | (refine wpAny_bind (wpAny_load ho ?_)
           rw [hc, hd]
           show wpAny M A (if (["enumerate", "zip", "dict_itemiterator", "dict_reverseitemiterator", "odict_iterator", "itertools.zip_longest", "itertools.pairwise"].contains n && vs[0]? == some (rawInt _)) = true then _ else _) Q E s
           rw [if_neg (by intro h; rw [hn, Bool.false_and] at h; cases h)]
           exact wpAny_pure hQ))

/-- the list at a, as it stands at each turn (a loop may append to it) -/
def Itl (K : PySem.W.Frag) (a : Addr) : It :=
  ⟨fun i H => ∃ xs x, SqL K H a xs ∧ xs[i]? = some x, fun i H x H' => H' = H ∧ ∀ xs, SqL K H a xs → xs[i]? = some x, fun i H => ∃ xs, SqL K H a xs ∧ xs.length ≤ i⟩
def Itt (K : PySem.W.Frag) (a : Addr) : It :=
  ⟨fun i H => ∃ xs x, SqT K H a xs ∧ xs[i]? = some x, fun i H x H' => H' = H ∧ ∀ xs, SqT K H a xs → xs[i]? = some x, fun i H => ∃ xs, SqT K H a xs ∧ xs.length ≤ i⟩
/-- lo, lo + 1, .. (n of them) -/
def Itr (lo : Int) (n : Nat) : It := ⟨fun i _ => i < n, fun i H x H' => H' = H ∧ x = .int (lo + i), fun i _ => n ≤ i⟩
theorem turn_list {P : Program} {w : World} {K : PySem.W.Frag} {tg : Expr} (a it : Addr) : Turn P w K tg (Itl K a) [it] it (fun i h => h.IsListIter it a i) where
  mem := by simp
  obj := fun i h st b hb => by
    have e : b = it := by simpa using hb
    subst e
    obtain ⟨o, e, c, d⟩ := st
    exact ⟨o, e, fun v z => by rw [d] at z; cases z⟩
  keep := fun i h h' st k => st.at fun o e => k it (by simp) o e
  item := by
    intro X hP hw hK hc i pins s σ H E I hf st hg
    subst hP hw hK
    obtain ⟨xs, x, hq, hx⟩ := hg
    obtain ⟨its, rv, p, hz⟩ := I.list hq
    obtain ⟨u, hu, ru⟩ := rv.get hx
    obtain ⟨f0, f1, f2, f3, f4, f5⟩ := hf it (by simp)
    refine wpAny_pyNext_list_item st p.isList (x := u) (by simpa using hu) fun h' st' sb => ?_
    have I1 : Inv X pins σ H { s with heap := h' } := I.turned (t' := s.toks) (fun b o hb e => (sb.2 b hb).trans e) f0 f1 f3 f4 f5
    obtain ⟨o, e, c, d⟩ := id st'
    exact ⟨u, rfl, go_of (s := { s with heap := h' }) e c d (by decide) ⟨x, H, I1, ru, ⟨rfl, fun ys hy => by rw [I.list_inj hy hq]; exact hx⟩, st', fun b hb => (hf b hb).1⟩⟩
  done := by
    intro X hP hw hK hc i pins s σ H E I hf st hg
    subst hP hw hK
    obtain ⟨xs, hq, hx⟩ := hg
    obtain ⟨its, rv, p, hz⟩ := I.list hq
    obtain ⟨f0, f1, f2, f3, f4, f5⟩ := hf it (by simp)
    have hl := rv.length
    exact wpAny_pyNext_list_end (I.ok.hd hc) st p.isList (by simp; omega) fun h' eb => ⟨rfl, I.turned (t' := s.toks) (fun b o hb e => eb b o hb e) f0 f1 f3 f4 f5⟩
  self := fun _ _ _ _ _ st h => wpAny_pyIter_listiter st h
theorem turn_tuple {P : Program} {w : World} {K : PySem.W.Frag} {tg : Expr} (a it : Addr) : Turn P w K tg (Itt K a) [it] it (fun i h => h.IsTupleIter it a i) where
  mem := by simp
  obj := fun i h st b hb => by
    have e : b = it := by simpa using hb
    subst e
    obtain ⟨o, e, c, d⟩ := st
    exact ⟨o, e, fun v z => by rw [d] at z; cases z⟩
  keep := fun i h h' st k => st.at fun o e => k it (by simp) o e
  item := by
    intro X hP hw hK hc i pins s σ H E I hf st hg
    subst hP hw hK
    obtain ⟨xs, x, hq, hx⟩ := hg
    obtain ⟨its, rv, p, hz⟩ := I.tuple hq
    obtain ⟨u, hu, ru⟩ := rv.get hx
    obtain ⟨f0, f1, f2, f3, f4, f5⟩ := hf it (by simp)
    refine wpAny_pyNext_tuple_item st (show s.heap.IsTuple a its.toArray from p) (x := u) (by simpa using hu) fun h' st' sb => ?_
    have I1 : Inv X pins σ H { s with heap := h' } := I.turned (t' := s.toks) (fun b o hb e => (sb.2 b hb).trans e) f0 f1 f3 f4 f5
    obtain ⟨o, e, c, d⟩ := id st'
    exact ⟨u, rfl, go_of (s := { s with heap := h' }) e c d (by decide) ⟨x, H, I1, ru, ⟨rfl, fun ys hy => by rw [I.tuple_inj hy hq]; exact hx⟩, st', fun b hb => (hf b hb).1⟩⟩
  done := by
    intro X hP hw hK hc i pins s σ H E I hf st hg
    subst hP hw hK
    obtain ⟨xs, hq, hx⟩ := hg
    obtain ⟨its, rv, p, hz⟩ := I.tuple hq
    obtain ⟨f0, f1, f2, f3, f4, f5⟩ := hf it (by simp)
    have hl := rv.length
    exact wpAny_pyNext_tuple_end (I.ok.hd hc) st (show s.heap.IsTuple a its.toArray from p) (by simp; omega) fun h' eb => ⟨rfl, I.turned (t' := s.toks) (fun b o hb e => eb b o hb e) f0 f1 f3 f4 f5⟩
  self := fun _ _ _ _ _ st h => wpAny_pyIter_tupleiter st h
theorem turn_range {P : Program} {w : World} {K : PySem.W.Frag} {tg : Expr} (it : Addr) (lo : Int) (n : Nat) : Turn P w K tg (Itr lo n) [it] it (fun i h => IsRangeIter h it (lo + (i : Nat) * 1) ((n : Int) - (i : Nat)) 1) where
  mem := by simp
  obj := fun i h st b hb => by
    have e : b = it := by simpa using hb
    subst e
    exact ⟨_, st, fun v z => by
      have z' : Data.fields _ = Data.cell v := z
      cases z'⟩
  keep := fun i h h' st k => k it (by simp) _ st
  item := by
    intro X hP hw hK hc i pins s σ H E I hf st hg
    subst hP hw hK
    obtain ⟨f0, f1, f2, f3, f4, f5⟩ := hf it (by simp)
    have W := Walks.range (prog := X.prog) (w := X.w) (I.ok.hd hc) it lo 1 n
    refine W.item i s _ _ hg st fun v h' tk hv st' kk => ?_
    obtain ⟨t, rfl⟩ := hv
    have I1 : Inv X pins σ H { s with heap := h', toks := tk } := I.turned (fun b o hb e => kk b o (by simpa using hb) e) f0 f1 f3 f4 f5
    refine ⟨_, rfl, go_of (s := { s with heap := h', toks := tk }) (n := "range_iterator") st' rfl rfl (by decide) ⟨.int (lo + i), H, I1, ⟨t, ?_⟩, ⟨rfl, rfl⟩, st', fun b hb => (hf b hb).1⟩⟩
    rw [Int.mul_one]
  done := by
    intro X hP hw hK hc i pins s σ H E I hf st hg
    subst hP hw hK
    obtain ⟨f0, f1, f2, f3, f4, f5⟩ := hf it (by simp)
    exact wpAny_pyNext_range_end (I.ok.hd hc) st (by have : n ≤ i := hg; omega) fun h' eb => ⟨rfl, I.turned (t' := s.toks) (fun b o hb e => eb b o hb e) f0 f1 f3 f4 f5⟩
  self := fun _ _ _ _ _ st h => wpAny_pyIter_rangeiter st h
end L2

namespace L2
open PySem PySem.Spec PyProof.Rows
section
variable {X : Cx} {tg : Expr}
def iList (K : PySem.W.Frag) (tl : TE) : TI := fun σ H R => tl σ H fun x H1 => ∃ a, x = .ref a ∧ (∃ xs, SqL K H1 a xs) ∧ R (Itl K a) H1
def iTup (K : PySem.W.Frag) (tl : TE) : TI := fun σ H R => tl σ H fun x H1 => ∃ a, x = .ref a ∧ (∃ xs, SqT K H1 a xs) ∧ R (Itt K a) H1
theorem pi_list {l : Expr} {tl : TE} (hl : PE X l tl) : PI X tg l (iList X.K tl) := by
  intro pins s σ H R I h
  refine thn (hl pins s σ H _ I h) fun v s1 ⟨x, H1, I1, r1, q1⟩ => ?_
  obtain ⟨a, e, ⟨xs, hq⟩, q⟩ := q1
  subst e
  cases r1
  obtain ⟨its, rv, p, hz⟩ := I1.list hq
  refine wpAny_pyIter_list p.isList ?_
  refine ⟨s1.heap.objs.size, [s1.heap.objs.size], _, _, H1, rfl, I1.kept (t' := s1.toks) fun b o e => Heap.get?_push_of_some _ e, turn_list a _, ⟨_, Heap.get?_push_size _ rfl, rfl, rfl⟩, fun b hb => ?_, q⟩
  have e : b = s1.heap.objs.size := by simpa using hb
  subst e
  exact I1.fpOk (Nat.le_refl _) (I1.hok.fresh (Nat.le_refl _))
theorem pi_tup {l : Expr} {tl : TE} (hl : PE X l tl) : PI X tg l (iTup X.K tl) := by
  intro pins s σ H R I h
  refine thn (hl pins s σ H _ I h) fun v s1 ⟨x, H1, I1, r1, q1⟩ => ?_
  obtain ⟨a, e, ⟨xs, hq⟩, q⟩ := q1
  subst e
  cases r1
  obtain ⟨its, rv, p, hz⟩ := I1.tuple hq
  refine wpAny_pyIter_tuple (show s1.heap.IsTuple a its.toArray from p) ?_
  refine ⟨s1.heap.objs.size, [s1.heap.objs.size], _, _, H1, rfl, I1.kept (t' := s1.toks) fun b o e => Heap.get?_push_of_some _ e, turn_tuple a _, ⟨_, Heap.get?_push_size _ rfl, rfl, rfl⟩, fun b hb => ?_, q⟩
  have e : b = s1.heap.objs.size := by simpa using hb
  subst e
  exact I1.fpOk (Nat.le_refl _) (I1.hok.fresh (Nat.le_refl _))
/-- a range object just made, walked -/
theorem range_it {pins : List (Addr × Obj)} {σ : St} {H : Hp} {s : Shared} {R : It → Hp → Prop} {E : Value → Shared → Prop} {lo hi : Int} {t u v : Tok} {tk : Nat} (I : Inv X pins σ H s) (h1 : -(2 ^ 62) ≤ lo) (h2 : lo < 2 ^ 62) (h3 : -(2 ^ 62) ≤ hi) (h4 : hi < 2 ^ 62)
    (q : R (Itr lo (hi - lo).toNat) H) : wpAny (model X.prog X.w) X.A (pyIter (.ref s.heap.objs.size)) (PIE X pins σ tg R) E { s with heap := s.heap.push { cls := .type "range", data := .fields #[.int lo t, .int hi u, .int 1 v] }, toks := tk } := by
  refine wpAny_pyIter_range (IsRange.new ..) (small_one h1 h2 h3 h4) ?_
  have I1 : Inv X pins σ H { s with heap := s.heap.push { cls := .type "range", data := .fields #[.int lo t, .int hi u, .int 1 v] }, toks := tk } := I.kept fun b o e => Heap.get?_push_of_some _ e
  refine ⟨(s.heap.push { cls := .type "range", data := .fields #[.int lo t, .int hi u, .int 1 v] }).objs.size, [(s.heap.push { cls := .type "range", data := .fields #[.int lo t, .int hi u, .int 1 v] }).objs.size], _, _, H, rfl,
    I1.kept (t' := tk) fun b o e => Heap.get?_push_of_some _ e, turn_range _ lo (hi - lo).toNat, ?_, fun b hb => ?_, q⟩
  · have e1 : lo + ((0 : Nat) : Int) * 1 = lo := by simp
    have e2 : (((hi - lo).toNat : Nat) : Int) - ((0 : Nat) : Int) = Builtin.Range.rangeSize lo hi 1 := by rw [rangeSize_one]; split <;> omega
    show IsRangeIter _ _ (lo + ((0 : Nat) : Int) * 1) ((((hi - lo).toNat : Nat) : Int) - ((0 : Nat) : Int)) 1
    rw [e1, e2]
    exact Heap.get?_push_size _ rfl
  · have e : b = (s.heap.push { cls := .type "range", data := .fields #[.int lo t, .int hi u, .int 1 v] }).objs.size := by simpa using hb
    subst e
    exact I1.fpOk (Nat.le_refl _) (I1.hok.fresh (Nat.le_refl _))
def iRng1 (ta : TA) : TI := fun σ H R => ta σ H fun vs H1 => ∃ j : Int, vs = [.int j] ∧ -(2 ^ 62) ≤ j ∧ j < 2 ^ 62 ∧ R (Itr 0 j.toNat) H1
def iRng2 (ta : TA) : TI := fun σ H R => ta σ H fun vs H1 => ∃ i j : Int, vs = [.int i, .int j] ∧ (-(2 ^ 62) ≤ i ∧ i < 2 ^ 62 ∧ -(2 ^ 62) ≤ j ∧ j < 2 ^ 62) ∧ R (Itr i (j - i).toNat) H1
theorem pi_range1 {a : Expr} {ta : TA} {p pos : Pos} (hg : Gl X "range") (hm : X.mg "range" = none) (ha : PA X [a] ta) (hs : starEach [a] X.env = [(false, eval a X.env)] := by rfl) : PI X tg (.Call (.Name "range" p) [a] [] pos) (iRng1 ta) := by
  intro pins s σ H R I h
  refine Call_ (ld_blt I hg hm boot_range (PyProof.Rows.callWith_type1 (thn (ha pos pins s σ H _ I h) fun us s1 ⟨vs, H1, I1, r1, q1⟩ => ?_) hs rfl))
  obtain ⟨j, e, q1, q2, q⟩ := q1
  subst e
  cases r1 with
  | cons r rr =>
    cases rr
    obtain ⟨t, rfl⟩ := r
    exact call_range_1 (range_it I1 (by omega) (by omega) q1 q2 (by simpa using q))
theorem pi_range2 {a b : Expr} {ta : TA} {p pos : Pos} (hg : Gl X "range") (hm : X.mg "range" = none) (ha : PA X [a, b] ta) (hs : starEach [a, b] X.env = [(false, eval a X.env), (false, eval b X.env)] := by rfl) (hs2 : starEach [b] X.env = [(false, eval b X.env)] := by rfl) :
    PI X tg (.Call (.Name "range" p) [a, b] [] pos) (iRng2 ta) := by
  intro pins s σ H R I h
  refine Call_ (ld_blt I hg hm boot_range (PyProof.Rows.callWith_type1 (thn (ha pos pins s σ H _ I h) fun us s1 ⟨vs, H1, I1, r1, q1⟩ => ?_) (by rw [hs, hs2]) (by rw [hs2]; rfl)))
  obtain ⟨i, j, e, ⟨q1, q2, q3, q4⟩, q⟩ := q1
  subst e
  cases r1 with
  | cons r rr =>
    cases rr with
    | cons r' rr =>
      cases rr
      obtain ⟨t, rfl⟩ := r
      obtain ⟨t', rfl⟩ := r'
      exact call_range_2 (range_it I1 q1 q2 q3 q4 q)

/-! ### for -/
/-- W: the invariant by the turn and a measure; N: what the body is to reach -/
def tFor (wi : TI) (g : TG) (tb : TS) : TS := fun D σ H => wi σ H fun J H1 => ∃ W : Nat → Nat → St → Hp → Prop, (∃ m, W 0 m σ H1) ∧ ∀ i m σ H, W i m σ H →
  (J.stop i H ∧ D.nx σ H) ∨ (J.go i H ∧ ∃ N : St → Hp → Prop, (∀ σ' H', N σ' H' → ∃ m', m' < m ∧ W (i + 1) m' σ' H') ∧ ∀ x H', J.yld i H x H' → g x σ H' fun σ2 H2 => tb { D with nx := N, ct := N, bk := D.nx } σ2 H2)
/-- the records at fp as they stand -/
def pinsAt (fp : List Addr) (h : Heap) : List (Addr × Obj) := fp.filterMap fun b => (h.get? b).map fun o => (b, o)
theorem mem_pinsAt {fp : List Addr} {h : Heap} {b : Addr} {o : Obj} (hb : b ∈ fp) (e : h.get? b = some o) : (b, o) ∈ pinsAt fp h := List.mem_filterMap.mpr ⟨b, hb, by rw [e]; rfl⟩
theorem of_pinsAt {fp : List Addr} {h : Heap} {p : Addr × Obj} (hp : p ∈ pinsAt fp h) : p.1 ∈ fp ∧ h.get? p.1 = some p.2 := by
  obtain ⟨b, hb, e⟩ := List.mem_filterMap.mp hp
  cases q : h.get? b with
  | none => rw [q] at e; cases e
  | some o =>
    rw [q] at e
    have e' : (b, o) = p := Option.some.inj e
    subst e'
    exact ⟨hb, q⟩
theorem Inv.pinned {pins : List (Addr × Obj)} {σ : St} {H : Hp} {s : Shared} {fp : List Addr} (I : Inv X pins σ H s) (hf : ∀ b ∈ fp, FpOk X pins H b) (ho : ∀ b ∈ fp, ∃ o, s.heap.get? b = some o ∧ ∀ v, o.data ≠ .cell v) : Inv X (pins ++ pinsAt fp s.heap) σ H s :=
  I.pins_of fun p hp => (List.mem_append.mp hp).elim (fun z => I.pin p (List.mem_append_right _ z)) fun z => by
    obtain ⟨hb, e⟩ := of_pinsAt z
    obtain ⟨f0, f1, f2, _⟩ := hf p.1 hb
    obtain ⟨o, e', d⟩ := ho p.1 hb
    rw [e] at e'; cases e'
    exact ⟨e, f0, f1, f2, d⟩
theorem Inv.unpinned {pins pl : List (Addr × Obj)} {σ : St} {H : Hp} {s : Shared} (I : Inv X (pins ++ pl) σ H s) : Inv X pins σ H s := I.pins_of fun p hp => I.pin p (List.mem_append_right _ (List.mem_append_left _ hp))
theorem ps_for {iter : Expr} {body : List Stmt} {wi : TI} {g : TG} {tb : TS} {pos : Pos} (hp : PassesOwn (model X.prog X.w) X.A X.env X.xe) (hc : X.calm = true) (hi : PI X tg iter wi) (hg : PG X tg g) (hb : PSs X body tb)
    (hs : ∀ x, foldedSetIterable iter X.env x = pure x := by intro _; rfl) : PS X (.For tg iter body [] pos) (tFor wi g tb) := by
  intro pins s σ H D I h
  refine wpAny_For (thn (hi pins s σ H _ I h) fun v s1 h1 => thn h1 fun itv s2 h2 => ?_) hs
  obtain ⟨it, fp, tn, J, H2, e, I2, T, st2, f2, W, ⟨m0, w0⟩, turn⟩ := h2
  subst e
  -- what stays true of the iterator's objects through the loop
  have stat : ∀ {H' : Hp}, (∀ b ∈ fp, H' b = none) → ∀ b ∈ fp, FpOk X pins H' b := fun hn b hb => ⟨hn b hb, (f2 b hb).2⟩
  refine codeAny_forLoop_any (fun n s' => ∃ i σ' H', Inv X pins σ' H' s' ∧ tn i s'.heap ∧ (∀ b ∈ fp, H' b = none) ∧ W i n σ' H') ?_ m0 ⟨0, σ, H2, I2, st2, fun b hb => (f2 b hb).1, w0⟩
  rintro n s3 ⟨i, σ3, H3, I3, st3, fr3, w3⟩
  rcases turn i n σ3 H3 w3 with ⟨stop, qn⟩ | ⟨go, N, hN, step⟩
  · refine wpAny_passesOwn hp (thn (T.done X rfl rfl rfl hc i pins s3 σ3 H3 X.xe I3 (stat fr3) st3 stop) fun r s4 ⟨hr, I4⟩ => ?_)
    subst hr
    exact wpAny_execs_nil ⟨σ3, H3, I4, qn⟩
  · refine wpAny_passesOwn hp (thn (T.item X rfl rfl rfl hc i pins s3 σ3 H3 X.xe I3 (stat fr3) st3 go) fun r s4 ⟨u, hr, h4⟩ => ?_)
    subst hr
    refine wpAny_passesOwn hp (thn h4 fun _ s5 ⟨x, H5, I5, r5, y5, st5, fr5⟩ => ?_)
    have I5' := I5.pinned (stat fr5) (T.obj _ _ st5)
    refine wpAny_passesOwn hp (thn (hg _ s5 σ3 H5 x u _ I5' r5 (step x H5 y5)) fun _ s6 ⟨σ6, H6, I6, q6⟩ => ?_)
    refine wpAny_passesOwn hp (thn (hb _ s6 σ6 H6 _ I6 q6) fun f s7 q7 => ?_)
    have again : ∀ {σ7 : St} {H7 : Hp}, Inv X (pins ++ pinsAt fp s5.heap) σ7 H7 s7 → N σ7 H7 → ∃ m, m < n ∧ ∃ i σ' H', Inv X pins σ' H' s7 ∧ tn i s7.heap ∧ (∀ b ∈ fp, H' b = none) ∧ W i m σ' H' := fun {σ7 H7} I7 n7 => by
      obtain ⟨m', hm, w7⟩ := hN σ7 H7 n7
      refine ⟨m', hm, i + 1, σ7, H7, I7.unpinned, T.keep _ _ _ st5 fun b hb o e => (I7.pin (b, o) (List.mem_append_right _ (List.mem_append_right _ (mem_pinsAt hb e)))).1, fun b hb => ?_, w7⟩
      obtain ⟨o, e, d⟩ := T.obj _ _ st5 b hb
      exact (I7.pin (b, o) (List.mem_append_right _ (List.mem_append_right _ (mem_pinsAt hb e)))).2.1
    cases f with
    | next => obtain ⟨σ7, H7, I7, n7⟩ := q7; exact again I7 n7
    | cont => obtain ⟨σ7, H7, I7, n7⟩ := q7; exact again I7 n7
    | brk => obtain ⟨σ7, H7, I7, q7⟩ := q7; exact ⟨σ7, H7, I7.unpinned, q7⟩
    | ret v => obtain ⟨x7, σ7, H7, I7, r7, q7⟩ := q7; exact ⟨x7, σ7, H7, I7.unpinned, r7, q7⟩
end

/-! ### the forms one uses -/
/-- over a list that the body leaves as it is -/
theorem for_list {K : PySem.W.Frag} {a : Addr} {xs : List V} {g : TG} {tb : TS} {D : Ends} {σ : St} {H : Hp} (Pv : Nat → St → Hp → Prop) (h0 : Pv 0 σ H) (hl : ∀ i σ H, i ≤ xs.length → Pv i σ H → SqL K H a xs)
    (hs : ∀ i x σ H, xs[i]? = some x → Pv i σ H → g x σ H fun σ2 H2 => tb { D with nx := Pv (i + 1), ct := Pv (i + 1), bk := D.nx } σ2 H2) (hd : ∀ σ H, Pv xs.length σ H → D.nx σ H) :
    ∃ W : Nat → Nat → St → Hp → Prop, (∃ m, W 0 m σ H) ∧ ∀ i m σ H, W i m σ H →
      ((Itl K a).stop i H ∧ D.nx σ H) ∨ ((Itl K a).go i H ∧ ∃ N : St → Hp → Prop, (∀ σ' H', N σ' H' → ∃ m', m' < m ∧ W (i + 1) m' σ' H') ∧ ∀ x H', (Itl K a).yld i H x H' → g x σ H' fun σ2 H2 => tb { D with nx := N, ct := N, bk := D.nx } σ2 H2) := by
  refine ⟨fun i m σ H => m = xs.length - i ∧ i ≤ xs.length ∧ Pv i σ H, ⟨xs.length, by simp, Nat.zero_le _, h0⟩, ?_⟩
  rintro i m σ H ⟨rfl, hi, p⟩
  have q := hl i σ H hi p
  by_cases hlt : i < xs.length
  · refine .inr ⟨⟨xs, xs[i], q, by simp [hlt]⟩, Pv (i + 1), fun σ' H' p' => ⟨xs.length - (i + 1), by omega, rfl, hlt, p'⟩, fun x H' y => ?_⟩
    obtain ⟨e, y⟩ := y
    subst e
    exact hs i x σ _ (y xs q) p
  · have e : i = xs.length := by omega
    subst e
    exact .inl ⟨⟨xs, q, Nat.le_refl _⟩, hd σ H p⟩
theorem for_tup {K : PySem.W.Frag} {a : Addr} {xs : List V} {g : TG} {tb : TS} {D : Ends} {σ : St} {H : Hp} (Pv : Nat → St → Hp → Prop) (h0 : Pv 0 σ H) (hl : ∀ i σ H, i ≤ xs.length → Pv i σ H → SqT K H a xs)
    (hs : ∀ i x σ H, xs[i]? = some x → Pv i σ H → g x σ H fun σ2 H2 => tb { D with nx := Pv (i + 1), ct := Pv (i + 1), bk := D.nx } σ2 H2) (hd : ∀ σ H, Pv xs.length σ H → D.nx σ H) :
    ∃ W : Nat → Nat → St → Hp → Prop, (∃ m, W 0 m σ H) ∧ ∀ i m σ H, W i m σ H →
      ((Itt K a).stop i H ∧ D.nx σ H) ∨ ((Itt K a).go i H ∧ ∃ N : St → Hp → Prop, (∀ σ' H', N σ' H' → ∃ m', m' < m ∧ W (i + 1) m' σ' H') ∧ ∀ x H', (Itt K a).yld i H x H' → g x σ H' fun σ2 H2 => tb { D with nx := N, ct := N, bk := D.nx } σ2 H2) := by
  refine ⟨fun i m σ H => m = xs.length - i ∧ i ≤ xs.length ∧ Pv i σ H, ⟨xs.length, by simp, Nat.zero_le _, h0⟩, ?_⟩
  rintro i m σ H ⟨rfl, hi, p⟩
  have q := hl i σ H hi p
  by_cases hlt : i < xs.length
  · refine .inr ⟨⟨xs, xs[i], q, by simp [hlt]⟩, Pv (i + 1), fun σ' H' p' => ⟨xs.length - (i + 1), by omega, rfl, hlt, p'⟩, fun x H' y => ?_⟩
    obtain ⟨e, y⟩ := y
    subst e
    exact hs i x σ _ (y xs q) p
  · have e : i = xs.length := by omega
    subst e
    exact .inl ⟨⟨xs, q, Nat.le_refl _⟩, hd σ H p⟩
theorem for_range {lo : Int} {n : Nat} {g : TG} {tb : TS} {D : Ends} {σ : St} {H : Hp} (Pv : Nat → St → Hp → Prop) (h0 : Pv 0 σ H)
    (hs : ∀ i σ H, i < n → Pv i σ H → g (.int (lo + i)) σ H fun σ2 H2 => tb { D with nx := Pv (i + 1), ct := Pv (i + 1), bk := D.nx } σ2 H2) (hd : ∀ σ H, Pv n σ H → D.nx σ H) :
    ∃ W : Nat → Nat → St → Hp → Prop, (∃ m, W 0 m σ H) ∧ ∀ i m σ H, W i m σ H →
      ((Itr lo n).stop i H ∧ D.nx σ H) ∨ ((Itr lo n).go i H ∧ ∃ N : St → Hp → Prop, (∀ σ' H', N σ' H' → ∃ m', m' < m ∧ W (i + 1) m' σ' H') ∧ ∀ x H', (Itr lo n).yld i H x H' → g x σ H' fun σ2 H2 => tb { D with nx := N, ct := N, bk := D.nx } σ2 H2) := by
  refine ⟨fun i m σ H => m = n - i ∧ i ≤ n ∧ Pv i σ H, ⟨n, by simp, Nat.zero_le _, h0⟩, ?_⟩
  rintro i m σ H ⟨rfl, hi, p⟩
  by_cases hlt : i < n
  · refine .inr ⟨hlt, Pv (i + 1), fun σ' H' p' => ⟨n - (i + 1), by omega, rfl, hlt, p'⟩, fun x H' y => ?_⟩
    obtain ⟨e, y⟩ := y
    subst e y
    exact hs i σ _ hlt p
  · have e : i = n := by omega
    subst e
    exact .inl ⟨Nat.le_refl _, hd σ H p⟩
/-- while, by a word and a measure of the state -/
theorem while_by {c : TT} {tb : TS} {D : Ends} {σ : St} {H : Hp} (Pv : St → Hp → Prop) (μ : St → Hp → Nat) (h0 : Pv σ H)
    (hs : ∀ σ H, Pv σ H → c σ H fun b H1 => if b = true then tb { D with nx := fun σ' H' => Pv σ' H' ∧ μ σ' H' < μ σ H, ct := fun σ' H' => Pv σ' H' ∧ μ σ' H' < μ σ H, bk := D.nx } σ H1 else D.nx σ H1)
    (mono : ∀ σ H Q Q', (∀ b H1, Q b H1 → Q' b H1) → c σ H Q → c σ H Q') : tWhile c tb D σ H := by
  refine ⟨fun m σ H => m = μ σ H ∧ Pv σ H, ⟨_, rfl, h0⟩, ?_⟩
  rintro m σ H ⟨rfl, p⟩
  refine mono σ H _ _ (fun b H1 q => ?_) (hs σ H p)
  cases b with
  | true => exact ⟨_, fun σ' H' ⟨p', l⟩ => ⟨_, l, rfl, p'⟩, q⟩
  | false => exact q
end L2

namespace L2
open PySem PySem.Spec PyProof.Rows

abbrev R2 := V → V → Hp → VK → Prop
/-- a two-place operation on values: f is binaryOp op, inplaceOp op or compareOp op -/
def OpR (X : Cx) (f : Value → Value → Sem Value) (r : R2) : Prop :=
  ∀ (pins : List (Addr × Obj)) (s : Shared) (σ : St) (H : Hp) (x y : V) (v u : Value) (Q : VK), Inv X pins σ H s → RelV x v → RelV y u → r x y H Q →
    wpAny (model X.prog X.w) X.A (f v u) (EP X pins σ Q) X.xe s
/-- a one-place operation -/
def UnR (X : Cx) (f : Value → Sem Value) (r : V → Hp → VK → Prop) : Prop :=
  ∀ (pins : List (Addr × Obj)) (s : Shared) (σ : St) (H : Hp) (x : V) (v : Value) (Q : VK), Inv X pins σ H s → RelV x v → r x H Q →
    wpAny (model X.prog X.w) X.A (f v) (EP X pins σ Q) X.xe s
/-- a call of a value that is known (a builtin, a type) with values -/
def CallR (X : Cx) (f : Value) (r : List V → Hp → VK → Prop) : Prop :=
  ∀ (pins : List (Addr × Obj)) (s : Shared) (σ : St) (H : Hp) (xs : List V) (us : List Value) (Q : VK), Inv X pins σ H s → Vals xs us → r xs H Q →
    wpAny (model X.prog X.w) X.A (call f us) (EP X pins σ Q) X.xe s
/-- a value's truth -/
def TruR (X : Cx) (r : V → Hp → (Bool → Hp → Prop) → Prop) : Prop :=
  ∀ (pins : List (Addr × Obj)) (s : Shared) (σ : St) (H : Hp) (x : V) (v : Value) (Q : Bool → Hp → Prop), Inv X pins σ H s → RelV x v → r x H Q →
    wpAny (model X.prog X.w) X.A (truthy v) (TP X pins σ Q) X.xe s

def tOp (r : R2) (ta tb : TE) : TE := fun σ H Q => ta σ H fun x H1 => tb σ H1 fun y H2 => r x y H2 Q
def tUn (r : V → Hp → VK → Prop) (ta : TE) : TE := fun σ H Q => ta σ H fun x H1 => r x H1 Q
/-- ints in, under C, and a value out -/
def rI (C : Int → Int → Prop) (g : Int → Int → V) : R2 := fun x y H Q => ∃ i j, x = .int i ∧ y = .int j ∧ C i j ∧ Q (g i j) H
def rI0 (g : Int → Int → V) : R2 := fun x y H Q => ∃ i j, x = .int i ∧ y = .int j ∧ Q (g i j) H
def rU (g : Int → V) : V → Hp → VK → Prop := fun x H Q => ∃ i, x = .int i ∧ Q (g i) H

section
variable {X : Cx} {a b c : Expr} {ta tb tc : TE} {pos : Pos}

theorem binT (ha : PE X a ta) (hb : PE X b tb) {pins : List (Addr × Obj)} {s : Shared} {σ : St} {H : Hp} {R : V → V → Hp → Prop} (I : Inv X pins σ H s)
    (h : ta σ H fun x H1 => tb σ H1 fun y H2 => R x y H2) {Q : Value → Shared → Prop} {f : Value → Value → Sem Value}
    (hf : ∀ v u s2 x y H2, Inv X pins σ H2 s2 → RelV x v → RelV y u → R x y H2 → wpAny (model X.prog X.w) X.A (f v u) Q X.xe s2) :
    wpAny (model X.prog X.w) X.A (eval a X.env) (fun v s₁ => wpAny (model X.prog X.w) X.A (eval b X.env) (fun u s₂ => wpAny (model X.prog X.w) X.A (f v u) Q X.xe s₂) X.xe s₁) X.xe s := by
  refine thn (ha pins s σ H _ I h) fun v s1 ⟨x, H1, I1, r1, q1⟩ => ?_
  refine thn (hb pins s1 σ H1 _ I1 q1) fun u s2 ⟨y, H2, I2, r2, q2⟩ => ?_
  exact hf v u s2 x y H2 I2 r1 r2 q2

theorem pe_op {op : Operator} {r : R2} (ho : OpR X (binaryOp op) r) (ha : PE X a ta) (hb : PE X b tb) : PE X (.BinOp a op b pos) (tOp r ta tb) := by
  intro pins s σ H Q I h
  exact wpAny_BinOp (binT ha hb I h fun v u s2 x y H2 I2 rx ry q => ho pins s2 σ H2 x y v u Q I2 rx ry q)
theorem pe_un {op : UnaryOp} {r : V → Hp → VK → Prop} (ho : UnR X (unaryOp op) r) (ha : PE X a ta) : PE X (.UnaryOp op a pos) (tUn r ta) := by
  intro pins s σ H Q I h
  exact UnaryOp_ (thn (ha pins s σ H _ I h) fun v s1 ⟨x, H1, I1, r1, q1⟩ => ho pins s1 σ H1 x v Q I1 r1 q1)
/-- a op= e at a name: the name's slot i -/
theorem augR {op : Operator} {r : R2} (ho : OpR X (inplaceOp op) r) {pins : List (Addr × Obj)} {s : Shared} {σ : St} {H : Hp} {x y : V} {v u : Value} {Q : VK} (I : Inv X pins σ H s)
    (rx : RelV x v) (ry : RelV y u) (q : r x y H Q) : wpAny (model X.prog X.w) X.A (inplaceOp op v u) (EP X pins σ Q) X.xe s := ho pins s σ H x y v u Q I rx ry q

/-! ### ints -/
theorem opI {f : Value → Value → Sem Value} {C : Int → Int → Prop} {g : Int → Int → Int}
    (rule : ∀ (i j : Int) (t u : Tok) (s : Shared) (Q : Value → Shared → Prop) (E : Value → Shared → Prop), C i j → Q (.int (g i j) s.toks) { s with toks := s.toks + 1 } → wpAny (model X.prog X.w) X.A (f (.int i t) (.int j u)) Q E s) :
    OpR X f (rI C fun i j => .int (g i j)) := by
  intro pins s σ H x y v u Q I rx ry h
  obtain ⟨i, j, rfl, rfl, hc, q⟩ := h
  obtain ⟨t, rfl⟩ := rx
  obtain ⟨t', rfl⟩ := ry
  exact rule i j t t' s _ _ hc ⟨.int (g i j), H, I.tok _, ⟨_, rfl⟩, q⟩
theorem opI0 {f : Value → Value → Sem Value} {g : Int → Int → Int}
    (rule : ∀ (i j : Int) (t u : Tok) (s : Shared) (Q : Value → Shared → Prop) (E : Value → Shared → Prop), Q (.int (g i j) s.toks) { s with toks := s.toks + 1 } → wpAny (model X.prog X.w) X.A (f (.int i t) (.int j u)) Q E s) :
    OpR X f (rI0 fun i j => .int (g i j)) := by
  intro pins s σ H x y v u Q I rx ry h
  obtain ⟨i, j, rfl, rfl, q⟩ := h
  obtain ⟨t, rfl⟩ := rx
  obtain ⟨t', rfl⟩ := ry
  exact rule i j t t' s _ _ ⟨.int (g i j), H, I.tok _, ⟨_, rfl⟩, q⟩
theorem opB0 {f : Value → Value → Sem Value} {g : Int → Int → Bool}
    (rule : ∀ (i j : Int) (t u : Tok) (s : Shared) (Q : Value → Shared → Prop) (E : Value → Shared → Prop), Q (.bool (g i j)) s → wpAny (model X.prog X.w) X.A (f (.int i t) (.int j u)) Q E s) :
    OpR X f (rI0 fun i j => .bl (g i j)) := by
  intro pins s σ H x y v u Q I rx ry h
  obtain ⟨i, j, rfl, rfl, q⟩ := h
  obtain ⟨t, rfl⟩ := rx
  obtain ⟨t', rfl⟩ := ry
  exact rule i j t t' s _ _ ⟨.bl (g i j), H, I, rfl, q⟩

def CDiv (i j : Int) : Prop := 0 < j ∧ j < 1073741824
def CDivN (i j : Int) : Prop := j ≠ 0 ∧ j.natAbs < 1073741824
def CPow (i j : Int) : Prop := 0 ≤ j ∧ j ≤ 1000000 ∧ i.natAbs < 2 ^ 64
def CMul (i j : Int) : Prop := (-(2 ^ 64) < i ∧ i < 2 ^ 64) ∨ (-(2 ^ 64) < j ∧ j < 2 ^ 64)
theorem CMul.ok {i j : Int} (h : CMul i j) : IntMulOk i j := by
  rcases h with ⟨h1, h2⟩ | ⟨h1, h2⟩
  · exact .of_left (intBits_le_64 h1 h2)
  · exact .of_right (intBits_le_64 h1 h2)
theorem two_pow_nn (k : Nat) : (0 : Int) ≤ 2 ^ k := by
  rw [two_pow_cast]
  exact Int.natCast_nonneg _

theorem op_add : OpR X (binaryOp .Add) (rI0 fun i j => .int (i + j)) := opI0 fun _ _ _ _ _ _ _ q => add_int q
theorem op_sub : OpR X (binaryOp .Sub) (rI0 fun i j => .int (i - j)) := opI0 fun _ _ _ _ _ _ _ q => sub_int q
theorem op_mul : OpR X (binaryOp .Mult) (rI CMul fun i j => .int (i * j)) := opI fun _ _ _ _ _ _ _ hc q => mul_int q hc.ok
/-- // by a positive divisor -/
theorem op_fdiv : OpR X (binaryOp .FloorDiv) (rI CDiv fun i j => .int (i / j)) := opI fun i j _ _ _ _ _ hc q => by
  have h1 : (0 : Int) < j := hc.1
  have h2 : j < 1073741824 := hc.2
  exact floordiv_int (by omega) (by rw [Int.fdiv_eq_ediv_of_nonneg i (by omega)]; exact q) (.inl (PyProof.noPylong_small (by omega)))
theorem op_fdivN : OpR X (binaryOp .FloorDiv) (rI CDivN fun i j => .int (i.fdiv j)) := opI fun _ _ _ _ _ _ _ hc q => floordiv_int hc.1 q (.inl (PyProof.noPylong_small hc.2))
/-- % by a positive divisor of any size -/
theorem op_mod : OpR X (binaryOp .Mod) (rI (fun _ j => 0 < j) fun i j => .int (i % j)) := opI fun i j _ _ _ _ _ hc q => by
  have h1 : (0 : Int) < j := hc
  exact mod_int' (by omega) (by rw [Int.fmod_eq_emod_of_nonneg i (by omega)]; exact q)
theorem op_modN : OpR X (binaryOp .Mod) (rI (fun _ j => j ≠ 0) fun i j => .int (i.fmod j)) := opI fun _ _ _ _ _ _ _ hc q => mod_int' hc q
theorem op_pow : OpR X (binaryOp .Pow) (rI CPow fun i j => .int (i ^ j.toNat)) := opI fun _ _ _ _ _ _ _ hc q => pow_int_small hc.1 hc.2.1 hc.2.2 q
theorem op_shl : OpR X (binaryOp .LShift) (rI CPow fun i j => .int (i * 2 ^ j.toNat)) := opI fun _ _ _ _ _ _ _ hc q => lshift_int_small hc.1 hc.2.1 hc.2.2 q
theorem op_shr : OpR X (binaryOp .RShift) (rI (fun _ j => 0 ≤ j) fun i j => .int (i / 2 ^ j.toNat)) := opI fun i j _ _ _ _ _ hc q =>
  rshift_int hc (by rw [Int.fdiv_eq_ediv_of_nonneg i (two_pow_nn _)]; exact q)
theorem op_and : OpR X (binaryOp .BitAnd) (rI0 fun i j => .int (Builtin.bitAnd i j)) := opI0 fun _ _ _ _ _ _ _ q => and_int q
theorem op_or : OpR X (binaryOp .BitOr) (rI0 fun i j => .int (Builtin.bitOr i j)) := opI0 fun _ _ _ _ _ _ _ q => or_int q
theorem op_xor : OpR X (binaryOp .BitXor) (rI0 fun i j => .int (Builtin.bitXor i j)) := opI0 fun _ _ _ _ _ _ _ q => xor_int q

theorem iop_add : OpR X (inplaceOp .Add) (rI0 fun i j => .int (i + j)) := opI0 fun _ _ _ _ _ _ _ q => iadd_int q
theorem iop_sub : OpR X (inplaceOp .Sub) (rI0 fun i j => .int (i - j)) := opI0 fun _ _ _ _ _ _ _ q => isub_int q
theorem iop_mul : OpR X (inplaceOp .Mult) (rI CMul fun i j => .int (i * j)) := opI fun _ _ _ _ _ _ _ hc q => imul_int q hc.ok
theorem iop_fdiv : OpR X (inplaceOp .FloorDiv) (rI CDiv fun i j => .int (i / j)) := opI fun i j _ _ _ _ _ hc q => by
  have h1 : (0 : Int) < j := hc.1
  have h2 : j < 1073741824 := hc.2
  exact ifloordiv_int (by omega) (by rw [Int.fdiv_eq_ediv_of_nonneg i (by omega)]; exact q) (.inl (PyProof.noPylong_small (by omega)))
theorem iop_mod : OpR X (inplaceOp .Mod) (rI (fun _ j => 0 < j) fun i j => .int (i % j)) := opI fun i j _ _ _ _ _ hc q => by
  have h1 : (0 : Int) < j := hc
  exact imod_int (by omega) (by rw [Int.fmod_eq_emod_of_nonneg i (by omega)]; exact q)
theorem iop_shl : OpR X (inplaceOp .LShift) (rI CPow fun i j => .int (i * 2 ^ j.toNat)) := opI fun _ _ _ _ _ _ _ hc q => ilshift_int_small hc.1 hc.2.1 hc.2.2 q
theorem iop_shr : OpR X (inplaceOp .RShift) (rI (fun _ j => 0 ≤ j) fun i j => .int (i / 2 ^ j.toNat)) := opI fun i j _ _ _ _ _ hc q =>
  irshift_int hc (by rw [Int.fdiv_eq_ediv_of_nonneg i (two_pow_nn _)]; exact q)
theorem iop_and : OpR X (inplaceOp .BitAnd) (rI0 fun i j => .int (Builtin.bitAnd i j)) := opI0 fun _ _ _ _ _ _ _ q => iand_int q
theorem iop_or : OpR X (inplaceOp .BitOr) (rI0 fun i j => .int (Builtin.bitOr i j)) := opI0 fun _ _ _ _ _ _ _ q => ior_int q
theorem iop_xor : OpR X (inplaceOp .BitXor) (rI0 fun i j => .int (Builtin.bitXor i j)) := opI0 fun _ _ _ _ _ _ _ q => ixor_int q

theorem unI {f : Value → Sem Value} {g : Int → Int}
    (rule : ∀ (i : Int) (t : Tok) (s : Shared) (Q : Value → Shared → Prop) (E : Value → Shared → Prop), Q (.int (g i) s.toks) { s with toks := s.toks + 1 } → wpAny (model X.prog X.w) X.A (f (.int i t)) Q E s) :
    UnR X f (rU fun i => .int (g i)) := by
  intro pins s σ H x v Q I rx h
  obtain ⟨i, rfl, q⟩ := h
  obtain ⟨t, rfl⟩ := rx
  exact rule i t s _ _ ⟨.int (g i), H, I.tok _, ⟨_, rfl⟩, q⟩
theorem un_neg : UnR X (unaryOp .USub) (rU fun i => .int (-i)) := unI fun _ _ _ _ _ q => neg_int q
theorem un_inv : UnR X (unaryOp .Invert) (rU fun i => .int (Builtin.bitNot i)) := unI fun _ _ _ _ _ q => invert_int q

/-! ### bools among ints: n += (a < b) -/
theorem op_add_ib : OpR X (binaryOp .Add) (fun x y H Q => ∃ i k, x = .int i ∧ y = .bl k ∧ Q (.int (i + b2i k)) H) := by
  intro pins s σ H x y v u Q I rx ry h
  obtain ⟨i, k, rfl, rfl, q⟩ := h
  obtain ⟨t, rfl⟩ := rx
  cases ry
  exact add_int_bool ⟨.int (i + b2i k), H, I.tok _, ⟨_, rfl⟩, q⟩
end

/-! ### comparisons -/
/-- the scalars that == tells apart as data does -/
def scal : V → V → Bool
  | .non, .non => true | .non, .int _ => true | .int _, .non => true | .non, .bl _ => true | .bl _, .non => true | .non, .str _ => true | .str _, .non => true
  | .int _, .int _ => true | .bl _, .bl _ => true | .str _, .str _ => true | .byt _, .byt _ => true
  | .int _, .str _ => true | .str _, .int _ => true | .bl _, .str _ => true | .str _, .bl _ => true
  | _, _ => false
def rEq : R2 := fun x y H Q => scal x y = true ∧ Q (.bl (decide (x = y))) H
def rNe : R2 := fun x y H Q => scal x y = true ∧ Q (.bl (!decide (x = y))) H

theorem dec_int {i j : Int} : decide (V.int i = V.int j) = (i == j) := by
  rw [Bool.eq_iff_iff]
  simp
theorem dec_bl {i j : Bool} : decide (V.bl i = V.bl j) = (i == j) := by
  rw [Bool.eq_iff_iff]
  simp
theorem dec_str {i j : Str} : decide (V.str i = V.str j) = (i == j) := by
  rw [Bool.eq_iff_iff]
  simp
theorem dec_byt {i j : Array UInt8} : decide (V.byt i = V.byt j) = (i.toList == j.toList) := by
  rw [Bool.eq_iff_iff]
  cases i
  cases j
  simp

section
variable {X : Cx} {a b c : Expr} {ta tb tc : TE} {pos : Pos}
theorem fin_bl {pins : List (Addr × Obj)} {σ : St} {H : Hp} {s : Shared} {Q : VK} {k k' : Bool} (I : Inv X pins σ H s) (q : Q (.bl k) H) (e : k = k') : EP X pins σ Q (.bool k') s := by
  subst e
  exact ⟨.bl k, H, I, rfl, q⟩
theorem op_eq : OpR X (compareOp .Eq) rEq := by
  intro pins s σ H x y v u Q I rx ry h
  obtain ⟨hs, q⟩ := h
  cases x with
  | non =>
    cases rx
    cases y with
    | non => cases ry; exact PySem.EqNone.eq_none_none (fin_bl I q (by simp))
    | bl j => cases ry; exact PySem.EqNone.eq_none_bool (fin_bl I q (by simp))
    | int j => obtain ⟨t', rfl⟩ := ry; exact PySem.EqNone.eq_none_int (fin_bl I q (by simp))
    | str j => obtain ⟨t', rfl⟩ := ry; exact PySem.EqNone.eq_none_str (fin_bl I q (by simp))
    | _ => exact absurd (show false = true from hs) Bool.false_ne_true
  | bl i =>
    cases rx
    cases y with
    | non => cases ry; exact PySem.EqNone.eq_bool_none (fin_bl I q (by simp))
    | bl j => cases ry; exact eq_bool (fin_bl I q dec_bl)
    | str j => obtain ⟨t', rfl⟩ := ry; exact PySem.EqMixed.eq_bool_str (fin_bl I q (by simp))
    | _ => exact absurd (show false = true from hs) Bool.false_ne_true
  | int i =>
    obtain ⟨t, rfl⟩ := rx
    cases y with
    | non => cases ry; exact PySem.EqNone.eq_int_none (fin_bl I q (by simp))
    | int j => obtain ⟨t', rfl⟩ := ry; exact eq_int (fin_bl I q dec_int)
    | str j => obtain ⟨t', rfl⟩ := ry; exact PySem.EqMixed.eq_int_str (fin_bl I q (by simp))
    | _ => exact absurd (show false = true from hs) Bool.false_ne_true
  | str i =>
    obtain ⟨t, rfl⟩ := rx
    cases y with
    | non => cases ry; exact PySem.EqNone.eq_str_none (fin_bl I q (by simp))
    | bl j => cases ry; exact PySem.EqMixed.eq_str_bool (fin_bl I q (by simp))
    | int j => obtain ⟨t', rfl⟩ := ry; exact PySem.EqMixed.eq_str_int (fin_bl I q (by simp))
    | str j => obtain ⟨t', rfl⟩ := ry; exact eq_str (fin_bl I q dec_str)
    | _ => exact absurd (show false = true from hs) Bool.false_ne_true
  | byt i =>
    obtain ⟨t, rfl⟩ := rx
    cases y with
    | byt j => obtain ⟨t', rfl⟩ := ry; exact PySem.W.eq_bytes (fin_bl I q dec_byt)
    | _ => exact absurd (show false = true from hs) Bool.false_ne_true
  | _ => cases y <;> exact absurd (show false = true from hs) Bool.false_ne_true
theorem op_ne : OpR X (compareOp .NotEq) rNe := by
  intro pins s σ H x y v u Q I rx ry h
  obtain ⟨hs, q⟩ := h
  cases x with
  | non =>
    cases rx
    cases y with
    | non => cases ry; exact PySem.EqNone.ne_none_none (fin_bl I q (by simp))
    | bl j => cases ry; exact PySem.EqNone.ne_none_bool (fin_bl I q (by simp))
    | int j => obtain ⟨t', rfl⟩ := ry; exact PySem.EqNone.ne_none_int (fin_bl I q (by simp))
    | str j => obtain ⟨t', rfl⟩ := ry; exact PySem.EqNone.ne_none_str (fin_bl I q (by simp))
    | _ => exact absurd (show false = true from hs) Bool.false_ne_true
  | bl i =>
    cases rx
    cases y with
    | non => cases ry; exact PySem.EqNone.ne_bool_none (fin_bl I q (by simp))
    | bl j => cases ry; exact ne_bool (fin_bl I q (congrArg not dec_bl))
    | str j => obtain ⟨t', rfl⟩ := ry; exact PySem.EqMixed.ne_bool_str (fin_bl I q (by simp))
    | _ => exact absurd (show false = true from hs) Bool.false_ne_true
  | int i =>
    obtain ⟨t, rfl⟩ := rx
    cases y with
    | non => cases ry; exact PySem.EqNone.ne_int_none (fin_bl I q (by simp))
    | int j => obtain ⟨t', rfl⟩ := ry; exact ne_int (fin_bl I q (congrArg not dec_int))
    | str j => obtain ⟨t', rfl⟩ := ry; exact PySem.EqMixed.ne_int_str (fin_bl I q (by simp))
    | _ => exact absurd (show false = true from hs) Bool.false_ne_true
  | str i =>
    obtain ⟨t, rfl⟩ := rx
    cases y with
    | non => cases ry; exact PySem.EqNone.ne_str_none (fin_bl I q (by simp))
    | bl j => cases ry; exact PySem.EqMixed.ne_str_bool (fin_bl I q (by simp))
    | int j => obtain ⟨t', rfl⟩ := ry; exact PySem.EqMixed.ne_str_int (fin_bl I q (by simp))
    | str j => obtain ⟨t', rfl⟩ := ry; exact ne_str (fin_bl I q (congrArg not dec_str))
    | _ => exact absurd (show false = true from hs) Bool.false_ne_true
  | byt i =>
    obtain ⟨t, rfl⟩ := rx
    cases y with
    | byt j => obtain ⟨t', rfl⟩ := ry; exact PySem.W.ne_bytes (fin_bl I q (congrArg not dec_byt))
    | _ => exact absurd (show false = true from hs) Bool.false_ne_true
  | _ => cases y <;> exact absurd (show false = true from hs) Bool.false_ne_true

theorem op_lt : OpR X (compareOp .Lt) (rI0 fun i j => .bl (decide (i < j))) := opB0 fun _ _ _ _ _ _ _ q => lt_int q
theorem op_le : OpR X (compareOp .LtE) (rI0 fun i j => .bl (decide (i ≤ j))) := opB0 fun _ _ _ _ _ _ _ q => le_int q
theorem op_gt : OpR X (compareOp .Gt) (rI0 fun i j => .bl (decide (j < i))) := opB0 fun _ _ _ _ _ _ _ q => gt_int q
theorem op_ge : OpR X (compareOp .GtE) (rI0 fun i j => .bl (decide (j ≤ i))) := opB0 fun _ _ _ _ _ _ _ q => ge_int q
theorem op_lt_str : OpR X (compareOp .Lt) (fun x y H Q => ∃ i j, x = .str i ∧ y = .str j ∧ Q (.bl (decide (i.cps.toList < j.cps.toList))) H) := by
  intro pins s σ H x y v u Q I rx ry h
  obtain ⟨i, j, rfl, rfl, q⟩ := h
  obtain ⟨t, rfl⟩ := rx
  obtain ⟨t', rfl⟩ := ry
  exact lt_str (fin_bl I q rfl)
/-- the one string within the other -/
theorem op_in_str : OpR X (compareOp .In) (fun x y H Q => ∃ i j, x = .str i ∧ y = .str j ∧ Q (.bl (!(Builtin.Str.occurrences j i 0 j.length 1).isEmpty)) H) := by
  intro pins s σ H x y v u Q I rx ry h
  obtain ⟨i, j, rfl, rfl, q⟩ := h
  obtain ⟨t, rfl⟩ := rx
  obtain ⟨t', rfl⟩ := ry
  exact in_str (fin_bl I q rfl)

/-- is None, is not None: the right side a value none -/
theorem op_isN : OpR X (compareOp .Is) (fun x y H Q => y = .non ∧ Q (.bl (decide (x = .non))) H) := by
  intro pins s σ H x y v u Q I rx ry h
  obtain ⟨rfl, q⟩ := h
  cases ry
  refine is_none_gen (fin_bl I q ?_)
  cases x <;> first
    | (cases rx; rfl)
    | (obtain ⟨t, rfl⟩ := rx; rfl)
theorem op_notN : OpR X (compareOp .IsNot) (fun x y H Q => y = .non ∧ Q (.bl (!decide (x = .non))) H) := by
  intro pins s σ H x y v u Q I rx ry h
  obtain ⟨rfl, q⟩ := h
  cases ry
  refine isnot_none_gen (fin_bl I q ?_)
  cases x <;> first
    | (cases rx; rfl)
    | (obtain ⟨t, rfl⟩ := rx; rfl)

theorem op_notin_str : OpR X (compareOp .NotIn) (fun x y H Q => ∃ i j, x = .str i ∧ y = .str j ∧ Q (.bl (!(!(Builtin.Str.occurrences j i 0 j.length 1).isEmpty))) H) := by
  intro pins s σ H x y v u Q I rx ry h
  obtain ⟨i, j, rfl, rfl, q⟩ := h
  obtain ⟨t, rfl⟩ := rx
  obtain ⟨t', rfl⟩ := ry
  exact notIn_str (fin_bl I q rfl)
/-- is, is not of two objects that are tracked lists or instances -/
def isObj : HO → Bool
  | .lst _ => true
  | .ins _ _ _ => true
  | _ => false
theorem obj_there {pins : List (Addr × Obj)} {s : Shared} {σ : St} {H : Hp} {a : Addr} {o : HO} (I : Inv X pins σ H s) (h : H a = some o) (p : isObj o = true) : ∃ ob, s.heap.get? a = some ob ∧ ob.cls ≠ .type "tuple" := by
  cases o with
  | lst xs =>
    obtain ⟨_, its, n, _, e⟩ : xs.length ≤ sizeLine ∧ ∃ (its : List Value) (n : Nat), Vals xs its ∧ s.heap.get? a = some { cls := .type "list", data := .seq its.toArray n } := I.hok a _ h
    exact ⟨_, e, (by show Value.type "list" ≠ .type "tuple"; decide +kernel)⟩
  | ins C dx fs =>
    have x := I.hok a _ h
    obtain ⟨_, _, _, e, _⟩ := x
    exact ⟨_, e, (by show Value.ref C ≠ .type "tuple"; exact fun z => by cases z)⟩
  | _ => exact absurd (show false = true from p) Bool.false_ne_true
theorem op_is_ref : OpR X (compareOp .Is) (fun x y H Q => ∃ a b oa ob, x = .ref a ∧ y = .ref b ∧ H a = some oa ∧ isObj oa = true ∧ H b = some ob ∧ isObj ob = true ∧ Q (.bl (decide (a = b))) H) := by
  intro pins s σ H x y v u Q I rx ry h
  obtain ⟨a, b, oa, ob, rfl, rfl, ha, pa, hb, pb, q⟩ := h
  cases rx
  cases ry
  obtain ⟨o1, e1, n1⟩ := obj_there I ha pa
  obtain ⟨o2, e2, _⟩ := obj_there I hb pb
  by_cases z : a = b
  · subst z
    exact wpAny_is_ref_self (fin_bl I q (by simp))
  · exact wpAny_is_ref_other z e1 e2 n1 (fin_bl I q (by simp [z]))
theorem op_isnot_ref : OpR X (compareOp .IsNot) (fun x y H Q => ∃ a b oa ob, x = .ref a ∧ y = .ref b ∧ H a = some oa ∧ isObj oa = true ∧ H b = some ob ∧ isObj ob = true ∧ Q (.bl (!decide (a = b))) H) := by
  intro pins s σ H x y v u Q I rx ry h
  obtain ⟨a, b, oa, ob, rfl, rfl, ha, pa, hb, pb, q⟩ := h
  cases rx
  cases ry
  obtain ⟨o1, e1, n1⟩ := obj_there I ha pa
  obtain ⟨o2, e2, _⟩ := obj_there I hb pb
  by_cases z : a = b
  · subst z
    exact wpAny_isNot_ref_self (fin_bl I q (by simp))
  · exact wpAny_isNot_ref_other z e1 e2 n1 (fin_bl I q (by simp [z]))

/-- two rules for one operation: by cases -/
theorem OpR.or {f : Value → Value → Sem Value} {r r' : R2} (h : OpR X f r) (h' : OpR X f r') : OpR X f (fun x y H Q => r x y H Q ∨ r' x y H Q) := by
  intro pins s σ H x y v u Q I rx ry q
  rcases q with q | q
  · exact h pins s σ H x y v u Q I rx ry q
  · exact h' pins s σ H x y v u Q I rx ry q

theorem nomark (b : Expr) {op : CmpOp} (h : op ≠ .In := by decide) (h2 : op ≠ .NotIn := by decide) : behindInMarks op b = false := by
  have e1 : (op == CmpOp.In) = false := by cases op <;> first | rfl | exact absurd rfl h
  have e2 : (op == CmpOp.NotIn) = false := by cases op <;> first | rfl | exact absurd rfl h2
  cases b <;> simp [behindInMarks, e1, e2]
/-- a comparison as a value; hm: nomark b, or (for in, not in) by with_unfolding_all rfl -/
theorem pe_cmpR {op : CmpOp} {r : R2} (ho : OpR X (compareOp op) r) (ha : PE X a ta) (hb : PE X b tb) (hm : behindInMarks op b = false) : PE X (.Compare a [op] [b] pos) (tOp r ta tb) := by
  intro pins s σ H Q I h
  exact wpAny_Compare1 (binT ha hb I h fun v u s2 x y H2 I2 rx ry q => ho pins s2 σ H2 x y v u Q I2 rx ry q) hm
/-- a reading of a value as a test -/
def tTest (t : TE) : TT := fun σ H Q => t σ H fun x H' => ∃ k, x = .bl k ∧ Q k H'
theorem pt_cmpR {op : CmpOp} {r : R2} (ho : OpR X (compareOp op) r) (ha : PE X a ta) (hb : PE X b tb) (hm : behindInMarks op b = false) : PT X (.Compare a [op] [b] pos) (tTest (tOp r ta tb)) := by
  intro pins s σ H Q I h
  refine wpAny_isTrue_Compare1 (thn (ha pins s σ H _ I h) fun v s1 ⟨x, H1, I1, r1, q1⟩ => thn (hb pins s1 σ H1 _ I1 q1) fun u s2 ⟨y, H2, I2, r2, q2⟩ =>
    thn (ho pins s2 σ H2 x y v u _ I2 r1 r2 q2) fun c s3 ⟨z, H3, I3, r3, k, e, q3⟩ => ?_) hm
  subst e
  cases r3
  exact wpAny_truthy_bool ⟨H3, I3, q3⟩
/-- a op1 b op2 c -/
def tChain (r r' : R2) (ta tb tc : TE) : TE := fun σ H Q => ta σ H fun x H1 => tb σ H1 fun y H2 => r x y H2 fun z H3 => ∃ k, z = .bl k ∧
  (if k = true then tc σ H3 fun w' H4 => r' y w' H4 Q else Q (.bl false) H3)
theorem pe_chain {op op' : CmpOp} {r r' : R2} (ho : OpR X (compareOp op) r) (ho' : OpR X (compareOp op') r') (ha : PE X a ta) (hb : PE X b tb) (hc : PE X c tc)
    (hm : lastMarks [op, op'] [b, c] = false := by with_unfolding_all rfl) : PE X (.Compare a [op, op'] [b, c] pos) (tChain r r' ta tb tc) := by
  intro pins s σ H Q I h
  refine Compare_chain (thn (ha pins s σ H _ I h) fun v s1 ⟨x, H1, I1, r1, q1⟩ => chain_link (thn (hb pins s1 σ H1 _ I1 q1) fun u s2 ⟨y, H2, I2, r2, q2⟩ =>
    thn (ho pins s2 σ H2 x y v u _ I2 r1 r2 q2) fun d s3 ⟨z, H3, I3, r3, k, e, q3⟩ => ?_)) hm
  subst e
  cases r3
  refine wpAny_truthy_bool ?_
  cases k with
  | false => exact ite_ff ⟨.bl false, H3, I3, rfl, q3⟩
  | true => exact ite_tt (chain_last (thn (hc pins s3 σ H3 _ I3 q3) fun w' s4 ⟨z', H4, I4, r4, q4⟩ => ho' pins s4 σ H4 y z' u w' Q I4 r2 r4 q4))
theorem pt_chain {op op' : CmpOp} {r r' : R2} (ho : OpR X (compareOp op) r) (ho' : OpR X (compareOp op') r') (ha : PE X a ta) (hb : PE X b tb) (hc : PE X c tc)
    (hm : lastMarks [op, op'] [b, c] = false := by with_unfolding_all rfl) : PT X (.Compare a [op, op'] [b, c] pos) (tTest (tChain r r' ta tb tc)) := by
  intro pins s σ H Q I h
  refine isTrue_chain (thn (ha pins s σ H _ I h) fun v s1 ⟨x, H1, I1, r1, q1⟩ => test_link (thn (hb pins s1 σ H1 _ I1 q1) fun u s2 ⟨y, H2, I2, r2, q2⟩ =>
    thn (ho pins s2 σ H2 x y v u _ I2 r1 r2 q2) fun d s3 ⟨z, H3, I3, r3, k, e, q3⟩ => ?_)) hm
  subst e
  cases r3
  refine wpAny_truthy_bool ?_
  cases k with
  | false =>
    obtain ⟨k', e', q'⟩ := q3
    cases e'
    exact ite_ff ⟨H3, I3, q'⟩
  | true =>
    refine ite_tt (test_last (thn (hc pins s3 σ H3 _ I3 q3) fun w' s4 ⟨z', H4, I4, r4, q4⟩ => thn (ho' pins s4 σ H4 y z' u w' _ I4 r2 r4 q4) fun d' s5 ⟨z2, H5, I5, r5, k2, e2, q5⟩ => ?_))
    subst e2
    cases r5
    exact wpAny_truthy_bool ⟨H5, I5, q5⟩

/-! ### truth -/
/-- a value's truth by the abstract heap -/
def TruV (K : PySem.W.Frag) (x : V) (H : Hp) (k : Bool) : Prop :=
  match x with
  | .non => k = false
  | .bl b => k = b
  | .int i => k = (i != 0)
  | .str y => y.length ≤ sizeLine ∧ k = ((y.length : Int) != 0)
  | .byt y => y.size ≤ sizeLine ∧ k = ((y.size : Int) != 0)
  | .ref p => (∃ xs, SqL K H p xs ∧ k = !xs.isEmpty) ∨ (∃ xs, SqT K H p xs ∧ k = !xs.isEmpty) ∨ ∃ kvs, H p = some (.dK kvs) ∧ k = !kvs.isEmpty
  | _ => False
theorem isEmpty_kv {κ : Type} {kvs : List (κ × V)} {vs : List (κ × Value)} (r : KV kvs vs) : (!vs.isEmpty) = !kvs.isEmpty := by
  cases r <;> rfl
theorem isEmpty_of {xs : List V} {its : List Value} (r : Vals xs its) : (!its.toArray.isEmpty) = !xs.isEmpty := by
  cases r <;> simp
theorem line63 : (sizeLine : Nat) < 2 ^ 63 := by rw [sizeLine_eq]; decide
theorem tru_ok : TruR X (fun x H Q => ∃ k, TruV X.K x H k ∧ Q k H) := by
  intro pins s σ H x v Q I rx h
  obtain ⟨k, e, q⟩ := h
  have hl := line63
  have hs : sizeLine = 16777216 := sizeLine_eq
  cases x with
  | non =>
    cases rx
    have e' : k = false := e
    subst e'
    exact truthy_none ⟨H, I, q⟩
  | bl b =>
    cases rx
    have e' : k = b := e
    subst e'
    exact wpAny_truthy_bool ⟨H, I, q⟩
  | int i =>
    obtain ⟨t, rfl⟩ := rx
    have e' : k = (i != 0) := e
    subst e'
    exact PySem.P.truthy_int ⟨H, I, q⟩
  | str y =>
    obtain ⟨t, rfl⟩ := rx
    obtain ⟨hy, e'⟩ : y.length ≤ sizeLine ∧ k = ((y.length : Int) != 0) := e
    subst e'
    exact PySem.P.truthy_str (by omega) ⟨H, I.tok _, q⟩
  | byt y =>
    obtain ⟨t, rfl⟩ := rx
    obtain ⟨hy, e'⟩ : y.size ≤ sizeLine ∧ k = ((y.size : Int) != 0) := e
    subst e'
    exact PySem.W.truthy_bytes (by omega) ⟨H, I.tok _, q⟩
  | ref p =>
    cases rx
    have e' : (∃ xs, SqL X.K H p xs ∧ k = !xs.isEmpty) ∨ (∃ xs, SqT X.K H p xs ∧ k = !xs.isEmpty) ∨ ∃ kvs, H p = some (.dK kvs) ∧ k = !kvs.isEmpty := e
    rcases e' with ⟨xs, hx, e'⟩ | ⟨xs, hx, e'⟩ | ⟨kvs, hx, e'⟩
    · subst e'
      obtain ⟨its, r, pl, hz⟩ := I.list hx
      have hlen := r.length
      exact wpAny_truthy_list pl.isList (by simp only [List.size_toArray]; omega) ⟨H, I.tok _, by rw [isEmpty_of r]; exact q⟩
    · subst e'
      obtain ⟨its, r, pl, hz⟩ := I.tuple hx
      have hlen := r.length
      exact truthy_tuple pl (by simp only [List.size_toArray]; omega) ⟨H, I.tok _, by rw [isEmpty_of r]; exact q⟩
    · subst e'
      obtain ⟨hz, hS, vs, r, m⟩ : kvs.length ≤ sizeLine ∧ (p == sysModules) = false ∧ ∃ vs, KV kvs vs ∧ s.heap.DictOf (mixKind X.prog X.w) p vs := I.hok p _ hx
      have hlen : kvs.length = vs.length := Paired.length r
      exact wpAny_truthy_dict hS m (by omega) ⟨H, I.tok _, by rw [isEmpty_kv r]; exact q⟩
  | _ => exact (show False from e).elim
/-- any expression whose test is its value's truth (a name, a call, a subscript, a field ..: he by fun _ => rfl) -/
theorem pt_truth (ha : PE X a ta) (he : ∀ whole, isTrue a X.env whole = (do let v ← whole; standAt a.pos; holding [v] (truthy v))) :
    PT X a (fun σ H Q => ta σ H fun x H' => ∃ k, TruV X.K x H' k ∧ Q k H') := by
  intro pins s σ H Q I h
  exact isTrue_plain (thn (ha pins s σ H _ I h) fun v s1 ⟨x, H1, I1, r1, q1⟩ => tru_ok pins s1 σ H1 x v Q I1 r1 q1) (he _)

/-! ### strs and bytes -/
theorem pe_byt {x : List UInt8} {k : Nat} : PE X (.Constant (.bytes x) k pos) (fun _ H Q => Q (.byt x.toArray) H) := fun _ _ _ H _ I h => PySem.W.Constant_bytes ⟨.byt x.toArray, H, I.tok _, ⟨_, rfl⟩, h⟩
theorem op_add_str : OpR X (binaryOp .Add) (fun x y H Q => ∃ i j, x = .str i ∧ y = .str j ∧ i.length + j.length ≤ sizeLine ∧ Q (.str (i ++ j)) H) := by
  intro pins s σ H x y v u Q I rx ry h
  obtain ⟨i, j, rfl, rfl, hz, q⟩ := h
  obtain ⟨t, rfl⟩ := rx
  obtain ⟨t', rfl⟩ := ry
  exact add_str (fun t' tk => ⟨.str (i ++ j), H, I.tok _, ⟨_, rfl⟩, q⟩) hz
theorem iop_add_str : OpR X (inplaceOp .Add) (fun x y H Q => ∃ i j, x = .str i ∧ y = .str j ∧ i.length + j.length ≤ sizeLine ∧ Q (.str (i ++ j)) H) := by
  intro pins s σ H x y v u Q I rx ry h
  obtain ⟨i, j, rfl, rfl, hz, q⟩ := h
  obtain ⟨t, rfl⟩ := rx
  obtain ⟨t', rfl⟩ := ry
  exact iadd_str (fun t' tk => ⟨.str (i ++ j), H, I.tok _, ⟨_, rfl⟩, q⟩) hz
theorem op_add_byt : OpR X (binaryOp .Add) (fun x y H Q => ∃ i j, x = .byt i ∧ y = .byt j ∧ i.size + j.size ≤ 16777216 ∧ Q (.byt (i ++ j)) H) := by
  intro pins s σ H x y v u Q I rx ry h
  obtain ⟨i, j, rfl, rfl, hz, q⟩ := h
  obtain ⟨t, rfl⟩ := rx
  obtain ⟨t', rfl⟩ := ry
  exact PySem.W.KBy.add_bytes hz (fun t' tk => ⟨.byt (i ++ j), H, I.tok _, ⟨_, rfl⟩, q⟩)

def PlainIxT (b : Expr) : Prop := ∀ o i, subscripted b false o i = operate [o, i] (getItem o i)
/-- s[i], 0 ≤ i < len -/
theorem pe_item_str (ha : PE X a ta) (hb : PE X b tb) (hs : PlainIxT b) :
    PE X (.Subscript a b pos) (tOp (fun x y H Q => ∃ z i c, x = .str z ∧ y = .int i ∧ 0 ≤ i ∧ i < 2 ^ 63 ∧ i < z.length ∧ z.cps[i.toNat]? = some c ∧ Q (.str ⟨#[c]⟩) H) ta tb) := by
  intro pins s σ H Q I h
  refine Subscript_ (binT ha hb I h fun v u s2 x y H2 I2 rx ry q => ?_)
  obtain ⟨z, i, c, rfl, rfl, h0, h63, h1, hc, q⟩ := q
  obtain ⟨t, rfl⟩ := rx
  obtain ⟨t', rfl⟩ := ry
  have e : seqIndex? i z.length = some i.toNat := PySem.StrLaws.seqIndex_nonneg h0 h1
  exact tail_any (typeIs_str s2 z t) slot_str_getitem.lookup (getItem_str (c := c) (by
    have e1 : decide (i < -(2 ^ 63 : Int)) = false := decide_eq_false (by omega)
    have e2 : decide (i ≥ 2 ^ 63) = false := decide_eq_false (by omega)
    rw [e1, e2] <;> rfl) (by rw [e]; exact hc) ⟨.str ⟨#[c]⟩, H2, I2.tok _, ⟨_, rfl⟩, q⟩) (hs _ _)
/-- b[i], 0 ≤ i < len -/
theorem pe_item_byt (ha : PE X a ta) (hb : PE X b tb) (hs : PlainIxT b) :
    PE X (.Subscript a b pos) (tOp (fun x y H Q => ∃ (z : List UInt8) (i : Int), x = .byt z.toArray ∧ y = .int i ∧ z.length ≤ sizeLine ∧ 0 ≤ i ∧ i < z.length ∧ Q (.int ((z.getD i.toNat 0).toNat : Nat)) H) ta tb) := by
  intro pins s σ H Q I h
  refine Subscript_ (binT ha hb I h fun v u s2 x y H2 I2 rx ry q => ?_)
  obtain ⟨z, i, rfl, rfl, hz, h0, h1, q⟩ := q
  obtain ⟨t, rfl⟩ := rx
  obtain ⟨t', rfl⟩ := ry
  have hl : sizeLine = 16777216 := sizeLine_eq
  exact tail_any (PySem.W.typeIs_bytes s2 z.toArray t) PySem.W.FB.slot_bytes_getitem.lookup (PySem.W.getItem_bytes (by omega) h0 h1 ⟨.int ((z.getD i.toNat 0).toNat : Nat), H2, I2.tok _, ⟨_, rfl⟩, q⟩) (hs _ _)

/-! ### scalar builtins, by CallR -/
theorem vals1 {x : V} {us : List Value} (r : Vals [x] us) : ∃ u, us = [u] ∧ RelV x u := by
  cases r with
  | cons r1 r2 => cases r2; exact ⟨_, rfl, r1⟩
theorem vals2 {x y : V} {us : List Value} (r : Vals [x, y] us) : ∃ u w', us = [u, w'] ∧ RelV x u ∧ RelV y w' := by
  cases r with
  | cons r1 r2 =>
    cases r2 with
    | cons r3 r4 => cases r4; exact ⟨_, _, rfl, r1, r3⟩
theorem call_abs : CallR X (.builtin "abs") (fun xs H Q => ∃ i, xs = [.int i] ∧ Q (.int (if i < 0 then -i else i)) H) := by
  intro pins s σ H xs us Q I r h
  obtain ⟨i, rfl, q⟩ := h
  obtain ⟨u, rfl, t, rfl⟩ := vals1 r
  exact call_abs_int fun u tk => ⟨.int (if i < 0 then -i else i), H, I.tok _, ⟨_, rfl⟩, q⟩
theorem call_max2 (hc : X.calm = true) : CallR X (.builtin "max") (fun xs H Q => ∃ i j, xs = [.int i, .int j] ∧ Q (.int (if j > i then j else i)) H) := by
  intro pins s σ H xs us Q I r h
  obtain ⟨i, j, rfl, q⟩ := h
  obtain ⟨u, w', rfl, ⟨t, rfl⟩, ⟨t', rfl⟩⟩ := vals2 r
  refine max_two_ints (I.ok.hd hc) fun h' tk k => ⟨_, H, I.kept k, ?_, q⟩
  by_cases hj : j > i
  · rw [if_pos hj, if_pos hj]; exact ⟨_, rfl⟩
  · rw [if_neg hj, if_neg hj]; exact ⟨_, rfl⟩
theorem call_min2 (hc : X.calm = true) : CallR X (.builtin "min") (fun xs H Q => ∃ i j, xs = [.int i, .int j] ∧ Q (.int (if j < i then j else i)) H) := by
  intro pins s σ H xs us Q I r h
  obtain ⟨i, j, rfl, q⟩ := h
  obtain ⟨u, w', rfl, ⟨t, rfl⟩, ⟨t', rfl⟩⟩ := vals2 r
  refine min_two_ints (I.ok.hd hc) fun h' tk k => ⟨_, H, I.kept k, ?_, q⟩
  by_cases hj : j < i
  · rw [if_pos hj, if_pos hj]; exact ⟨_, rfl⟩
  · rw [if_neg hj, if_neg hj]; exact ⟨_, rfl⟩
theorem call_int1 : CallR X (.type "int") (fun xs H Q => (∃ i, xs = [.int i] ∧ Q (.int i) H) ∨ ∃ k, xs = [.bl k] ∧ Q (.int (if k then 1 else 0)) H) := by
  intro pins s σ H xs us Q I r h
  rcases h with ⟨i, rfl, q⟩ | ⟨k, rfl, q⟩
  · obtain ⟨u, rfl, t, rfl⟩ := vals1 r
    exact call_int_int ⟨.int i, H, I, ⟨_, rfl⟩, q⟩
  · obtain ⟨u, rfl, r1⟩ := vals1 r
    cases r1
    exact call_int_bool ⟨.int (if k then 1 else 0), H, I.tok _, ⟨_, rfl⟩, q⟩
theorem call_bool1 : CallR X (.type "bool") (fun xs H Q => (∃ i, xs = [.int i] ∧ Q (.bl (i != 0)) H) ∨ ∃ k, xs = [.bl k] ∧ Q (.bl k) H) := by
  intro pins s σ H xs us Q I r h
  rcases h with ⟨i, rfl, q⟩ | ⟨k, rfl, q⟩
  · obtain ⟨u, rfl, t, rfl⟩ := vals1 r
    exact call_bool_int ⟨.bl (i != 0), H, I, rfl, q⟩
  · obtain ⟨u, rfl, r1⟩ := vals1 r
    cases r1
    exact call_bool_bool ⟨.bl k, H, I, rfl, q⟩
theorem call_str_int : CallR X (.type "str") (fun xs H Q => ∃ i, xs = [.int i] ∧ i.natAbs.log2 < 1920 ∧ Q (.str (toString i)) H) := by
  intro pins s σ H xs us Q I r h
  obtain ⟨i, rfl, hz, q⟩ := h
  obtain ⟨u, rfl, t, rfl⟩ := vals1 r
  exact PySem.P.str_of_int hz ⟨.str _, H, I.tok _, ⟨_, rfl⟩, q⟩
theorem call_ord : CallR X (.builtin "ord") (fun xs H Q => ∃ x, xs = [.str x] ∧ x.length = 1 ∧ Q (.int (x.cps.getD 0 0 : Nat)) H) := by
  intro pins s σ H xs us Q I r h
  obtain ⟨x, rfl, hz, q⟩ := h
  obtain ⟨u, rfl, t, rfl⟩ := vals1 r
  exact ord_of_one hz ⟨.int _, H, I.tok _, ⟨_, rfl⟩, q⟩
theorem call_chr : CallR X (.builtin "chr") (fun xs H Q => ∃ i, xs = [.int i] ∧ 0 ≤ i ∧ i ≤ 1114111 ∧ Q (.str ⟨#[i.toNat]⟩) H) := by
  intro pins s σ H xs us Q I r h
  obtain ⟨i, rfl, h0, h1, q⟩ := h
  obtain ⟨u, rfl, t, rfl⟩ := vals1 r
  exact chr_of_range h0 h1 ⟨.str _, H, I.tok _, ⟨_, rfl⟩, q⟩
/-- len of a str, a bytes, a list, a tuple -/
def LenV (K : PySem.W.Frag) (x : V) (H : Hp) (n : Nat) : Prop :=
  match x with
  | .str y => y.length ≤ sizeLine ∧ n = y.length
  | .byt y => y.size ≤ sizeLine ∧ n = y.size
  | .ref p => (∃ xs, SqL K H p xs ∧ n = xs.length) ∨ ∃ xs, SqT K H p xs ∧ n = xs.length
  | _ => False
theorem call_len : CallR X (.builtin "len") (fun xs H Q => ∃ x n, xs = [x] ∧ LenV X.K x H n ∧ Q (.int n) H) := by
  intro pins s σ H xs us Q I r h
  obtain ⟨x, n, rfl, e, q⟩ := h
  obtain ⟨u, rfl, rx⟩ := vals1 r
  have hl := line63
  have hs : sizeLine = 16777216 := sizeLine_eq
  cases x with
  | str y =>
    obtain ⟨t, rfl⟩ := rx
    obtain ⟨hy, e'⟩ : y.length ≤ sizeLine ∧ n = y.length := e
    subst e'
    exact len_str (by omega) ⟨.int _, H, I.tok _, ⟨_, rfl⟩, q⟩
  | byt y =>
    obtain ⟨t, rfl⟩ := rx
    obtain ⟨hy, e'⟩ : y.size ≤ sizeLine ∧ n = y.size := e
    subst e'
    exact PySem.W.len_bytes (by omega) ⟨.int _, H, I.tok _, ⟨_, rfl⟩, q⟩
  | ref p =>
    cases rx
    have e' : (∃ xs, SqL X.K H p xs ∧ n = xs.length) ∨ ∃ xs, SqT X.K H p xs ∧ n = xs.length := e
    rcases e' with ⟨xs, hx, e'⟩ | ⟨xs, hx, e'⟩
    · subst e'
      obtain ⟨its, r', pl, hz⟩ := I.list hx
      have hlen := r'.length
      exact Calls.call_len_list pl.isList (by simp only [List.size_toArray]; omega) ⟨.int xs.length, H, I.tok _, ⟨_, by simp only [List.size_toArray]; rw [hlen]⟩, q⟩
    · subst e'
      obtain ⟨its, r', pl, hz⟩ := I.tuple hx
      have hlen := r'.length
      exact len_tuple pl (by simp only [List.size_toArray]; omega) ⟨.int xs.length, H, I.tok _, ⟨_, by simp only [List.size_toArray]; rw [hlen]⟩, q⟩
  | _ => exact (show False from e).elim
/-- divmod: a new tuple -/
theorem call_divmod : CallR X (.builtin "divmod") (fun xs H Q => ∃ i j, xs = [.int i, .int j] ∧ CDiv i j ∧ ∀ p, H p = none → Q (.ref p) (upd H p (.tup [.int (i / j), .int (i % j)]))) := by
  intro pins s σ H xs us Q I r h
  obtain ⟨i, j, rfl, ⟨h1, h2⟩, q⟩ := h
  obtain ⟨u, w', rfl, ⟨t, rfl⟩, ⟨t', rfl⟩⟩ := vals2 r
  refine divmod_int (by omega) ?_ (.inl (PyProof.noPylong_small (by omega)))
  rw [Int.fdiv_eq_ediv_of_nonneg i (by omega), Int.fmod_eq_emod_of_nonneg i (by omega)]
  have hn : H s.heap.objs.size = none := I.hok.fresh (Nat.le_refl _)
  refine ⟨.ref s.heap.objs.size, _, ?_, rfl, q _ hn⟩
  refine I.laid (fun b o e => Heap.get?_push_of_some _ e) (Nat.le_refl _) ⟨by simp only [List.length_cons, List.length_nil]; rw [sizeLine_eq]; decide, [.int (i / j) s.toks, .int (i % j) (s.toks + 1)], .cons ⟨_, rfl⟩ (.cons ⟨_, rfl⟩ .nil), ?_⟩
  exact ⟨_, Heap.get?_push_size s.heap rfl, rfl, 0, rfl⟩
end
end L2

namespace L2
open PySem PySem.Spec PyProof.Rows

/-! ### an instance, its attributes a map -/
structure ObjM (h : Heap) (x dx C : Addr) (mA : Str → Option Value) : Prop where
  obj : h.get? x = some (PySem.W.instObj C dx)
  ns : h.Ns1 dx mA
  ne : dx ≠ x

theorem lookIn_ns {h : Heap} {dx : Addr} {mA : Str → Option Value} (n : h.Ns1 dx mA) : ∃ od, h.get? dx = some od ∧ ∀ name, PySem.W.lookIn name od = some (mA name) := by
  obtain ⟨o, es, ep, ho, hd, hk, _, hm⟩ := n
  refine ⟨o, ho, fun name => ?_⟩
  have e := hm name
  unfold nsFind findBy at e
  rw [← Array.find?_toList] at e
  unfold PySem.W.lookIn
  rw [hd]
  dsimp only
  split
  · rename_i y q
    rw [q] at e
    exact congrArg some e
  · rename_i q
    rw [q] at e
    have a : es.toList.any (·.refKey) = false := by
      rw [List.any_eq_false]
      intro y hy
      obtain ⟨z, t, hkey⟩ := hk y (Array.mem_toList_iff.mp hy)
      simp [DictEntry.refKey, hkey]
    have a' : ¬ es.toList.any (·.refKey) = true := by rw [a]; exact Bool.false_ne_true
    rw [if_neg a']
    exact congrArg some e

theorem ObjM.look {h : Heap} {x dx C : Addr} {mA : Str → Option Value} (I : ObjM h x dx C mA) : ∃ od, PySem.W.InstAt h x (PySem.W.instObj C dx) C (some od) ∧ ∀ name, PySem.W.lookIn name od = some (mA name) :=
  let ⟨od, ho, hl⟩ := lookIn_ns I.ns
  ⟨od, ⟨I.obj, rfl, rfl, ho⟩, hl⟩

section
variable {prog : Program} {w : World} {A : Around} {E : Value → Shared → Prop} {s : Shared} {K : PySem.W.Frag} {x dx C f : Addr} {mA : Str → Option Value} {name : Str} {v : Value}

theorem get_map {expr : Bool} {Q : Value → Shared → Prop} (X : K.In s.heap) (I : ObjM s.heap x dx C mA) (hg : PySem.W.plainGet K C name = true) (hh : PySem.W.hasDictIn K C = true)
    (ha : PySem.W.findIn K (.ref C) name = some none) (hv : mA name = some v) (hv' : PySem.W.handedIn v = true) (h : Q v { s with toks := s.toks + 1 }) :
    wpAny (model prog w) A (getAttr (.ref x) name expr) Q E s := by
  obtain ⟨od, J, hl⟩ := I.look
  exact PySem.W.get_value X J (PySem.W.plainGet_of hg).1 (PySem.W.findObj_own hh ha rfl (by rw [hl, hv])) hv' h

theorem get_const {expr : Bool} {a : Value} {Q : Value → Shared → Prop} (X : K.In s.heap) (I : ObjM s.heap x dx C mA) (hg : PySem.W.plainGet K C name = true) (hh : PySem.W.hasDictIn K C = true)
    (ha : PySem.W.findIn K (.ref C) name = some (some a)) (hn : PySem.W.specialIn K a "__get__" = some none) (hc : PySem.W.copiedNames.contains name = false) (hv : mA name = none) (hv' : PySem.W.handedIn a = true)
    (h : Q a { s with toks := s.toks + 1 }) : wpAny (model prog w) A (getAttr (.ref x) name expr) Q E s := by
  obtain ⟨od, J, hl⟩ := I.look
  exact PySem.W.get_value X J (PySem.W.plainGet_of hg).1 (PySem.W.findObj_cls hh ha hn hv' hc (by rw [hl, hv])) hv' h

theorem get_meth {pl : Sem Bool} {Q : Value × List Value → Shared → Prop} (X : K.In s.heap) (I : ObjM s.heap x dx C mA) (hg : PySem.W.plainGet K C name = true)
    (hf : PySem.W.findIn K (.ref C) name = some (some (.ref f))) (ht : PySem.W.isFn K (.ref f) = true) (hv : mA name = none) (h : Q (.ref f, [.ref x]) s) :
    wpAny (model prog w) A (getMethod (.ref x) name pl) Q E s := by
  obtain ⟨od, J, hl⟩ := I.look
  exact PySem.W.method_fn X J (PySem.W.plainGet_of hg).1 (PySem.W.plainGet_of hg).2 hf (beq_iff_eq.mp ht) (by show (PySem.W.lookIn name od).map (·.isSome) = some false; rw [hl, hv]; rfl) h

theorem set_map {ns : List Str} {Q : Unit → Shared → Prop} (X : K.In s.heap) (I : ObjM s.heap x dx C mA)
    (hs : PySem.W.findIn K (.ref C) "__setattr__" = some (some (.builtin "object.__setattr__"))) (hp : PySem.W.plainOver K C = true) (ht : PySem.W.takerIn K C name = some none) (hh : PySem.W.hasDictIn K C = true)
    (hw : PySem.Within mA ns) (hsz : ns.length ≤ sizeLine)
    (h : ∀ h', ObjM h' x dx C (fun y => if y = name then some v else mA y) → Heap.SameBut dx s.heap h' → Q () { s with heap := h', toks := s.toks + 2 }) :
    wpAny (model prog w) A (setAttr (.ref x) name v) Q E s := by
  obtain ⟨od, J, hl⟩ := I.look
  refine PySem.W.set_plain X J hs (PySem.W.osa_open (s := { s with toks := s.toks + 1 }) (r := none) X J hp ht fun b => ?_)
  obtain ⟨cd, hc, hd'⟩ := PySem.W.any_some hh
  have hx : s.heap.get? x = some ⟨.ref C, some dx, .plain, #[]⟩ := I.obj
  refine wpAny_bind (wpAny_pure (wpAny_bind (wpAny_bind (wpAny_loadPart hx (wpAny_bind (PySem.W.Looks.here (s := { s with toks := s.toks + 1 }) (PySem.W.looks_clsIn X hc) ?_))))))
  rw [hd']
  refine wpAny_pure (a := some dx) (wpAny_bind (wpAny_pure (wpAny_bind ?_)))
  refine wpAny_nsSet1 (s := { s with toks := s.toks + 1 }) I.ns fun h' hn2 hs2 => ?_
  obtain ⟨oD, esD, epD, hoD, hdD, hcD⟩ := hn2.count (PySem.Within.cons name v hw)
  refine wpAny_bind (wpAny_lookBehind hoD (by rw [hdD]; exact pastItsLine_dict (Nat.le_trans hcD (by rw [List.length_cons]; omega))) ?_)
  exact wpAny_pure (h _ ⟨(hs2.2 _ (Ne.symm I.ne)).trans I.obj, hn2, I.ne⟩ hs2)

/-- C(..): the dict at the heap's end, the instance behind it; then its __init__ -/
theorem make_map {R : Result → Shared → Prop} {vs : List Value} {kw : List (Str × Value)} (X : K.In s.heap) (hm : PySem.W.makesIn K C = true)
    (hi : PySem.W.findIn K (.ref C) "__init__" = some (some (.ref f))) (hf : PySem.W.typeIn K (.ref f) = some (.type "function"))
    (h : codeAny (model prog w) (A.under (.builtin "type.__call__" ⟨.ref C :: vs, kw⟩)) (.call (.ref f) ⟨.ref (s.heap.objs.size + 1) :: vs, kw⟩) (PySem.W.InitBack (s.heap.objs.size + 1) R)
      { s with heap := (s.heap.push PySem.W.emptyDict).push (PySem.W.instObj C s.heap.objs.size) }) :
    codeAny (model prog w) A (.call (.ref C) ⟨vs, kw⟩) R s := by
  obtain ⟨hh, g, d, t, os⟩ := s
  exact PySem.W.make_core (PySem.W.makes_of X hm) (PySem.W.looks_findIn X hi) (fun self => PySem.W.bind_fn X self hf) (.inl rfl) h
/-- C() where there is no __init__ but object's -/
theorem make_map0 {R : Result → Shared → Prop} (X : K.In s.heap) (hm : PySem.W.makesIn K C = true)
    (hi : PySem.W.findIn K (.ref C) "__init__" = some (some (.builtin "object.__init__")))
    (hb : ∀ self, PySem.W.Looks (model prog w) s.heap (bindSpecial (.builtin "object.__init__") self) (.builtin "object.__init__", [self]))
    (h : codeAny (model prog w) (A.under (.builtin "type.__call__" ⟨[.ref C], []⟩)) (.call (.builtin "object.__init__") ⟨[.ref (s.heap.objs.size + 1)], []⟩) (PySem.W.InitBack (s.heap.objs.size + 1) R)
      { s with heap := (s.heap.push PySem.W.emptyDict).push (PySem.W.instObj C s.heap.objs.size) }) :
    codeAny (model prog w) A (.call (.ref C) ⟨[], []⟩) R s := by
  obtain ⟨hh, g, d, t, os⟩ := s
  exact PySem.W.make_core (PySem.W.makes_of X hm) (PySem.W.looks_findIn X hi) hb (.inr ⟨rfl, rfl⟩) h
end

/-! ### the attributes as a list of pairs -/
def putF (f : Str) (v : V) : List (Str × V) → List (Str × V)
  | [] => [(f, v)]
  | (g, x) :: r => if g = f then (g, v) :: r else (g, x) :: putF f v r
theorem lookup_putF (f g : Str) (v : V) : ∀ fs : List (Str × V), (putF f v fs).lookup g = if g = f then some v else fs.lookup g
  | [] => by
    show List.lookup g [(f, v)] = _
    by_cases h : g = f
    · have hb : (g == f) = true := beq_iff_eq.mpr h
      simp only [List.lookup, hb, if_pos h]
    · have hb : (g == f) = false := beq_eq_false_iff_ne.mpr h
      simp only [List.lookup, hb, if_neg h]
  | (k, x) :: r => by
    have ih := lookup_putF f g v r
    rw [show putF f v ((k, x) :: r) = (if k = f then (k, v) :: r else (k, x) :: putF f v r) from rfl]
    by_cases hk : k = f
    · rw [if_pos hk]
      by_cases h : g = k
      · have hb : (g == k) = true := beq_iff_eq.mpr h
        simp only [List.lookup, hb, if_pos (h.trans hk)]
      · have hb : (g == k) = false := beq_eq_false_iff_ne.mpr h
        simp only [List.lookup, hb, if_neg (fun e : g = f => h (e.trans hk.symm))]
    · rw [if_neg hk]
      by_cases h : g = k
      · have hb : (g == k) = true := beq_iff_eq.mpr h
        simp only [List.lookup, hb, if_neg (fun e : g = f => hk (h.symm.trans e))]
      · have hb : (g == k) = false := beq_eq_false_iff_ne.mpr h
        simp only [List.lookup, hb]
        exact ih
theorem keys_putF (f : Str) (v : V) : ∀ fs : List (Str × V), f ∈ (putF f v fs).map (·.1) ∧ ∀ g, g ∈ fs.map (·.1) → g ∈ (putF f v fs).map (·.1)
  | [] => ⟨by simp [putF], fun g h => by simp at h⟩
  | (k, x) :: r => by
    obtain ⟨i1, i2⟩ := keys_putF f v r
    rw [show putF f v ((k, x) :: r) = (if k = f then (k, v) :: r else (k, x) :: putF f v r) from rfl]
    by_cases hk : k = f
    · rw [if_pos hk]
      subst hk
      exact ⟨by simp, fun g h => by simpa using h⟩
    · rw [if_neg hk]
      refine ⟨?_, fun g h => ?_⟩
      · rw [List.map_cons]
        exact List.mem_cons_of_mem _ i1
      · rw [List.map_cons] at h ⊢
        rcases List.mem_cons.mp h with e | e
        · exact List.mem_cons.mpr (.inl e)
        · exact List.mem_cons_of_mem _ (i2 g e)
theorem length_putF (f : Str) (v : V) : ∀ fs : List (Str × V), (putF f v fs).length ≤ fs.length + 1
  | [] => by simp [putF]
  | (k, x) :: r => by
    have ih := length_putF f v r
    rw [show putF f v ((k, x) :: r) = (if k = f then (k, v) :: r else (k, x) :: putF f v r) from rfl]
    by_cases hk : k = f
    · rw [if_pos hk, List.length_cons, List.length_cons]; omega
    · rw [if_neg hk, List.length_cons, List.length_cons]; omega

theorem RelO.some_of {v : V} {o : Option Value} (r : RelO (some v) o) : ∃ u, o = some u ∧ RelV v u := by
  cases o with
  | none => exact (show False from r).elim
  | some u => exact ⟨u, rfl, r⟩
theorem RelO.none_of {o : Option Value} (r : RelO none o) : o = none := by
  cases o with
  | none => rfl
  | some u => exact (show False from r).elim
theorem handed_of {v : V} {u : Value} (r : RelV v u) : PySem.W.handedIn u = true := by
  cases v with
  | non => cases (show u = Value.none from r); rfl
  | bl b => cases (show u = Value.bool b from r); rfl
  | int i => obtain ⟨t, e⟩ := (show ∃ t, u = Value.int i t from r); cases e; rfl
  | str x => obtain ⟨t, e⟩ := (show ∃ t, u = Value.str x t from r); cases e; rfl
  | byt b => obtain ⟨t, e⟩ := (show ∃ t, u = Value.bytes b t from r); cases e; rfl
  | flt b => obtain ⟨t, e⟩ := (show ∃ t, u = Value.float b t from r); cases e; rfl
  | ref a => cases (show u = Value.ref a from r); rfl
  | ty n => cases (show u = Value.type n from r); rfl

section
variable {P : Program} {w : World} {H H' : Hp} {h h' : Heap} {a C dx : Addr} {fs fs' : List (Str × V)}
theorem ins_get (hok : HOk P w H h) (e : H a = some (.ins C dx fs)) : ∃ mA, ObjM h a dx C mA ∧ (∀ f, RelO (fs.lookup f) (mA f)) ∧ PySem.Within mA (fs.map (·.1)) ∧ fs.length ≤ 1000 ∧ H dx = some (.own a) := by
  obtain ⟨d, z, ne, ob, mA, n, r, q⟩ := (show ObjOk P w H h a (.ins C dx fs) from hok a _ e)
  exact ⟨mA, ⟨ob, n, ne⟩, r, q, z, d⟩
end

/-! ### what of the text a class must have -/
structure Cls (K : PySem.W.Frag) (C : Addr) : Prop where
  pg : PySem.W.plainGet K C Str.empty = true
  hd : PySem.W.hasDictIn K C = true
  po : PySem.W.plainOver K C = true
  sa : PySem.W.findIn K (.ref C) "__setattr__" = some (some (.builtin "object.__setattr__"))
theorem Cls.get {K : PySem.W.Frag} {C : Addr} (c : Cls K C) (f : Str) : PySem.W.plainGet K C f = true := c.pg
/-- no class of it has the name -/
def NoAttr (K : PySem.W.Frag) (C : Addr) (f : Str) : Prop := PySem.W.findIn K (.ref C) f = some none
theorem NoAttr.taker {K : PySem.W.Frag} {C : Addr} {f : Str} (n : NoAttr K C f) : PySem.W.takerIn K C f = some none := by
  unfold PySem.W.takerIn
  rw [show PySem.W.findIn K (.ref C) f = some none from n]
  rfl
/-- a constant of the class -/
structure Con (K : PySem.W.Frag) (C : Addr) (f : Str) (v : V) (u : Value) : Prop where
  at_ : PySem.W.findIn K (.ref C) f = some (some u)
  rel : RelV v u
  get : PySem.W.specialIn K u "__get__" = some none
  cp : PySem.W.copiedNames.contains f = false
/-- a method: a plain def of the class or of one above it -/
structure Meth (K : PySem.W.Frag) (C : Addr) (m : Str) (f : Addr) : Prop where
  at_ : PySem.W.findIn K (.ref C) m = some (some (.ref f))
  fn : PySem.W.isFn K (.ref f) = true
  kp : PySem.W.keepIn K (.ref f) = true

section
variable {X : Cx} {pins : List (Addr × Obj)} {σ : St} {H : Hp} {s : Shared} {a C dx : Addr} {fs : List (Str × V)} {f : Str} {v : V} {A : Around} {E : Value → Shared → Prop}

theorem getattr_ok {b : Bool} {Q : Value → Shared → Prop} (I : Inv X pins σ H s) (e : H a = some (.ins C dx fs)) (c : Cls X.K C) (n : NoAttr X.K C f) (l : fs.lookup f = some v)
    (h : ∀ u s', Inv X pins σ H s' → RelV v u → Q u s') : wpAny (model X.prog X.w) A (getAttr (.ref a) f b) Q E s := by
  obtain ⟨mA, O, r, _, _, _⟩ := ins_get I.hok e
  obtain ⟨u, hu, ru⟩ := RelO.some_of (v := v) (o := mA f) (by rw [← l]; exact r f)
  exact get_map I.kIn O (c.get f) c.hd n hu (handed_of ru) (h u _ (I.tok _) ru)

theorem getcon_ok {b : Bool} {u : Value} {Q : Value → Shared → Prop} (I : Inv X pins σ H s) (e : H a = some (.ins C dx fs)) (c : Cls X.K C) (k : Con X.K C f v u) (l : fs.lookup f = none)
    (h : ∀ s', Inv X pins σ H s' → Q u s') : wpAny (model X.prog X.w) A (getAttr (.ref a) f b) Q E s := by
  obtain ⟨mA, O, r, _, _, _⟩ := ins_get I.hok e
  have hn : mA f = none := RelO.none_of (by rw [← l]; exact r f)
  exact get_const I.kIn O (c.get f) c.hd k.at_ k.get k.cp hn (handed_of k.rel) (h _ (I.tok _))

theorem getmeth_ok {m : Str} {g : Addr} {pl : Sem Bool} {Q : Value × List Value → Shared → Prop} (I : Inv X pins σ H s) (e : H a = some (.ins C dx fs)) (c : Cls X.K C) (k : Meth X.K C m g) (l : fs.lookup m = none)
    (h : Q (.ref g, [.ref a]) s) : wpAny (model X.prog X.w) A (getMethod (.ref a) m pl) Q E s := by
  obtain ⟨mA, O, r, _, _, _⟩ := ins_get I.hok e
  have hn : mA m = none := RelO.none_of (by rw [← l]; exact r m)
  exact get_meth I.kIn O (c.get m) k.at_ k.fn hn h

theorem setattr_ok {y : V} {u : Value} {Q : Unit → Shared → Prop} (I : Inv X pins σ H s) (e : H a = some (.ins C dx fs)) (c : Cls X.K C) (n : NoAttr X.K C f) (hl : fs.length < 1000) (ry : RelV y u)
    (h : ∀ s', Inv X pins σ (upd H a (.ins C dx (putF f y fs))) s' → Q () s') : wpAny (model X.prog X.w) A (setAttr (.ref a) f u) Q E s := by
  obtain ⟨mA, O, r, wi, _, ho⟩ := ins_get I.hok e
  have hz : (fs.map (·.1)).length ≤ sizeLine := by rw [List.length_map, sizeLine_eq]; omega
  refine set_map I.kIn O c.sa c.po n.taker c.hd wi hz fun h' O' sb => h _ ?_
  have hd : ∃ o, h'.get? dx = some o := let ⟨o, _, _, e', _⟩ := O'.ns; ⟨o, e'⟩
  refine I.write (x := a) (e := dx) (by rw [e]; exact True.intro) (.inr ho) (fun b q hb z => (sb.2 b hb).trans z) hd ?_
  refine ⟨by rw [upd_ne O.ne]; exact ho, ?_, O.ne, O'.obj, _, O'.ns, fun g => ?_, fun g hg => ?_⟩
  · have := length_putF f y fs; omega
  · show RelO ((putF f y fs).lookup g) (if g = f then some u else mA g)
    rw [lookup_putF]
    by_cases q : g = f
    · rw [if_pos q, if_pos q]; exact ry
    · rw [if_neg q, if_neg q]; exact r g
  · by_cases q : g = f
    · rw [q]; exact (keys_putF f y fs).1
    · refine (keys_putF f y fs).2 g (wi g fun z => hg ?_)
      show (if g = f then some u else mA g) = none
      rw [if_neg q]; exact z

/-- a new instance, tracked, without attributes -/
theorem Inv.made (I : Inv X pins σ H s) : Inv X pins σ (upd (upd H s.heap.objs.size (.own (s.heap.objs.size + 1))) (s.heap.objs.size + 1) (.ins C s.heap.objs.size []))
    { s with heap := (s.heap.push PySem.W.emptyDict).push (PySem.W.instObj C s.heap.objs.size) } := by
  have e1 : (s.heap.push PySem.W.emptyDict).get? s.heap.objs.size = some PySem.W.emptyDict := Heap.get?_push_size s.heap rfl
  have e2 : ((s.heap.push PySem.W.emptyDict).push (PySem.W.instObj C s.heap.objs.size)).get? (s.heap.objs.size + 1) = some (PySem.W.instObj C s.heap.objs.size) := by
    have := Heap.get?_push_size (s.heap.push PySem.W.emptyDict) (o := PySem.W.instObj C s.heap.objs.size) rfl
    rwa [Heap.size_push] at this
  have e3 : (s.heap.push PySem.W.emptyDict).Ns s.heap.objs.size (fun _ => none) := ⟨PySem.W.emptyDict, #[], _, e1, rfl, (fun e he => absurd he (by simp)), fun _ => rfl⟩
  have I1 := I.laid (a := s.heap.objs.size) (o := .own (s.heap.objs.size + 1)) (h' := s.heap.push PySem.W.emptyDict) (t' := s.toks) (fun b u q => Heap.get?_push_of_some _ q) (Nat.le_refl _) ⟨_, e1⟩
  refine I1.laid (a := s.heap.objs.size + 1) (o := .ins C s.heap.objs.size []) (t' := s.toks) (fun b u q => Heap.get?_push_of_some _ q) (Nat.le_of_eq (Heap.size_push _ _)) ?_
  have ne : s.heap.objs.size ≠ s.heap.objs.size + 1 := Nat.ne_of_lt (Nat.lt_succ_self _)
  refine ⟨by rw [upd_ne ne, upd_same], Nat.zero_le _, ne, e2, fun _ => none, (Heap.Ns1.of_empty e3).at fun o q => Heap.get?_push_of_some _ q, fun _ => True.intro, fun y hy => absurd rfl hy⟩

/-- e.f where nothing but the object is asked: through attributeBase (super) and the last hold -/
theorem attr_of {prog : Program} {w : World} {env : Env} {e : Expr} {f : Str} {pos : Pos} {s : Shared} {Q : Value → Shared → Prop} (hb : attributeBase e f env (eval e env) = eval e env)
    (h : wpAny (model prog w) A (eval e env) (fun o s₁ => wpAny (model prog w) A (getAttr o f true) Q E s₁) E s) : wpAny (model prog w) A (eval (.Attribute e f pos) env) Q E s :=
  Attribute_any_ h (by rw [arm_eval_Attribute, hb])
end

/-! ### readings and rules -/
/-- e.f, an attribute of the instance -/
def tFld (K : PySem.W.Frag) (ta : TE) (f : Str) : TE := fun σ H Q => ta σ H fun x H1 => ∃ a C dx fs v, x = .ref a ∧ H1 a = some (.ins C dx fs) ∧ Cls K C ∧ NoAttr K C f ∧ fs.lookup f = some v ∧ Q v H1
/-- e.f, a constant of the class -/
def tCon (K : PySem.W.Frag) (ta : TE) (f : Str) : TE := fun σ H Q => ta σ H fun x H1 => ∃ a C dx fs v u, x = .ref a ∧ H1 a = some (.ins C dx fs) ∧ Cls K C ∧ Con K C f v u ∧ fs.lookup f = none ∧ Q v H1
/-- e.f = value -/
def sFld (K : PySem.W.Frag) (ta tv : TE) (f : Str) : TS := fun D σ H => tv σ H fun y H1 => ta σ H1 fun x H2 => ∃ a C dx fs, x = .ref a ∧ H2 a = some (.ins C dx fs) ∧ Cls K C ∧ NoAttr K C f ∧ fs.length < 1000 ∧
  D.nx σ (upd H2 a (.ins C dx (putF f y fs)))
/-- an augmented operator on two values -/
def InOp (X : Cx) (op : Operator) (rd : V → V → Hp → VK → Prop) : Prop :=
  ∀ (pins : List (Addr × Obj)) (s : Shared) (σ : St) (H : Hp) (x y : V) (u v : Value) (Q : VK), Inv X pins σ H s → RelV x u → RelV y v → rd x y H Q → wpAny (model X.prog X.w) X.A (inplaceOp op u v) (EP X pins σ Q) X.xe s
/-- e.f op= value -/
def sFldAug (K : PySem.W.Frag) (ta tv : TE) (rd : V → V → Hp → VK → Prop) (f : Str) : TS := fun D σ H => ta σ H fun x H1 => ∃ a C dx fs v, x = .ref a ∧ H1 a = some (.ins C dx fs) ∧ Cls K C ∧ NoAttr K C f ∧ fs.lookup f = some v ∧
  tv σ H1 fun y H2 => rd v y H2 fun z H3 => ∃ dx' fs', H3 a = some (.ins C dx' fs') ∧ fs'.length < 1000 ∧ D.nx σ (upd H3 a (.ins C dx' (putF f z fs')))

section
variable {X : Cx} {o e value : Expr} {f : Str} {pos pos' tpos : Pos} {ta tv : TE}
theorem pe_fld (he : PE X e ta) (hb : attributeBase e f X.env (eval e X.env) = eval e X.env) : PE X (.Attribute e f pos) (tFld X.K ta f) := by
  intro pins s σ H Q I h
  refine attr_of hb (thn (he pins s σ H _ I h) fun u s1 ⟨x, H1, I1, rx, a, C, dx, fs, v, ex, ea, c, n, l, q⟩ => ?_)
  subst ex
  obtain rfl : u = Value.ref a := rx
  exact getattr_ok I1 ea c n l fun u' s2 I2 ru => ⟨v, H1, I2, ru, q⟩
theorem pe_con (he : PE X e ta) (hb : attributeBase e f X.env (eval e X.env) = eval e X.env) : PE X (.Attribute e f pos) (tCon X.K ta f) := by
  intro pins s σ H Q I h
  refine attr_of hb (thn (he pins s σ H _ I h) fun u s1 ⟨x, H1, I1, rx, a, C, dx, fs, v, u0, ex, ea, c, k, l, q⟩ => ?_)
  subst ex
  obtain rfl : u = Value.ref a := rx
  exact getcon_ok I1 ea c k l fun s2 I2 => ⟨v, H1, I2, k.rel, q⟩
theorem ps_fld (ha : PE X o ta) (hv : PE X value tv) (hs : swapsWith value (some (.Attribute o f pos')) pos.line X.env = pure false) : PS X (.Assign [.Attribute o f pos'] value pos) (sFld X.K ta tv f) := by
  intro pins s σ H D I h
  refine plainObj_wpAny_Assign_Attribute (thn (hv pins s σ H _ I h) fun u s1 ⟨y, H1, I1, ry, q⟩ => thn (ha pins s1 σ H1 _ I1 q) fun ov s2 ⟨x, H2, I2, rx, a, C, dx, fs, ex, ea, c, n, l, q2⟩ => ?_) hs
  subst ex
  obtain rfl : ov = Value.ref a := rx
  exact setattr_ok I2 ea c n l ry fun s3 I3 => ⟨σ, _, I3, q2⟩
theorem ps_fldaug {op : Operator} {rd : V → V → Hp → VK → Prop} (ha : PE X o ta) (hv : PE X value tv) (hop : InOp X op rd) : PS X (.AugAssign (.Attribute o f tpos) op value pos) (sFldAug X.K ta tv rd f) := by
  intro pins s σ H D I h
  refine wpAny_AugAssign_AttributeAny (thn (ha pins s σ H _ I h) fun ov s1 ⟨x, H1, I1, rx, a, C, dx, fs, v, ex, ea, c, n, l, q⟩ => ?_)
  subst ex
  obtain rfl : ov = Value.ref a := rx
  refine getattr_ok I1 ea c n l fun u s2 I2 ru => thn (hv pins s2 σ H1 _ I2 q) fun w3 s3 ⟨y, H2, I3, ry, q3⟩ => thn (hop pins s3 σ H2 v y u w3 _ I3 ru ry q3) fun w4 s4 ⟨z, H3, I4, rz, dx', fs', ea', l', q4⟩ => ?_
  exact setattr_ok I4 ea' c n l' rz fun s5 I5 => ⟨σ, _, I5, q4⟩
def rAdd : V → V → Hp → VK → Prop := fun x y H Q => ∃ i j, x = .int i ∧ y = .int j ∧ Q (.int (i + j)) H
def rSub : V → V → Hp → VK → Prop := fun x y H Q => ∃ i j, x = .int i ∧ y = .int j ∧ Q (.int (i - j)) H
theorem in_add : InOp X .Add rAdd := by
  rintro pins s σ H x y u v Q I rx ry ⟨i, j, rfl, rfl, q⟩
  obtain ⟨t, rfl⟩ := (show ∃ t, u = Value.int i t from rx)
  obtain ⟨t', rfl⟩ := (show ∃ t', v = Value.int j t' from ry)
  exact PyProof.Rows.iadd_int ⟨.int (i + j), H, I.tok _, ⟨_, rfl⟩, q⟩
theorem in_sub : InOp X .Sub rSub := by
  rintro pins s σ H x y u v Q I rx ry ⟨i, j, rfl, rfl, q⟩
  obtain ⟨t, rfl⟩ := (show ∃ t, u = Value.int i t from rx)
  obtain ⟨t', rfl⟩ := (show ∃ t', v = Value.int j t' from ry)
  exact PyProof.Rows.isub_int ⟨.int (i - j), H, I.tok _, ⟨_, rfl⟩, q⟩

/-- what is between an instance and its method: the tree of a method call -/
theorem methcall_of {pl : Sem Bool} {m : Str} {apos : Pos} {args : List Expr} {pins : List (Addr × Obj)} {s : Shared} {σ : St} {H : Hp} {Q : Value → Shared → Prop} {te : TE} (he : PE X e te) (I : Inv X pins σ H s)
    (h : te σ H fun x H1 => ∃ a C dx fs g, x = .ref a ∧ H1 a = some (.ins C dx fs) ∧ Cls X.K C ∧ Meth X.K C m g ∧ fs.lookup m = none ∧
      ∀ s1, Inv X pins σ H1 s1 → wpAny (model X.prog X.w) X.A (callWith pos (.ref g) [.ref a] (backTo pos (starEach args X.env)) (backToKw pos (keywordEach [] X.env))) Q X.xe s1)
    (ht : eval (.Call (.Attribute e m apos) args [] pos) X.env = (do
      let ov ← eval e X.env
      standAt apos.atName
      let (f, first) ← holding [ov] (getMethod ov m pl)
      callWith pos f first (backTo pos (starEach args X.env)) (backToKw pos (keywordEach [] X.env)))) :
    wpAny (model X.prog X.w) X.A (eval (.Call (.Attribute e m apos) args [] pos) X.env) Q X.xe s := by
  refine PySem.W.methodCall_KW (pl := pl) (thn (he pins s σ H _ I h) fun u s1 ⟨x, H1, I1, rx, a, C, dx, fs, g, ex, ea, c, k, l, q⟩ => ?_) ht
  subst ex
  obtain rfl : u = Value.ref a := rx
  exact getmeth_ok I1 ea c k l (q s1 I1)
end

/-! ### isinstance -/
section
variable {X : Cx} {pins : List (Addr × Obj)} {σ : St} {H : Hp} {s : Shared} {A : Around} {E : Value → Shared → Prop} {Q : Value → Shared → Prop} {c : Value} {b : Bool}
/-- the type of a value, as the fragment's deciders take it; for an instance its class -/
inductive TyOf (K : PySem.W.Frag) (H : Hp) : V → Value → Prop where
  | non : TyOf K H .non (.type "NoneType")
  | bl (x : Bool) : TyOf K H (.bl x) (.type "bool")
  | int (i : Int) : TyOf K H (.int i) (.type "int")
  | str (x : Str) : TyOf K H (.str x) (.type "str")
  | flt (x : UInt64) : TyOf K H (.flt x) (.type "float")
  | lst {a : Addr} {xs : List V} (e : H a = some (.lst xs)) : TyOf K H (.ref a) (.type "list")
  | frz {a : Addr} {o : Obj} {xs : List V} (e : H a = some (.frz o (.lst xs))) : TyOf K H (.ref a) (.type "list")
  | tup {a : Addr} {xs : List V} (e : H a = some (.tup xs)) : TyOf K H (.ref a) (.type "tuple")
  | dK {a : Addr} {kvs : List (Key × V)} (e : H a = some (.dK kvs)) : TyOf K H (.ref a) (.type "dict")
  | dT {a : Addr} {kvs : List (List Key × V)} (e : H a = some (.dT kvs)) : TyOf K H (.ref a) (.type "dict")
  | ins {a C dx : Addr} {fs : List (Str × V)} (e : H a = some (.ins C dx fs)) (cl : Cls K C) (ha : PySem.W.findIn K (.ref C) "__class__" = some (some (.builtin "object.__class__")))
      (hn : PySem.W.specialIn K (.builtin "object.__class__") "__get__" = some (some (.builtin "getset_descriptor.__get__"))) (htk : PySem.W.takesIn K (.builtin "object.__class__") = some true)
      (hm : PySem.W.mroIn K C (.type "object") = some true) : TyOf K H (.ref a) (.ref C)
/-- isinstance(x, c) for one class c, a built-in or an own one: kitOne's answer -/
theorem isinst_ok {x : V} {u t : Value} (I : Inv X pins σ H s) (rx : RelV x u) (ty : TyOf X.K H x t) (e : PySem.W.kitOne X.K t c = some b) (h : ∀ tk, Q (.bool b) { s with toks := tk }) :
    wpAny (model X.prog X.w) A (call (.builtin "isinstance") [u, c]) Q E s := by
  cases ty with
  | non => cases (show u = Value.none from rx); exact PySem.W.kia_one PySem.W.kitx_none I.kIn True.intro e (fun z => nomatch z) h
  | bl y => cases (show u = Value.bool y from rx); exact PySem.W.kia_one PySem.W.kitx_bool I.kIn True.intro e (fun z => nomatch z) h
  | int i => obtain ⟨t, q⟩ := (show ∃ t, u = Value.int i t from rx); cases q; exact PySem.W.kia_one PySem.W.kitx_int I.kIn True.intro e (fun z => nomatch z) h
  | str y => obtain ⟨t, q⟩ := (show ∃ t, u = Value.str y t from rx); cases q; exact PySem.W.kia_one PySem.W.kitx_str I.kIn True.intro e (fun z => nomatch z) h
  | flt y => obtain ⟨t, q⟩ := (show ∃ t, u = Value.float y t from rx); cases q; exact PySem.W.kia_one PySem.W.kitx_float I.kIn True.intro e (fun z => nomatch z) h
  | @lst a xs ea =>
    cases (show u = Value.ref a from rx)
    obtain ⟨_, _, n, _, h1⟩ := (show ObjOk X.prog X.w H s.heap a (.lst xs) from I.hok a _ ea)
    exact PySem.W.kia_one PySem.W.kitx_list I.kIn ⟨_, h1, rfl⟩ e (fun z => nomatch z) h
  | @frz a ob xs ea =>
    cases (show u = Value.ref a from rx)
    obtain ⟨_, _, _, n, _, h1⟩ := (show ObjOk X.prog X.w H s.heap a (.frz ob (.lst xs)) from I.hok a _ ea)
    exact PySem.W.kia_one PySem.W.kitx_list I.kIn ⟨_, h1, rfl⟩ e (fun z => nomatch z) h
  | @tup a xs ea =>
    cases (show u = Value.ref a from rx)
    obtain ⟨_, _, _, p⟩ := (show ObjOk X.prog X.w H s.heap a (.tup xs) from I.hok a _ ea)
    obtain ⟨o, h1, h2, _⟩ := p
    exact PySem.W.kia_one PySem.W.kitx_tuple I.kIn ⟨o, h1, h2⟩ e (fun z => nomatch z) h
  | @dK a kvs ea =>
    cases (show u = Value.ref a from rx)
    obtain ⟨_, _, vs, _, p⟩ := (show ObjOk X.prog X.w H s.heap a (.dK kvs) from I.hok a _ ea)
    obtain ⟨o, es, ep, h1, h2, _⟩ := p
    exact PySem.W.kia_one PySem.W.kitx_dict I.kIn ⟨o, h1, h2.1⟩ e (fun z => nomatch z) h
  | @dT a kvs ea =>
    cases (show u = Value.ref a from rx)
    obtain ⟨_, _, xs, _, o, es, ep, h1, h2, _⟩ := (show ObjOk X.prog X.w H s.heap a (.dT kvs) from I.hok a _ ea)
    exact PySem.W.kia_one PySem.W.kitx_dict I.kIn ⟨o, h1, h2.1⟩ e (fun z => nomatch z) h
  | @ins a C dx fs ea cl ha hn htk hm =>
    cases (show u = Value.ref a from rx)
    obtain ⟨mA, O, _⟩ := ins_get I.hok ea
    obtain ⟨od, J, _⟩ := O.look
    exact PySem.W.kia_one (PySem.W.kitx_own (cl.get _) cl.hd ha hn htk hm) I.kIn J e (fun z => nomatch z) h
end
end L2

namespace L2
open PySem PySem.Spec PyProof.Rows

/-! ### room -/
structure Room (k : Nat) (A : Around) : Prop where
  hd : A.handled = none
  dp : A.depth + 3 * k + 5 < recursionLimit
  un : A.units + 16 * k + 200 < cLine
theorem Room.mono {j k : Nat} {A : Around} (r : Room k A) (h : j ≤ k) : Room j A := ⟨r.hd, by have := r.dp; omega, by have := r.un; omega⟩
theorem Room.deeper {k : Nat} {A : Around} (r : Room (k + 1) A) (env : Env) : Room k (A.deeper env) :=
  ⟨r.hd, by have := r.dp; show A.depth + 1 + 3 * k + 5 < _; omega, by have := r.un; show A.units + 3 + 16 * k + 200 < _; omega⟩
theorem Room.in1 {k : Nat} {A : Around} (r : Room (k + 1) A) : Room k A.in1 :=
  ⟨r.hd, by have := r.dp; show A.depth + 3 * k + 5 < _; omega, by have := r.un; show A.units + 1 + 16 * k + 200 < _; omega⟩
theorem make_depth {A : Around} {C : Addr} {us : List Value} {kw : List (Str × Value)} : (A.under (.builtin "type.__call__" ⟨.ref C :: us, kw⟩)).depth = A.depth + 1 := by
  first | rfl | simp [Around.under, Code.weight, Code.isCreation, Code.isGuard, Code.isCaller, Code.frames, Code.isFrame, guardIds]
theorem make_units {A : Around} {C : Addr} {us : List Value} {kw : List (Str × Value)} : (A.under (.builtin "type.__call__" ⟨.ref C :: us, kw⟩)).units = A.units + 1 := by
  first | rfl | simp [Around.under, Code.cUnits, Code.frames, Code.isFrame]
theorem Room.make {k : Nat} {A : Around} (r : Room (k + 1) A) (C : Addr) (us : List Value) (kw : List (Str × Value)) : Room k (A.under (.builtin "type.__call__" ⟨.ref C :: us, kw⟩)) :=
  ⟨r.hd, by have := r.dp; rw [make_depth]; omega, by have := r.un; rw [make_units]; omega⟩
theorem Room.depth {k : Nat} {A : Around} (r : Room k A) : A.depth < recursionLimit := by have := r.dp; omega
theorem Room.units {k : Nat} {A : Around} (r : Room k A) : A.units + 64 < cLine := by have := r.un; omega
theorem Room.units0 {k : Nat} {A : Around} (r : Room k A) : A.units < cLine := by have := r.un; omega

/-! ### argument lists and displays -/
def tNil : TA := fun _ H Q => Q [] H
def tCons (ta : TE) (tr : TA) : TA := fun σ H Q => ta σ H fun x H1 => tr σ H1 fun xs H2 => Q (x :: xs) H2
section
variable {X : Cx} {e : Expr} {es : List Expr} {te : TE} {t : TA} {pos : Pos}
theorem pa_nil : PA X [] tNil := fun _ _ _ _ H Q I h => Calls.spliced_nil ⟨[], H, I, .nil, h⟩
theorem pa_cons (ha : PE X e te) (hr : PA X es t) (hs : starEach (e :: es) X.env = (false, eval e X.env) :: starEach es X.env := by rfl) : PA X (e :: es) (tCons te t) := by
  intro pos pins s σ H Q I h
  rw [hs]
  show wpAny _ _ (spliced ((false, eval e X.env) :: backTo pos (starEach es X.env))) _ _ s
  refine Calls.spliced_cons (thn (ha pins s σ H _ I h) fun u s1 ⟨x, H1, I1, r1, q1⟩ => ?_)
  exact thn (hr pos pins s1 σ H1 _ I1 q1) fun us s2 ⟨xs, H2, I2, r2, q2⟩ => ⟨x :: xs, H2, I2, .cons r1 r2, q2⟩

/-- a tuple, a list of written items -/
def tTup (t : TA) : TE := fun σ H Q => t σ H fun xs H1 => xs.length ≤ sizeLine ∧ ∀ p, H1 p = none → Q (.ref p) (upd H1 p (.tup xs))
def tLst (t : TA) : TE := fun σ H Q => t σ H fun xs H1 => xs.length ≤ sizeLine ∧ ∀ p, H1 p = none → Q (.ref p) (upd H1 p (.lst xs))
theorem pe_tup {x1} (h : PA X es t) : PE X (.Tuple es x1 pos) (tTup t) := by
  intro pins s σ H Q I hq
  refine wpAny_Tuple_spliced (thn (h pos pins s σ H _ I hq) fun us s1 ⟨xs, H1, I1, r, z, q⟩ => ⟨by rw [← r.length]; exact z, ?_⟩)
  have hf : H1 s1.heap.objs.size = none := I1.hok.fresh (Nat.le_refl _)
  refine ⟨.ref s1.heap.objs.size, upd H1 s1.heap.objs.size (.tup xs), I1.laid (t' := s1.toks) (fun b u e => Heap.get?_push_of_some _ e) (Nat.le_refl _) ?_, rfl, q _ hf⟩
  exact ⟨z, us, r, ⟨_, Heap.get?_push_size _ rfl, rfl, _, rfl⟩⟩
theorem pe_lst (h : PA X es t) : PE X (.List es pos) (tLst t) := by
  intro pins s σ H Q I hq
  refine wpAny_List_spliced (thn (h pos pins s σ H _ I hq) fun us s1 ⟨xs, H1, I1, r, z, q⟩ => ⟨by rw [← r.length]; exact z, ?_⟩)
  have hf : H1 s1.heap.objs.size = none := I1.hok.fresh (Nat.le_refl _)
  refine ⟨.ref s1.heap.objs.size, upd H1 s1.heap.objs.size (.lst xs), I1.laid (t' := s1.toks) (fun b u e => Heap.get?_push_of_some _ e) (Nat.le_refl _) ?_, rfl, q _ hf⟩
  exact ⟨z, us, 0, r, Heap.get?_push_size _ rfl⟩
end

/-! ### what a def promises -/
/-- a def's promise: the bound arguments in the parameters' order, the heap, the wanted end, the wanted exception -/
abbrev Sp := List V → Hp → VK → XK → Prop
/-- how an exception lies behind a call (file 08 gives it): the callers' frames, abstract heap and state ahead of the call, the wish, the exception, the state -/
abbrev CXT := List Env → Hp → Shared → XK → Value → Shared → Prop

/-- the state at a call -/
structure Env0 (P : Program) (w : World) (K : PySem.W.Frag) (mg : Str → Option Value) (base : Heap) (A : Around) (outer : List Env) (s : Shared) (H : Hp) : Prop where
  frames : A.frames = some outer
  mod : Mod K mg base
  bs : ∀ b o, base.get? b = some o → s.heap.get? b = some o ∧ H b = none
  bsz : base.objs.size ≤ s.heap.objs.size
  funs : s.heap.FunFrames base outer
  frf : ∀ b ∈ frs outer, H b = none
  hok : HOk P w H s.heap
  bare : AllBare s.gens
/-- a call's end -/
def CE (outer : List Env) (P : Program) (w : World) (H : Hp) (s : Shared) (Q : VK) (u : Value) (s' : Shared) : Prop :=
  ∃ v H', s'.os = s.os ∧ AllBare s'.gens ∧ Un (frs outer) [] H H' s.heap s'.heap ∧ HOk P w H' s'.heap ∧ RelV v u ∧ Q v H'
def CR (CX : CXT) (outer : List Env) (P : Program) (w : World) (H : Hp) (s : Shared) (Q : VK) (E : XK) (r : Result) (s' : Shared) : Prop :=
  match r with
  | .ok (.ret u) => CE outer P w H s Q u s'
  | .ok _ => False
  | .error e => CX outer H s E e s'
structure FnOk (P : Program) (w : World) (K : PySem.W.Frag) (mg : Str → Option Value) (base : Heap) (CX : CXT) (k : Nat) (f : Addr) (fd : FuncData) (ps : List Str) (sp : Sp) : Prop where
  len : ∀ vs H Q E, sp vs H Q E → vs.length = ps.length
  run : ∀ (A : Around) (outer : List Env) (s : Shared) (H : Hp) (args : Args) (us : List Value) (vs : List V) (Q : VK) (E : XK), Room k A → Env0 P w K mg base A outer s H → BindsTo s fd args (ps.zip us) → Vals vs us → sp vs H Q E →
    codeAny (model P w) A (.call (.ref f) args) (CR CX outer P w H s Q E) s
theorem FnOk.mono {P : Program} {w : World} {K : PySem.W.Frag} {mg : Str → Option Value} {base : Heap} {CX : CXT} {j k : Nat} {f : Addr} {fd : FuncData} {ps : List Str} {sp : Sp} (F : FnOk P w K mg base CX j f fd ps sp) (h : j ≤ k) :
    FnOk P w K mg base CX k f fd ps sp := ⟨F.len, fun A outer s H args us vs Q E hr => F.run A outer s H args us vs Q E (hr.mono h)⟩
/-- a weaker promise -/
theorem FnOk.imp {P : Program} {w : World} {K : PySem.W.Frag} {mg : Str → Option Value} {base : Heap} {CX : CXT} {k : Nat} {f : Addr} {fd : FuncData} {ps : List Str} {sp sp' : Sp} (F : FnOk P w K mg base CX k f fd ps sp)
    (h : ∀ vs H Q E, sp' vs H Q E → sp vs H Q E) : FnOk P w K mg base CX k f fd ps sp' :=
  ⟨fun vs H Q E q => F.len vs H Q E (h _ _ _ _ q), fun A outer s H args us vs Q E hr he hb hv hs => F.run A outer s H args us vs Q E hr he hb hv (h _ _ _ _ hs)⟩

theorem Env0.make {P : Program} {w : World} {K : PySem.W.Frag} {mg : Str → Option Value} {base : Heap} {A : Around} {outer : List Env} {s : Shared} {H : Hp} (e : Env0 P w K mg base A outer s H) (C : Addr) (us : List Value) (kw : List (Str × Value)) :
    Env0 P w K mg base (A.under (.builtin "type.__call__" ⟨.ref C :: us, kw⟩)) outer s H := ⟨by first | exact e.frames | (simpa [Around.under, Code.envs, Code.isFrame, pushEnvs] using e.frames), e.mod, e.bs, e.bsz, e.funs, e.frf, e.hok, e.bare⟩
theorem Env0.in1 {P : Program} {w : World} {K : PySem.W.Frag} {mg : Str → Option Value} {base : Heap} {A : Around} {outer : List Env} {s : Shared} {H : Hp} (e : Env0 P w K mg base A outer s H) :
    Env0 P w K mg base A.in1 outer s H := ⟨e.frames, e.mod, e.bs, e.bsz, e.funs, e.frf, e.hok, e.bare⟩

section
variable {X : Cx} {pins : List (Addr × Obj)} {σ : St} {H : Hp} {s s' : Shared}
/-- from a body: what a callee wants -/
theorem Inv.env0 (I : Inv X pins σ H s) : Env0 X.prog X.w X.K X.mg X.base X.A X.stack s H :=
  ⟨I.ok.frames, I.ok.mod, I.bs, Nat.le_trans I.ok.bsz I.sz, I.stack, I.stkFree, I.hok, I.bare⟩
/-- behind a call -/
theorem Inv.after {Q : VK} {u : Value} (I : Inv X pins σ H s) (h : CE X.stack X.prog X.w H s Q u s') : EP X pins σ Q u s' := by
  obtain ⟨v, H', os, bare, un, hok, r, q⟩ := h
  obtain ⟨hh, g, d, t, os'⟩ := s'
  obtain rfl : os' = s.os := os
  exact ⟨v, H', I.call (h' := hh) (g' := g) (d' := d) (t' := t) (ch := []) un hok bare (fun b z => absurd z (by simp)), r, q⟩
end

/-! ### calls -/
/-- f(..): the written arguments, then the defaults dvs; E: what is wanted of an exception -/
def tCall (sp : Sp) (dvs : List V) (E : XK) (t : TA) : TE := fun σ H Q => t σ H fun vs H1 => sp (vs ++ dvs) H1 Q E
/-- o.m(..) of an instance of the class at C -/
def tMeth (C : Addr) (m : Str) (sp : Sp) (dvs : List V) (E : XK) (ta : TE) (t : TA) : TE := fun σ H Q => ta σ H fun x H1 => ∃ a dx fs, x = .ref a ∧ H1 a = some (.ins C dx fs) ∧ fs.lookup m = none ∧
  t σ H1 fun vs H2 => sp (x :: (vs ++ dvs)) H2 Q E
/-- C(..): a new instance and its dict, then __init__ -/
def tMake (C : Addr) (sp : Sp) (dvs : List V) (E : XK) (t : TA) : TE := fun σ H Q => t σ H fun vs H1 => ∀ x dx, H1 x = none → H1 dx = none → dx ≠ x →
  sp (.ref x :: (vs ++ dvs)) (upd (upd H1 dx (.own x)) x (.ins C dx [])) (fun v H2 => v = .non ∧ Q (.ref x) H2) E

/-- how the parameters are bound: us the positional arguments, kw the keywords' values by name, ds the defaults that fill up -/
def Binds (K : PySem.W.Frag) (fd : FuncData) (ps : List Str) (ds : List Value) : Prop :=
  ∀ (s : Shared) (us : List Value), K.In s.heap → (us ++ ds).length = ps.length → BindsTo s fd ⟨us, []⟩ (ps.zip (us ++ ds))
/-- every parameter is given -/
theorem Binds.all {K : PySem.W.Frag} {fd : FuncData} {ps : List Str} (h : ∀ us : List Value, us.length = ps.length → bindArgs fd ⟨us, []⟩ = pure (ps.zip us)) : Binds K fd ps [] := fun s us _ hl => by
  rw [List.append_nil] at hl ⊢
  exact .of_eq (h us hl)

/-- an exception of a callee reaches what this body wants of exceptions -/
def Passes (CX : CXT) (X : Cx) (E : XK) : Prop := ∀ (pins : List (Addr × Obj)) (σ : St) (H : Hp) (s : Shared) (e : Value) (s' : Shared), Inv X pins σ H s → CX X.stack H s E e s' → X.xe e s'

section
variable {X : Cx} {CX : CXT} {k : Nat} {f C : Addr} {fd : FuncData} {ps : List Str} {sp : Sp} {dvs : List V} {ds : List Value} {E : XK} {x m : Str} {p pos apos : Pos} {e o : Expr} {es : List Expr} {ta : TE} {t : TA}

/-- the callee runs -/
theorem run_fn {pins : List (Addr × Obj)} {σ : St} {H : Hp} {s : Shared} {Q : VK} {us : List Value} {vs : List V} (F : FnOk X.prog X.w X.K X.mg X.base CX k f fd ps sp) (hr : Room k X.A) (hb : Binds X.K fd ps ds) (hd : Vals dvs ds) (hx : Passes CX X E)
    (I : Inv X pins σ H s) (r : Vals vs us) (h : sp (vs ++ dvs) H Q E) : wpAny (model X.prog X.w) X.A (call (.ref f) us) (EP X pins σ Q) X.xe s := by
  have r2 : Vals (vs ++ dvs) (us ++ ds) := r.append hd
  have hl : (us ++ ds).length = ps.length := by rw [← r2.length]; exact F.len _ _ _ _ h
  refine wpAny_call (codeAny_mono (F.run X.A X.stack s H ⟨us, []⟩ (us ++ ds) (vs ++ dvs) Q E hr I.env0 (hb s us I.kIn hl) r2 h) fun r s' hq => ?_)
  cases r with
  | error e => exact hx pins σ H s e s' I hq
  | ok fl =>
    cases fl with
    | ret u => exact I.after hq
    | next => exact False.elim hq
    | brk => exact False.elim hq
    | cont => exact False.elim hq

theorem pe_call (F : FnOk X.prog X.w X.K X.mg X.base CX k f fd ps sp) (hr : Room k X.A) (hg : Gl X x) (hm : X.mg x = some (.ref f)) (hk : PySem.W.keepIn X.K (.ref f) = true) (hb : Binds X.K fd ps ds) (hd : Vals dvs ds) (hx : Passes CX X E)
    (ha : PA X (e :: es) t) (hdb : (x == ("__debug__" : Str)) = false := by decide) (he : starEach (e :: es) X.env = (false, eval e X.env) :: starEach es X.env := by rfl) (hpl : (backTo pos (starEach es X.env)).any (·.1) = false := by rfl) :
    PE X (.Call (.Name x p) (e :: es) [] pos) (tCall sp dvs E t) := by
  intro pins s σ H Q I h
  refine wpAny_Call_Name_kw (ld_glob I hg hm ?_ hdb)
  refine PySem.W.callWith_K (h₀ := X.base) I.ok.mod.kin hk (thn (ha pos pins s σ H _ I h) fun us s1 ⟨vs, H1, I1, r, q⟩ => ⟨I1.kIn, ?_⟩) he hpl
  exact run_fn F hr hb hd hx I1 r q
theorem pe_call0 (F : FnOk X.prog X.w X.K X.mg X.base CX k f fd ps sp) (hr : Room k X.A) (hg : Gl X x) (hm : X.mg x = some (.ref f)) (hk : PySem.W.keepIn X.K (.ref f) = true) (hb : Binds X.K fd ps ds) (hd : Vals dvs ds) (hx : Passes CX X E)
    (hdb : (x == ("__debug__" : Str)) = false := by decide) : PE X (.Call (.Name x p) [] [] pos) (tCall sp dvs E tNil) := by
  intro pins s σ H Q I h
  refine wpAny_Call_Name_kw (ld_glob I hg hm ?_ hdb)
  exact PySem.W.callWith_K0 I.kIn hk (run_fn (us := []) F hr hb hd hx I .nil h)

/-- o.m(e, ..) -/
theorem pe_meth {pl : Sem Bool} (he : PE X o ta) (c : Cls X.K C) (hm : Meth X.K C m f) (F : FnOk X.prog X.w X.K X.mg X.base CX k f fd ps sp) (hr : Room k X.A) (hb : Binds X.K fd ps ds) (hd : Vals dvs ds) (hx : Passes CX X E) (ha : PA X (e :: es) t)
    (hst : starEach (e :: es) X.env = (false, eval e X.env) :: starEach es X.env := by rfl) (hpl : (backTo pos (starEach es X.env)).any (·.1) = false := by rfl)
    (ht : eval (.Call (.Attribute o m apos) (e :: es) [] pos) X.env = (do
      let ov ← eval o X.env
      standAt apos.atName
      let (f, first) ← holding [ov] (getMethod ov m pl)
      callWith pos f first (backTo pos (starEach (e :: es) X.env)) (backToKw pos (keywordEach [] X.env))) := by rfl) :
    PE X (.Call (.Attribute o m apos) (e :: es) [] pos) (tMeth C m sp dvs E ta t) := by
  intro pins s σ H Q I h
  refine PySem.W.methodCall_KW (pl := pl) (thn (he pins s σ H _ I h) fun u s1 ⟨x, H1, I1, rx, a, dx, fs, ex, ea, l, q⟩ => ?_) ht
  subst ex
  obtain rfl : u = Value.ref a := rx
  refine getmeth_ok I1 ea c hm l ?_
  refine PySem.W.callWith_K (first := [.ref a]) (h₀ := X.base) I.ok.mod.kin hm.kp (thn (ha pos pins s1 σ H1 _ I1 q) fun us s2 ⟨vs, H2, I2, r, q2⟩ => ⟨I2.kIn, ?_⟩) hst hpl
  exact run_fn (us := .ref a :: us) (vs := .ref a :: vs) F hr hb hd hx I2 (.cons rfl r) q2
/-- o.m() -/
theorem pe_meth0 {pl : Sem Bool} (he : PE X o ta) (c : Cls X.K C) (hm : Meth X.K C m f) (F : FnOk X.prog X.w X.K X.mg X.base CX k f fd ps sp) (hr : Room k X.A) (hb : Binds X.K fd ps ds) (hd : Vals dvs ds) (hx : Passes CX X E)
    (ht : eval (.Call (.Attribute o m apos) [] [] pos) X.env = (do
      let ov ← eval o X.env
      standAt apos.atName
      let (f, first) ← holding [ov] (getMethod ov m pl)
      callWith pos f first (backTo pos (starEach [] X.env)) (backToKw pos (keywordEach [] X.env))) := by rfl) :
    PE X (.Call (.Attribute o m apos) [] [] pos) (tMeth C m sp dvs E ta tNil) := by
  intro pins s σ H Q I h
  refine PySem.W.methodCall_KW (pl := pl) (thn (he pins s σ H _ I h) fun u s1 ⟨x, H1, I1, rx, a, dx, fs, ex, ea, l, q⟩ => ?_) ht
  subst ex
  obtain rfl : u = Value.ref a := rx
  refine getmeth_ok I1 ea c hm l ?_
  exact PySem.W.callWith_K0 (first := [.ref a]) I1.kIn hm.kp (run_fn (us := [.ref a]) (vs := [.ref a]) F hr hb hd hx I1 (.cons rfl .nil) q)

/-- what a class must have to be made -/
structure Mk (K : PySem.W.Frag) (C f : Addr) : Prop where
  makes : PySem.W.makesIn K C = true
  init : PySem.W.findIn K (.ref C) "__init__" = some (some (.ref f))
  fn : PySem.W.isFn K (.ref f) = true
  kp : PySem.W.keepIn K (.ref C) = true

theorem run_make {pins : List (Addr × Obj)} {σ : St} {H : Hp} {s : Shared} {Q : VK} {us : List Value} {vs : List V} (M : Mk X.K C f) (F : FnOk X.prog X.w X.K X.mg X.base CX k f fd ps sp) (hr : Room (k + 1) X.A) (hb : Binds X.K fd ps ds) (hd : Vals dvs ds)
    (hx : Passes CX X E) (I : Inv X pins σ H s) (r : Vals vs us)
    (h : ∀ x dx, H x = none → H dx = none → dx ≠ x → sp (.ref x :: (vs ++ dvs)) (upd (upd H dx (.own x)) x (.ins C dx [])) (fun v H2 => v = .non ∧ Q (.ref x) H2) E) :
    wpAny (model X.prog X.w) X.A (call (.ref C) us) (EP X pins σ Q) X.xe s := by
  have hq := h (s.heap.objs.size + 1) s.heap.objs.size (I.hok.fresh (Nat.le_succ _)) (I.hok.fresh (Nat.le_refl _)) (Nat.ne_of_lt (Nat.lt_succ_self _))
  have I2 := Inv.made (C := C) I
  have r2 : Vals (V.ref (s.heap.objs.size + 1) :: (vs ++ dvs)) (Value.ref (s.heap.objs.size + 1) :: (us ++ ds)) := .cons rfl (r.append hd)
  have hl : (Value.ref (s.heap.objs.size + 1) :: us ++ ds).length = ps.length := by
    have e := r2.length
    rw [F.len _ _ _ _ hq] at e
    exact e.symm
  refine wpAny_call (make_map (f := f) I.kIn M.makes M.init (beq_iff_eq.mp M.fn) (codeAny_mono (F.run _ X.stack _ _ ⟨Value.ref (s.heap.objs.size + 1) :: us, []⟩ (Value.ref (s.heap.objs.size + 1) :: (us ++ ds)) _ _ E (hr.make C us [])
    (I2.env0.make C us []) (hb _ (Value.ref (s.heap.objs.size + 1) :: us) I2.kIn hl) r2 hq) fun r s' hq' => ?_))
  cases r with
  | error e => exact hx pins σ _ _ e s' I2 hq'
  | ok fl =>
    cases fl with
    | ret u =>
      obtain ⟨v, H', I3, rv, ev, q3⟩ := I2.after hq'
      subst ev
      exact ⟨rv, ⟨V.ref (s.heap.objs.size + 1), H', I3, rfl, q3⟩⟩
    | next => exact False.elim hq'
    | brk => exact False.elim hq'
    | cont => exact False.elim hq'
theorem pe_make (M : Mk X.K C f) (F : FnOk X.prog X.w X.K X.mg X.base CX k f fd ps sp) (hr : Room (k + 1) X.A) (hg : Gl X x) (hm : X.mg x = some (.ref C)) (hb : Binds X.K fd ps ds) (hd : Vals dvs ds) (hx : Passes CX X E)
    (ha : PA X (e :: es) t) (hdb : (x == ("__debug__" : Str)) = false := by decide) (he : starEach (e :: es) X.env = (false, eval e X.env) :: starEach es X.env := by rfl) (hpl : (backTo pos (starEach es X.env)).any (·.1) = false := by rfl) :
    PE X (.Call (.Name x p) (e :: es) [] pos) (tMake C sp dvs E t) := by
  intro pins s σ H Q I h
  refine wpAny_Call_Name_kw (ld_glob I hg hm ?_ hdb)
  refine PySem.W.callWith_K (h₀ := X.base) I.ok.mod.kin M.kp (thn (ha pos pins s σ H _ I h) fun us s1 ⟨vs, H1, I1, r, q⟩ => ⟨I1.kIn, ?_⟩) he hpl
  exact run_make M F hr hb hd hx I1 r q
theorem pe_make0 (M : Mk X.K C f) (F : FnOk X.prog X.w X.K X.mg X.base CX k f fd ps sp) (hr : Room (k + 1) X.A) (hg : Gl X x) (hm : X.mg x = some (.ref C)) (hb : Binds X.K fd ps ds) (hd : Vals dvs ds) (hx : Passes CX X E)
    (hdb : (x == ("__debug__" : Str)) = false := by decide) : PE X (.Call (.Name x p) [] [] pos) (tMake C sp dvs E tNil) := by
  intro pins s σ H Q I h
  refine wpAny_Call_Name_kw (ld_glob I hg hm ?_ hdb)
  exact PySem.W.callWith_K0 I.kIn M.kp (run_make (us := []) M F hr hb hd hx I .nil h)
end

/-! ### keywords -/
/-- the values of the keywords, from the left -/
def PK (X : Cx) (kws : List Keyword) (t : TA) : Prop :=
  ∀ (pos : Pos) (pins : List (Addr × Obj)) (s : Shared) (σ : St) (H : Hp) (Q : List V → Hp → Prop), Inv X pins σ H s → t σ H Q → wpAny (model X.prog X.w) X.A (evalAll ((backToKw pos (keywordEach kws X.env)).map (·.2))) (AP X pins σ Q) X.xe s
section
variable {X : Cx} {CX : CXT} {k : Nat} {f C : Addr} {fd : FuncData} {ps ks : List Str} {sp : Sp} {E : XK} {x m : Str} {p pos apos kpos : Pos} {e o : Expr} {es : List Expr} {kws : List Keyword} {te ta : TE} {t tk : TA} {nm : Option Str}
theorem pk_nil : PK X [] tNil := fun _ _ _ _ H Q I h => wpAny_evalAll_nil ⟨[], H, I, .nil, h⟩
theorem pk_cons (ha : PE X e te) (hr : PK X kws t) : PK X (⟨nm, e, kpos⟩ :: kws) (tCons te t) := by
  intro pos pins s σ H Q I h
  show wpAny _ _ (evalAll ((do let v ← eval e X.env; standAt pos; pure v) :: (backToKw pos (keywordEach kws X.env)).map (·.2))) _ _ s
  refine wpAny_evalAll_cons (wpAny_bind (thn (ha pins s σ H _ I h) fun u s1 ⟨x, H1, I1, r1, q1⟩ => wpAny_bind (wpAny_standAt (wpAny_pure ?_))))
  exact thn (hr pos pins s1 σ H1 _ I1 q1) fun us s2 ⟨xs, H2, I2, r2, q2⟩ => ⟨x :: xs, H2, I2, .cons r1 r2, q2⟩

/-- how a call with keywords binds: g puts the positional values us and the keywords' values ws (names ks) in the parameters' order, defaults among them -/
structure KBinds (K : PySem.W.Frag) (fd : FuncData) (ps ks : List Str) (g : List Value → List Value → List Value) (gV : List V → List V → List V) : Prop where
  to : ∀ (s : Shared) (us ws : List Value), K.In s.heap → (g us ws).length = ps.length → BindsTo s fd ⟨us, ks.zip ws⟩ (ps.zip (g us ws))
  rel : ∀ {vs : List V} {us : List Value} {zs : List V} {ws : List Value}, Vals vs us → Vals zs ws → Vals (gV vs zs) (g us ws)
def tCallK (sp : Sp) (gV : List V → List V → List V) (E : XK) (t tk : TA) : TE := fun σ H Q => t σ H fun vs H1 => tk σ H1 fun zs H2 => sp (gV vs zs) H2 Q E
variable {g : List Value → List Value → List Value} {gV : List V → List V → List V}
theorem run_fnk {pins : List (Addr × Obj)} {σ : St} {H : Hp} {s : Shared} {Q : VK} {us ws : List Value} {vs zs : List V} (F : FnOk X.prog X.w X.K X.mg X.base CX k f fd ps sp) (hr : Room k X.A) (hb : KBinds X.K fd ps ks g gV) (hx : Passes CX X E)
    (I : Inv X pins σ H s) (r : Vals vs us) (rz : Vals zs ws) (h : sp (gV vs zs) H Q E) : wpAny (model X.prog X.w) X.A (call (.ref f) us (ks.zip ws)) (EP X pins σ Q) X.xe s := by
  have r2 := hb.rel r rz
  have hl : (g us ws).length = ps.length := by rw [← r2.length]; exact F.len _ _ _ _ h
  refine wpAny_call (codeAny_mono (F.run X.A X.stack s H ⟨us, ks.zip ws⟩ (g us ws) (gV vs zs) Q E hr I.env0 (hb.to s us ws I.kIn hl) r2 h) fun r s' hq => ?_)
  cases r with
  | error e => exact hx pins σ H s e s' I hq
  | ok fl =>
    cases fl with
    | ret u => exact I.after hq
    | next => exact False.elim hq
    | brk => exact False.elim hq
    | cont => exact False.elim hq
/-- f(e, .., k = v, ..) -/
theorem pe_callK (F : FnOk X.prog X.w X.K X.mg X.base CX k f fd ps sp) (hr : Room k X.A) (hg : Gl X x) (hm : X.mg x = some (.ref f)) (hk : PySem.W.keepIn X.K (.ref f) = true) (hb : KBinds X.K fd ps ks g gV) (hx : Passes CX X E)
    (ha : PA X (e :: es) t) (hkw : PK X kws tk) (hall : (backToKw pos (keywordEach kws X.env)).all (·.1.isSome) = true := by rfl) (hks : (backToKw pos (keywordEach kws X.env)).filterMap (·.1) = ks := by rfl)
    (hdb : (x == ("__debug__" : Str)) = false := by decide) (he : starEach (e :: es) X.env = (false, eval e X.env) :: starEach es X.env := by rfl)
    (hpl : ((backTo pos (starEach (e :: es) X.env)).any (·.1) || (backToKw pos (keywordEach kws X.env)).any (·.1.isNone)) = false := by rfl) :
    PE X (.Call (.Name x p) (e :: es) kws pos) (tCallK sp gV E t tk) := by
  intro pins s σ H Q I h
  refine wpAny_Call_Name_kw (ld_glob I hg hm ?_ hdb)
  refine PySem.W.callWith_KW (h₀ := X.base) I.ok.mod.kin hk hall (thn (ha pos pins s σ H _ I h) fun us s1 ⟨vs, H1, I1, r, q⟩ => ?_) hpl he
  refine thn (hkw pos pins s1 σ H1 _ I1 q) fun ws s2 ⟨zs, H2, I2, rz, q2⟩ => ⟨I2.kIn, ?_⟩
  rw [hks]
  exact run_fnk F hr hb hx I2 r rz q2
end

/-! ### a def's body keeps its promise -/
/-- names: the parameters first -/
structure FnScope (N P : List Str) (sc : Scope) : Prop where
  kind : sc.kind = .function
  co : sc.isCoroutine = false
  gen : sc.isGenerator = false
  nd : N.Nodup
  pre : N.take P.length = P
  par : ∀ x ∈ P, sc.names.lookup x = some .local ∨ sc.names.lookup x = some .cell
  nofree : ∀ y ∈ sc.names, y.2 ≠ .free

theorem bindL_out {kindOf : Str → Option NameKind} {x : Str} : ∀ {binds : List (Str × Value)} {m : Str → Option Value}, (∀ v, (x, v) ∉ binds) → bindL kindOf binds m x = m x
  | [], _, _ => rfl
  | (n, v) :: r, m, h => by
    unfold bindL
    rw [bindL_out fun w hw => h w (List.mem_cons_of_mem _ hw)]
    split
    · have : x ≠ n := by rintro rfl; exact h v List.mem_cons_self
      simp [this]
    · rfl
theorem bindC_out {kindOf : Str → Option NameKind} {x : Str} : ∀ {binds : List (Str × Value)} {m : Str → Option Value}, (∀ v, (x, v) ∉ binds) → bindC kindOf binds m x = m x
  | [], _, _ => rfl
  | (n, v) :: r, m, h => by
    unfold bindC
    rw [bindC_out fun w hw => h w (List.mem_cons_of_mem _ hw)]
    split
    · rfl
    · have : x ≠ n := by rintro rfl; exact h v List.mem_cons_self
      simp [this]
theorem bindL_get {kindOf : Str → Option NameKind} {x : Str} {v : Value} : ∀ {P : List Str} {vs : List Value} {i : Nat} {m : Str → Option Value}, P.Nodup → P[i]? = some x → vs[i]? = some v → kindOf x = some .local →
    bindL kindOf (P.zip vs) m x = some v
  | [], _, _, _, _, h, _, _ => by simp at h
  | _ :: _, [], _, _, _, _, h, _ => by simp at h
  | p :: P, w :: vs, 0, m, nd, h1, h2, hk => by
    simp at h1 h2; subst h1; subst h2
    show bindL kindOf ((p, w) :: P.zip vs) m p = _
    unfold bindL
    rw [bindL_out fun v hv => (List.nodup_cons.mp nd).1 (List.of_mem_zip hv).1, if_pos hk]
    simp
  | p :: P, w :: vs, i + 1, m, nd, h1, h2, hk => by
    show bindL kindOf ((p, w) :: P.zip vs) m x = _
    unfold bindL
    exact bindL_get (i := i) (List.nodup_cons.mp nd).2 (by simpa using h1) (by simpa using h2) hk
theorem bindC_get {kindOf : Str → Option NameKind} {x : Str} {v : Value} : ∀ {P : List Str} {vs : List Value} {i : Nat} {m : Str → Option Value}, P.Nodup → P[i]? = some x → vs[i]? = some v → kindOf x ≠ some .local →
    bindC kindOf (P.zip vs) m x = some v
  | [], _, _, _, _, h, _, _ => by simp at h
  | _ :: _, [], _, _, _, _, h, _ => by simp at h
  | p :: P, w :: vs, 0, m, nd, h1, h2, hk => by
    simp at h1 h2; subst h1; subst h2
    show bindC kindOf ((p, w) :: P.zip vs) m p = _
    unfold bindC
    rw [bindC_out fun v hv => (List.nodup_cons.mp nd).1 (List.of_mem_zip hv).1, if_neg hk]
    simp
  | p :: P, w :: vs, i + 1, m, nd, h1, h2, hk => by
    show bindC kindOf ((p, w) :: P.zip vs) m x = _
    unfold bindC
    exact bindC_get (i := i) (List.nodup_cons.mp nd).2 (by simpa using h1) (by simpa using h2) hk

/-- the names' values at the entry -/
def start (N : List Str) (vs : List V) : St := vs.map some ++ List.replicate (N.length - vs.length) none

/-- the context of a def's body, at its entry; an exception leaves the frame, then lies as CX says -/
def cxOf (CX : CXT) (P : Program) (w : World) (K : PySem.W.Frag) (mg : Str → Option Value) (base : Heap) (N : List Str) (qual : Str) (scope : Scope) (f : Addr) (cd : Value) (A : Around) (outer : List Env) (s : Shared) (H : Hp) (E : XK) : Cx where
  prog := P
  w := w
  K := K
  mg := mg
  base := base
  A := A.deeper (envOfC qual scope s.heap.objs.size f cd)
  N := N
  s₀ := s
  H₀ := H
  env := envOfC qual scope s.heap.objs.size f cd
  outer := outer
  stack := envOfC qual scope s.heap.objs.size f cd :: outer
  ex := []
  calm := true
  fn := fun _ => true
  pn := []
  xe := fun e s' => wpAny (model P w) (A.deeper (envOfC qual scope s.heap.objs.size f cd)) (leaving (envOfC qual scope s.heap.objs.size f cd) e) (fun _ s'' => CX outer H s E e s'') (fun e' s'' => CX outer H s E e' s'') s'

theorem cell_has {sc : Scope} {n : Nat} {x : Str} (h : sc.names.lookup x = some .cell) : ∃ c, (cellsFrom n sc.names []).lookup x = some c := by
  have q := PySem.W.cellsFrom_some sc.names n [] (.inl h)
  exact Option.isSome_iff_exists.mp q

theorem inv_start {CX : CXT} {P : Program} {w : World} {K : PySem.W.Frag} {mg : Str → Option Value} {base : Heap} {N ps : List Str} {qual : Str} {scope : Scope} {f : Addr} {cd : Value} {A : Around} {outer : List Env} {s s1 : Shared} {H : Hp} {E : XK} {us : List Value} {vs : List V}
    (S : FnScope N ps scope) (hd : A.handled = none) (e0 : Env0 P w K mg base A outer s H) (hl : vs.length = ps.length) (r : Vals vs us)
    (x : InCallC s s.heap.objs.size (bindL (envOfC qual scope s.heap.objs.size f cd).kindOf (ps.zip us) fun _ => none) (cellsFrom (s.heap.objs.size + 1) scope.names []) (bindC (envOfC qual scope s.heap.objs.size f cd).kindOf (ps.zip us) fun _ => none) s1) :
    Inv (cxOf CX P w K mg base N qual scope f cd A outer s H E) [] (start N vs) H s1 := by
  have hpl : ps.length ≤ N.length := by have := congrArg List.length S.pre; rw [List.length_take] at this; omega
  obtain ⟨h1, tk, rfl, hk⟩ := x.done
  have noA : ∀ b : Addr, b ∉ (cxOf CX P w K mg base N qual scope f cd A outer s H E).ex := fun b z => absurd (show b ∈ ([] : List Addr) from z) (by simp)
  refine ⟨⟨e0.mod, S.kind, rfl, rfl, Nat.le_refl _, fun y z c h1 h2 => ?_, fun y hy => ?_, fun y c _ h => ?_, fun _ => hd, Around.frames_deeper e0.frames, .inr ⟨rfl, rfl⟩, fun b z => absurd z (noA b), e0.bs, e0.bsz, fun b _ _ => noA b, fun b z => absurd z (noA b), e0.funs, e0.frf⟩,
    rfl, e0.bare, Un.kept hk, ⟨_, x.toInCall.ns, fun i y v h1 h2 h3 => ?_⟩, fun y c h => ⟨_, x.cell y c h⟩, e0.hok.fresh (Nat.le_refl _), fun y c h => ?_, fun p hp => absurd (show p ∈ ([] : List (Addr × Obj)) from hp) (by simp), e0.hok.kept hk, ?_⟩
  · exact name_of_addr x.apart (PySem.mem_of_lookup h1) (PySem.mem_of_lookup h2)
  · have hy : scope.names.lookup y = some .cell ∨ scope.names.lookup y = some .free := hy
    rcases hy with hy | hy
    · exact cell_has hy
    · exact absurd rfl (S.nofree _ (PySem.mem_of_lookup hy))
  · exact Nat.le_of_lt (x.above y c (PySem.mem_of_lookup h))
  · have hi : i < vs.length := by
      unfold start at h2
      by_cases hi : i < vs.length
      · exact hi
      · rw [List.getElem?_append_right (by simpa using hi)] at h2
        rw [List.getElem?_replicate] at h2
        split at h2 <;> cases h2
    have ha : vs[i]? = some v := by
      unfold start at h2
      rw [List.getElem?_append_left (by simpa using hi), List.getElem?_map] at h2
      cases e : vs[i]? with
      | none => rw [e] at h2; cases h2
      | some a => rw [e] at h2; cases h2; rfl
    obtain ⟨u, hu, rv⟩ := r.get ha
    have hp : ps[i]? = some y := by
      rw [← S.pre, List.getElem?_take_of_lt (by omega)]; exact h1
    have ndP : ps.Nodup := by rw [← S.pre]; exact S.nd.sublist (List.take_sublist _ _)
    refine ⟨u, rv, ?_⟩
    rcases S.par y (List.mem_of_getElem? hp) with k | k
    · exact .inl ⟨k, bindL_get ndP hp hu k⟩
    · obtain ⟨c, e⟩ := cell_has (n := s.heap.objs.size + 1) k
      refine .inr ⟨.inl k, c, e, ?_⟩
      have q := x.cell y c e
      rw [bindC_get ndP hp hu (by show scope.names.lookup y ≠ _; rw [k]; decide)] at q
      exact q
  · exact e0.hok.fresh (Nat.le_of_lt (x.above y c (PySem.mem_of_lookup h)))
  · unfold start
    show _ = N.length
    rw [List.length_append, List.length_map, List.length_replicate]
    omega

/-- THE RULE: a def (or a method) of the text, by its body. The body's reading t is chosen for each entry; it is run at the parameters' values -/
theorem fn_of {CX : CXT} {P : Program} {w : World} {K : PySem.W.Frag} {mg : Str → Option Value} {base : Heap} {k : Nat} {f : Addr} {name qual : Str} {params : Arguments} {body : List Stmt} {scope : Scope} {dV kV doc pm cdv ct oc : Value} {an od : Option Addr}
    {osl : Array (Option Value)} {N ps : List Str} {sp : Sp} (lk : K.lookup f = some ⟨oc, od, .func (PySem.W.fnOf name qual params body scope dV kV doc pm an cdv ct), osl⟩) (hcd : PySem.W.codeIn K cdv qual = true) (S : FnScope N ps scope)
    (len : ∀ vs H Q E, sp vs H Q E → vs.length = ps.length)
    (hbody : ∀ (A : Around) (outer : List Env) (s : Shared) (H : Hp) (vs : List V) (Q : VK) (E : XK), Room k (A.deeper (envOfC qual scope s.heap.objs.size f cdv)) → sp vs H Q E →
      ∃ t, PSs (cxOf CX P w K mg base N qual scope f cdv A outer s H E) body t ∧ t { nx := fun _ H' => Q .non H', rt := Q } (start N vs) H) :
    FnOk P w K mg base CX (k + 1) f (PySem.W.fnOf name qual params body scope dV kV doc pm an cdv ct) ps sp := by
  refine ⟨len, fun A outer s H args us vs Q E hr e0 hb r hsp => ?_⟩
  have hl := len _ _ _ _ hsp
  have KX : K.In s.heap := e0.mod.kin.keeps fun b o e => (e0.bs b o e).1
  have lim : s.heap.NoLimit := e0.mod.nolimit.keeps fun b o e => (e0.bs b o e).1
  have hkind : ∀ y ∈ ps.zip us, scope.names.lookup y.1 = some .local ∨ (scope.names.lookup y.1 = some .cell ∧ ((cellsFrom (s.heap.objs.size + 1) scope.names []).lookup y.1).isSome = true) := fun ⟨n, v⟩ hy => by
    rcases S.par n (List.of_mem_zip hy).1 with q | q
    · exact .inl q
    · exact .inr ⟨q, PySem.W.cellsFrom_some _ _ _ (.inl q)⟩
  refine codeAny_call_function hr.depth (KX _ _ lk) rfl S.co S.gen rfl (PySem.W.codeRec_of KX hcd) (hb _ _ _ _ ?_)
  refine wpAny_newFunctionEnv_cells S.kind hkind fun env he s1 x => ?_
  subst he
  refine ⟨lim.keeps x.toInCall.keep, codeAny_func ?_⟩
  obtain ⟨t, ht, hq⟩ := hbody A outer s H vs Q E (hr.deeper _) hsp
  have I : Inv (cxOf CX P w K mg base N qual scope f cdv A outer s H E) [] (start N vs) H s1 := inv_start S hr.hd e0 hl r x
  refine wpAny_mono (ht [] s1 (start N vs) H _ I hq) (fun fl s' hs => ?_) fun e s' hs => hs
  have fin : ∀ {σ' : St} {H' : Hp} {v : V} {u : Value}, Inv (cxOf CX P w K mg base N qual scope f cdv A outer s H E) [] σ' H' s' → RelV v u → Q v H' → CE outer P w H s Q u s' :=
    fun {σ' H' v u} J rv q => ⟨v, H', J.os, J.bare, J.base, J.hok, rv, q⟩
  cases fl with
  | ret u =>
    obtain ⟨v, σ', H', J, rv, q⟩ := hs
    exact fin J rv q
  | next =>
    obtain ⟨σ', H', J, q⟩ := hs
    exact fin (v := V.non) (u := Value.none) J rfl q
  | brk =>
    obtain ⟨_, _, _, q⟩ := hs
    exact False.elim q
  | cont =>
    obtain ⟨_, _, _, q⟩ := hs
    exact False.elim q
end L2

namespace L2
open PySem PySem.Spec PyProof.Rows
section
variable {X : Cx} {x : Str} {p pos : Pos} {e : Expr} {es : List Expr} {t : TA} {id T : String} {r : List V → Hp → VK → Prop}

def tCB (r : List V → Hp → VK → Prop) (t : TA) : TE := fun σ H Q => t σ H fun vs H1 => r vs H1 Q
/-- f(e, ..), f a built-in function -/
theorem pe_callB (hc : CallR X (.builtin id) r) (hg : Gl X x) (hm : X.mg x = none) (hv : bootBuiltins x = some (.builtin id)) (ha : PA X (e :: es) t) (hn : x ≠ "__name__" := by decide) (hdb : (x == ("__debug__" : Str)) = false := by decide)
    (he : starEach (e :: es) X.env = (false, eval e X.env) :: starEach es X.env := by rfl) (hpl : (backTo pos (starEach es X.env)).any (·.1) = false := by rfl) : PE X (.Call (.Name x p) (e :: es) [] pos) (tCB r t) := by
  intro pins s σ H Q I h
  refine wpAny_Call_Name_kw (ld_blt I hg hm hv ?_ hn hdb)
  exact PyProof.Rows.callWith_builtin1 (thn (ha pos pins s σ H _ I h) fun us s1 ⟨vs, H1, I1, r1, q1⟩ => hc pins s1 σ H1 vs us Q I1 r1 q1) he hpl
/-- T(e, ..), T a built-in type -/
theorem pe_callTy (hc : CallR X (.type T) r) (hg : Gl X x) (hm : X.mg x = none) (hv : bootBuiltins x = some (.type T)) (ha : PA X (e :: es) t) (hn : x ≠ "__name__" := by decide) (hdb : (x == ("__debug__" : Str)) = false := by decide)
    (he : starEach (e :: es) X.env = (false, eval e X.env) :: starEach es X.env := by rfl) (hpl : (backTo pos (starEach es X.env)).any (·.1) = false := by rfl) : PE X (.Call (.Name x p) (e :: es) [] pos) (tCB r t) := by
  intro pins s σ H Q I h
  refine wpAny_Call_Name_kw (ld_blt I hg hm hv ?_ hn hdb)
  exact PyProof.Rows.callWith_type1 (thn (ha pos pins s σ H _ I h) fun us s1 ⟨vs, H1, I1, r1, q1⟩ => hc pins s1 σ H1 vs us Q I1 r1 q1) he hpl
/-- T() -/
theorem pe_callTy0 (hc : CallR X (.type T) r) (hg : Gl X x) (hm : X.mg x = none) (hv : bootBuiltins x = some (.type T)) (hn : x ≠ "__name__" := by decide) (hdb : (x == ("__debug__" : Str)) = false := by decide) :
    PE X (.Call (.Name x p) [] [] pos) (tCB r tNil) := by
  intro pins s σ H Q I h
  refine wpAny_Call_Name_kw (ld_blt I hg hm hv ?_ hn hdb)
  exact PyProof.Rows.callWith_type0 (hc pins s σ H [] [] Q I .nil h)
end
end L2

namespace HT
open PySem PyProof.Rows

/-- t < u of tuples of ints -/
def lexLt : List Int → List Int → Bool
  | [], [] => false
  | [], _ :: _ => true
  | _ :: _, [] => false
  | x :: xs, y :: ys => if x = y then lexLt xs ys else decide (x < y)
theorem lexLt_cons (x y : Int) (xs ys : List Int) : lexLt (x :: xs) (y :: ys) = if x = y then lexLt xs ys else decide (x < y) := rfl
theorem lexLt_nil_nil : lexLt [] [] = false := rfl
theorem lexLt_nil_cons (y : Int) (ys : List Int) : lexLt [] (y :: ys) = true := rfl
theorem lexLt_cons_nil (x : Int) (xs : List Int) : lexLt (x :: xs) [] = false := rfl

theorem eqAt_int (A : Around) (s : Shared) (a : Int) (t : Tok) (c : Int) (u : Tok) : ∃ e, SeqAt.EqAt A s (.int a t) (.int c u) e ∧ (e = true ↔ a = c) :=
  ⟨(a == c), SeqAt.EqAt.int_int a t c u, by simp⟩
theorem rcLt_int (A : Around) (s : Shared) (a : Int) (t : Tok) (c : Int) (u : Tok) (prog : Program) (w : World) (E : Value → Shared → Prop) (Q : Value → Shared → Prop) (h : Q (.bool (decide (a < c))) s) :
    wpAny (model prog w) A (richCompare .Lt (.int a t) (.int c u)) Q E s :=
  (PyProof.Rows.lt_int h : wpAny (model prog w) A (compareOp .Lt (.int a t) (.int c u)) Q E s)

section
open PySem.SeqAt
open PySem.AutoSeq1 (wpAny_loadPart')
open PySem.MeetsSeq PySem.MeetsSeq2 PySem.MeetsSeq3

theorem tuple_lt_ints (l b : Addr) (items items2 : Array Value) (n n2 : Nat) (dd dd2 : Option Addr) (sl sl2 : Array (Option Value)) (ns ms : List Int) (hi : IntsAre items.toList ns) (hj : IntsAre items2.toList ms) :
    Meets (Builtin.«tuple.__lt__» ⟨[.ref l, .ref b], []⟩)
      (fun _ R s => s.heap.get? l = some { cls := .type "tuple", dict := dd, data := .seq items n, slots := sl } ∧ s.heap.get? b = some { cls := .type "tuple", dict := dd2, data := .seq items2 n2, slots := sl2 } ∧
        R (.ok (.ret (.bool (lexLt ns ms)))) s) :=
  .of_wp fun prog w A R s h => by
    obtain ⟨hp, g, d, tk, os⟩ := s; obtain ⟨hl, hb, h⟩ := h
    have f2 := AutoSeq1.sub_tuple_tuple
    have z1 : items.size = ns.length := by rw [← hi.length]; simp
    have z2 : items2.size = ms.length := by rw [← hj.length]; simp
    wp_walk using wpAny_loadPart' hl, wpAny_loadPart' hb, wpAny_forIn_list _ (fun rest b s' => b.1 = none ∧ s' = ⟨hp, g, d, tk, os⟩ ∧ ∃ (vs ws : List Value) (ns' ms' : List Int), rest = vs.zip ws ∧
      IntsAre vs ns' ∧ IntsAre ws ms' ∧ ns'.length + items2.size = ms'.length + items.size ∧ R (.ok (.ret (.bool (lexLt ns' ms')))) ⟨hp, g, d, tk, os⟩) _
    case turn =>
      rintro ⟨y, x⟩ rest b s' ⟨hb', rfl, vs, ws, ns', ms', hz, hvi, hwi, hlen, hR⟩
      cases hvi with
      | nil => rw [List.zip_nil_left] at hz; cases hz
      | cons a t hvi' =>
        cases hwi with
        | nil => rw [List.zip_nil_right] at hz; cases hz
        | cons c u hwi' =>
          rw [List.zip_cons_cons] at hz
          injection hz with hyx hrest
          injection hyx with hy hx
          subst hy hx
          rw [lexLt_cons] at hR
          simp only [List.length_cons] at hlen
          obtain ⟨e, he, hiff⟩ := eqAt_int A.in1 ⟨hp, g, d, tk, os⟩ a t c u
          refine wpAny_bind (he prog w _ _ ?_)
          cases e with
          | true =>
            rw [if_pos (hiff.mp rfl)] at hR
            wp_walk
            exact ⟨rfl, rfl, _, _, _, _, hrest, hvi', hwi', by omega, hR⟩
          | false =>
            rw [if_neg (fun q => absurd (hiff.mpr q) Bool.false_ne_true)] at hR
            have hri := rcLt_int A.in1 ⟨hp, g, d, tk, os⟩ a t c u prog w
            wp_walk using hri
            exact ⟨_, rfl, by simpa using hR⟩
    case fin =>
      rintro ⟨b1, b2⟩ s' ⟨hb', rfl, vs, ws, ns', ms', hz, hvi, hwi, hlen, hR⟩
      simp only at hb'
      subst hb'
      have hv : lexLt ns' ms' = decide (items.size < items2.size) := by
        cases hvi with
        | nil =>
          cases hwi with
          | nil =>
            simp only [List.length_nil] at hlen
            rw [lexLt_nil_nil]
            exact (decide_eq_false (by omega)).symm
          | cons c u hw =>
            simp only [List.length_nil, List.length_cons] at hlen
            rw [lexLt_nil_cons]
            exact (decide_eq_true (by omega)).symm
        | cons a t hv =>
          cases hwi with
          | nil =>
            simp only [List.length_nil, List.length_cons] at hlen
            rw [lexLt_cons_nil]
            exact (decide_eq_false (by omega)).symm
          | cons c u hw =>
            rw [List.zip_cons_cons] at hz
            cases hz
      rw [hv] at hR
      wp_walk
      exact ⟨_, rfl, by simpa [Builtin.Tuple.tupleCompareSizes] using hR⟩
    case h =>
      exact ⟨rfl, rfl, items.toList, items2.toList, ns, ms, rfl, hi, hj, by omega, h⟩
end

section
variable {prog : Program} {w : World} {A : Around} {E : Value → Shared → Prop} {s : Shared}

theorem lt_tupInts {l b : Addr} {items items2 : Array Value} {ns ms : List Int} {Q : Value → Shared → Prop} (hl : IsTup s.heap l items) (hb : IsTup s.heap b items2) (hi : IntsAre items.toList ns) (hj : IntsAre items2.toList ms)
    (hu : A.units < cLine) (h : Q (.bool (lexLt ns ms)) s) : wpAny (model prog w) A (compareOp .Lt (.ref l) (.ref b)) Q E s := by
  obtain ⟨⟨cls, dd, data, sl⟩, ho, hc, n, hd⟩ := id hl
  obtain ⟨⟨cls2, dd2, data2, sl2⟩, ho2, hc2, n2, hd2⟩ := id hb
  simp only at hc hd hc2 hd2
  subst hc hd hc2 hd2
  exact richCompare_meets_room (op := .Lt) ⟨_, ho, rfl⟩ ⟨_, ho2, rfl⟩ PySem.F.slot_tuple_lt PySem.F.entry_tuple_lt (PySem.F.args_tuple_lt_2 _ _) (tuple_lt_ints l b items items2 n n2 dd dd2 sl sl2 ns ms hi hj)
    ⟨ho, ho2, show Value.bool (lexLt ns ms) ≠ Value.notImplemented ∧ Q (.bool (lexLt ns ms)) s from ⟨(fun x => nomatch x), h⟩⟩ hu

/-- t + u, t not empty -/
theorem cat_tup {t b : Addr} {vs ws : List Value} {Q : Value → Shared → Prop} (ht : IsTup s.heap t vs.toArray) (hb : IsTup s.heap b ws.toArray) (hv : vs ≠ [])
    (h1 : ws = [] → Q (.ref t) s) (h2 : ws ≠ [] → Q (.ref s.heap.objs.size) { s with heap := s.heap.push { cls := .type "tuple", data := .seq (vs ++ ws).toArray } })
    (hsz : vs.length + ws.length ≤ sizeLine) : wpAny (model prog w) A (binaryOp .Add (.ref t) (.ref b)) Q E s := by
  obtain ⟨⟨cls, dd, data, sl⟩, ho, hc, n, hd⟩ := id ht
  obtain ⟨⟨cls2, dd2, data2, sl2⟩, ho2, hc2, n2, hd2⟩ := id hb
  simp only at hc hd hc2 hd2
  subst hc hd hc2 hd2
  have e : vs.toArray ++ ws.toArray = (vs ++ ws).toArray := by simp
  by_cases hw : ws = []
  · exact concat_meets ⟨_, ho, rfl⟩ ⟨_, ho2, rfl⟩ noFill_tuple_add seq_tuple_add PySem.F.slot_tuple_add PySem.F.entry_tuple_add (PySem.F.args_tuple_add_2 _ _)
      (tuple_addW1 t b vs.toArray ws.toArray n n2 dd dd2 sl sl2 (by simpa using hv) (by simp [hw])) ⟨ho, ho2, h1 hw⟩
  · refine concat_meets ⟨_, ho, rfl⟩ ⟨_, ho2, rfl⟩ noFill_tuple_add seq_tuple_add PySem.F.slot_tuple_add PySem.F.entry_tuple_add (PySem.F.args_tuple_add_2 _ _)
      (tuple_addW2 t b vs.toArray ws.toArray n n2 dd dd2 sl sl2 (by simpa using hv) (by simpa using hw) (by rw [List.size_toArray, List.size_toArray]; exact hsz)) ⟨ho, ho2, ?_⟩
    rw [e]
    exact h2 hw

/-! ### t[a:b], not the whole -/
/-- a slice's bound as a place among n (d where it is left out) -/
def sIx (n d : Nat) : Option Int → Nat
  | none => d
  | some v => if v < 0 then (v + (n : Int)).toNat else min v.toNat n
theorem sIx_none (n d : Nat) : sIx n d none = d := rfl
theorem sIx_nat (n d k : Nat) : sIx n d (some (k : Int)) = min k n := by
  show (if (k : Int) < 0 then ((k : Int) + (n : Int)).toNat else min (k : Int).toNat n) = min k n
  rw [if_neg (by omega), Int.toNat_natCast]
theorem sIx_le (n d : Nat) (hd : d ≤ n) (o : Option Int) : sIx n d o ≤ n := by
  cases o with
  | none => exact hd
  | some v =>
    show (if v < 0 then (v + (n : Int)).toNat else min v.toNat n) ≤ n
    by_cases hv : v < 0
    · rw [if_pos hv]; omega
    · rw [if_neg hv]; exact Nat.min_le_right _ _
theorem clip_eq (v : Int) (n d : Nat) : (if v < 0 then max (v + (n : Int)) 0 else min v (n : Int)) = ((sIx n d (some v) : Nat) : Int) := by
  show (if v < 0 then max (v + (n : Int)) 0 else min v (n : Int)) = (((if v < 0 then (v + (n : Int)).toNat else min v.toNat n) : Nat) : Int)
  by_cases hv : v < 0
  · simp only [if_pos hv]; omega
  · simp only [if_neg hv]; omega
theorem adjust_gen (lo hi : Option Int) (n : Nat) : Builtin.Slice.sliceAdjust lo hi 1 (n : Int) = (((sIx n 0 lo : Nat) : Int), ((sIx n n hi : Nat) : Int)) := by
  have h1 : ¬ ((1 : Int) < 0) := by omega
  unfold Builtin.Slice.sliceAdjust
  simp only [h1, if_false]
  refine Prod.ext ?_ ?_
  · cases lo with
    | none => rfl
    | some v => exact clip_eq v n 0
  · cases hi with
    | none => rfl
    | some v => exact clip_eq v n n
theorem places_gen (i j : Nat) : Builtin.Slice.slicePlaces (i : Int) (j : Int) 1 = j - i := by
  unfold Builtin.Slice.slicePlaces
  have h1 : (1 : Int) > 0 := by omega
  simp only [h1, if_true, Int.ediv_one]
  split <;> omega
theorem slicePart_ {v : Value} {o : Option Int} {Q : Option Int → Shared → Prop} (p : IsPart v o) (h : Q o s) : wpAny (model prog w) A (Builtin.Slice.slicePartIndex v) Q E s := by
  cases p with
  | none => exact slicePart_none h
  | int i t => exact slicePart_int h
theorem sliceApplied_gen {sl : Addr} {vl vu : Value} {lo hi : Option Int} {n : Nat} {Q : Int × Int × Nat → Shared → Prop} (hs : s.heap.IsSliceOf sl vl vu .none) (pl : IsPart vl lo) (pu : IsPart vu hi)
    (h : Q (((sIx n 0 lo : Nat) : Int), 1, sIx n n hi - sIx n 0 lo) s) : wpAny (model prog w) A (Builtin.Slice.sliceApplied (.ref sl) (pure (n : Int))) Q E s := by
  obtain ⟨os, hos, hcs, hds⟩ := id hs
  unfold Builtin.Slice.sliceApplied Builtin.Slice.sliceFields
  refine wpAny_bind (wpAny_bind (wpAny_field hos hds (x := vl) rfl (wpAny_bind (wpAny_field hos hds (x := vu) rfl (wpAny_bind (wpAny_field hos hds (x := .none) rfl (wpAny_pure ?_)))))))
  refine wpAny_bind (slicePart_none ?_)
  show wpAny _ _ (if ((1 : Int) == 0) = true then _ else _) _ _ s
  rw [if_neg (by decide)]
  refine wpAny_bind (slicePart_ pl (wpAny_bind (slicePart_ pu (wpAny_bind (wpAny_pure ?_)))))
  show wpAny _ _ (match Builtin.Slice.sliceAdjust lo hi 1 (n : Int) with | (lo, hi) => pure (lo, (1 : Int), Builtin.Slice.slicePlaces lo hi 1)) _ _ s
  rw [adjust_gen lo hi n]
  show wpAny _ _ (pure (((sIx n 0 lo : Nat) : Int), (1 : Int), Builtin.Slice.slicePlaces ((sIx n 0 lo : Nat) : Int) ((sIx n n hi : Nat) : Int) 1)) _ _ s
  rw [places_gen]
  exact wpAny_pure h
theorem pick_gen (xs : Array Value) (i k : Nat) : ((List.range k).filterMap fun (m : Nat) => xs[((i : Int) + (m : Int) * 1).toNat]?).toArray = ((xs.toList.drop i).take k).toArray := by
  have e : (fun (m : Nat) => xs[((i : Int) + (m : Int) * 1).toNat]?) = fun m => xs[i + m]? := by
    funext m
    have : ((i : Int) + (m : Int) * 1).toNat = i + m := by omega
    rw [this]
  rw [e]
  have := pick_run xs i k
  rw [List.filterMap_map] at this
  have e2 : ((fun x => xs[x]?) ∘ fun x => i + x) = fun m => xs[i + m]? := rfl
  rw [e2] at this
  rw [this]

theorem getItem_tuple_cut {t sl : Addr} {items : Array Value} {vl vu : Value} {lo hi : Option Int} {Q : Value → Shared → Prop} (ht : IsTup s.heap t items) (hs : s.heap.IsSliceOf sl vl vu .none) (pl : IsPart vl lo) (pu : IsPart vu hi)
    (hw : ¬ (sIx items.size 0 lo = 0 ∧ sIx items.size items.size hi = items.size))
    (h : Q (.ref s.heap.objs.size) { s with heap := s.heap.push { cls := .type "tuple", data := .seq ((items.toList.drop (sIx items.size 0 lo)).take (sIx items.size items.size hi - sIx items.size 0 lo)).toArray } })
    (hsz : items.size ≤ sizeLine) : wpAny (model prog w) A (getItem (.ref t) (.ref sl)) Q E s := by
  have htake : sizeOk (.seq ((items.toList.drop (sIx items.size 0 lo)).take (sIx items.size items.size hi - sIx items.size 0 lo)).toArray) := by
    show ((items.toList.drop (sIx items.size 0 lo)).take (sIx items.size items.size hi - sIx items.size 0 lo)).toArray.size ≤ sizeLine
    rw [List.size_toArray, List.length_take, List.length_drop, Array.length_toList]
    omega
  have hj : sIx items.size items.size hi ≤ items.size := sIx_le _ _ (Nat.le_refl _) hi
  obtain ⟨os, hos, hcs, hds⟩ := id hs
  have hTs : s.TypeIs (.ref sl) "slice" := ⟨os, hos, hcs⟩
  unfold getItem
  try with_reducible refine wpAny_holding ?_
  first | refine wpAny_bind (wpAny_pure ?_) | skip
  refine wpAny_bind (wpAny_sequenceKey ht.typeIs (by decide) ?_)
  refine wpAny_bind (wpAny_callSpecial?_slot (name := Str.ofString "__getitem__") ht.typeIs PyProof.Rows.slot_tuple_getitem
    (wpAny_call_entry PyProof.Rows.slot_tuple_getitem ht.typeIs entry_tuple_getitem ?_ (args_tuple_getitem _ _)))
  show wpAny _ _ (Builtin.Tuple.tupleItemsOf (.ref t) >>= _) _ _ s
  refine wpAny_bind (tupleItemsOf_ ht ?_)
  refine wpAny_bind (wpAny_typeOf hTs ?_)
  rw [if_pos (by decide)]
  refine wpAny_bind (sliceApplied_gen hs pl pu ?_)
  have hno : ¬ ((((sIx items.size 0 lo : Nat) : Int) == 0 && (1 : Int) == 1 && (sIx items.size items.size hi - sIx items.size 0 lo) == items.size) = true) := by
    intro q
    rw [Bool.and_eq_true, Bool.and_eq_true] at q
    have q1 : ((sIx items.size 0 lo : Nat) : Int) = 0 := eq_of_beq q.1.1
    have q2 : sIx items.size items.size hi - sIx items.size 0 lo = items.size := eq_of_beq q.2
    exact hw ⟨by omega, by omega⟩
  show wpAny _ _ (if (((sIx items.size 0 lo : Nat) : Int) == 0 && (1 : Int) == 1 && (sIx items.size items.size hi - sIx items.size 0 lo) == items.size) = true then _ else _) _ _ s
  rw [if_neg hno, pick_gen]
  first
    | exact wpAny_bind (m := Builtin.Tuple.tupleExact _) (wpAny_newObj_type (wpAny_pure ⟨_, rfl, wpAny_pure h⟩) htake)
    | exact wpAny_bind (m := Builtin.Tuple.tupleExact _) (wpAny_newObj_type (wpAny_bind (wpAny_pure (wpAny_pure ⟨_, rfl, wpAny_pure h⟩))) htake)
    | exact wpAny_bind (wpAny_bind (m := Builtin.Tuple.tupleExact _) (wpAny_newObj_type (wpAny_pure (wpAny_pure ⟨_, rfl, wpAny_pure h⟩)) htake))
    | exact wpAny_bind (wpAny_bind (m := Builtin.Tuple.tupleExact _) (wpAny_newObj_type (wpAny_pure ⟨_, rfl, wpAny_pure h⟩) htake))
end
end HT

namespace L2
open PySem PySem.Spec PyProof.Rows

/-! ### the parts of a slice -/
abbrev TO := St → Hp → (Option Int → Hp → Prop) → Prop
/-- a slice's part (left out, or an int) -/
def PO (X : Cx) (e : Option Expr) (t : TO) : Prop :=
  ∀ (pins : List (Addr × Obj)) (s : Shared) (σ : St) (H : Hp) (Q : Option Int → Hp → Prop), Inv X pins σ H s → t σ H Q →
    wpAny (model X.prog X.w) X.A (evalPart e X.env) (fun u s' => ∃ o H', Inv X pins σ H' s' ∧ IsPart u o ∧ Q o H') X.xe s
def tNoPart : TO := fun _ H Q => Q none H
def tPart (t : TE) : TO := fun σ H Q => t σ H fun x H1 => ∃ i, x = .int i ∧ Q (some i) H1

theorem intsAre_of {ns : List Int} : ∀ {us : List Value}, Vals (ns.map V.int) us → IntsAre us ns := by
  induction ns with
  | nil => intro us r; rw [List.map_nil] at r; cases r; exact .nil
  | cons n ns ih =>
    intro us r
    rw [List.map_cons] at r
    cases r with
    | cons r1 r2 =>
      obtain ⟨t, e⟩ := r1
      subst e
      exact .cons n t (ih r2)

section
variable {X : Cx} {e : Expr} {te : TE} {lo hi : Option Expr} {tl th : TO} {pos p2 : Pos}

theorem po_none : PO X none tNoPart := by
  intro pins s σ H Q I h
  rw [evalPart_none]
  exact wpAny_pure ⟨none, H, I, .none, h⟩
theorem po_some (h : PE X e te) : PO X (some e) (tPart te) := by
  intro pins s σ H Q I hw
  rw [evalPart_some]
  refine thn (h pins s σ H _ I hw) fun u s1 ⟨x, H1, I1, r1, q1⟩ => ?_
  obtain ⟨i, rfl, q⟩ := q1
  obtain ⟨t, rfl⟩ := r1
  exact ⟨some i, H1, I1, .int i t, q⟩

/-- what a slice of a value is, by values: the slice object stands at sl -/
def SlR (X : Cx) (r : V → Option Int → Option Int → Hp → VK → Prop) : Prop :=
  ∀ (pins : List (Addr × Obj)) (s : Shared) (σ : St) (H : Hp) (x : V) (v vl vu : Value) (lo hi : Option Int) (sl : Addr) (Q : VK), Inv X pins σ H s → RelV x v → s.heap.IsSliceOf sl vl vu .none → IsPart vl lo → IsPart vu hi → r x lo hi H Q →
    ∃ T id, typeLookup (.type T) "__getitem__" = pure (some (.builtin id)) ∧ s.TypeIs v T ∧ wpAny (model X.prog X.w) X.A (getItem v (.ref sl)) (EP X pins σ Q) X.xe s
theorem SlR.or {r r' : V → Option Int → Option Int → Hp → VK → Prop} (h : SlR X r) (h' : SlR X r') : SlR X (fun x lo hi H Q => r x lo hi H Q ∨ r' x lo hi H Q) := by
  intro pins s σ H x v vl vu lo hi sl Q I rx hs pl pu q
  rcases q with q | q
  · exact h pins s σ H x v vl vu lo hi sl Q I rx hs pl pu q
  · exact h' pins s σ H x v vl vu lo hi sl Q I rx hs pl pu q
def tSl (r : V → Option Int → Option Int → Hp → VK → Prop) (te : TE) (tl th : TO) : TE := fun σ H Q => te σ H fun x H1 => tl σ H1 fun l H2 => th σ H2 fun u H3 => r x l u H3 Q
/-- a[lo:hi], any a -/
theorem pe_slice {r : V → Option Int → Option Int → Hp → VK → Prop} (hr : SlR X r) (he : PE X e te) (hl : PO X lo tl) (hu : PO X hi th) : PE X (.Subscript e (.Slice lo hi none p2) pos) (tSl r te tl th) := by
  intro pins s σ H Q I h
  refine Subscript_ (thn (he pins s σ H _ I h) fun v s1 ⟨x, H1, I1, r1, q1⟩ => ?_)
  refine wpAny_Slice (thn (hl pins s1 σ H1 _ I1 q1) fun vl s2 ⟨l, H2, I2, pl, q2⟩ => thn (hu pins s2 σ H2 _ I2 q2) fun vu s3 ⟨u, H3, I3, pu, q3⟩ => ?_)
  rw [evalPart_none]
  refine wpAny_pure ?_
  have I4 : Inv X pins σ H3 { s3 with heap := s3.heap.push { cls := .type "slice", data := .fields #[vl, vu, .none] } } := I3.kept (t' := s3.toks) fun b ob q => Heap.get?_push_of_some _ q
  obtain ⟨T, id, hT, ht, hg⟩ := hr pins { s3 with heap := s3.heap.push { cls := .type "slice", data := .fields #[vl, vu, .none] } } σ H3 x v vl vu l u s3.heap.objs.size Q I4 r1 (Heap.IsSliceOf.new ..) pl pu q3
  show wpAny (model X.prog X.w) X.A (subscriptTail e (.Slice lo hi none p2) v (.ref s3.heap.objs.size)) (EP X pins σ Q) X.xe { s3 with heap := s3.heap.push { cls := .type "slice", data := .fields #[vl, vu, .none] } }
  exact tail_any (ops := [.ref s3.heap.objs.size, v]) ht hT hg (by with_unfolding_all rfl)

/-- the items of xs[lo:hi] -/
def cutV (xs : List V) (lo hi : Option Int) : List V := (xs.drop (HT.sIx xs.length 0 lo)).take (HT.sIx xs.length xs.length hi - HT.sIx xs.length 0 lo)
theorem cutV_length (xs : List V) (lo hi : Option Int) : (cutV xs lo hi).length ≤ xs.length := by
  unfold cutV
  rw [List.length_take, List.length_drop]
  omega
/-- t[lo:hi], not the whole of it (the whole would be t itself) -/
def rSlT (K : PySem.W.Frag) : V → Option Int → Option Int → Hp → VK → Prop := fun x lo hi H Q => ∃ a xs, x = .ref a ∧ SqT K H a xs ∧
  ¬ (HT.sIx xs.length 0 lo = 0 ∧ HT.sIx xs.length xs.length hi = xs.length) ∧ ∀ p, H p = none → Q (.ref p) (upd H p (.tup (cutV xs lo hi)))
theorem sl_tup : SlR X (rSlT X.K) := by
  intro pins s σ H x v vl vu lo hi sl Q I rx hs pl pu h
  obtain ⟨a, xs, rfl, hx, hw, q⟩ := h
  cases rx
  obtain ⟨its, r, ht, hz⟩ := I.tuple hx
  have hlen : its.toArray.size = xs.length := by rw [List.size_toArray]; exact r.length.symm
  refine ⟨"tuple", _, PyProof.Rows.slot_tuple_getitem.lookup, ht.typeIs, ?_⟩
  refine HT.getItem_tuple_cut ht hs pl pu (by rw [hlen]; exact hw) ?_ (by rw [hlen]; exact hz)
  rw [hlen]
  refine ⟨.ref s.heap.objs.size, _, I.laid (t' := s.toks) (o := .tup (cutV xs lo hi)) (fun b ob q => Heap.get?_push_of_some _ q) (Nat.le_refl _) ?_, rfl, q _ (I.hok.fresh (Nat.le_refl _))⟩
  exact ⟨Nat.le_trans (cutV_length xs lo hi) hz, _, (r.drop (HT.sIx xs.length 0 lo)).take (HT.sIx xs.length xs.length hi - HT.sIx xs.length 0 lo), IsTup.new _ _⟩

/-! ### t < u, t + u -/
def rLtT (K : PySem.W.Frag) : R2 := fun x y H Q => ∃ a b ns ms, x = .ref a ∧ y = .ref b ∧ SqT K H a (ns.map V.int) ∧ SqT K H b (ms.map V.int) ∧ Q (.bl (HT.lexLt ns ms)) H
theorem op_ltT (hu : X.A.units < cLine) : OpR X (compareOp .Lt) (rLtT X.K) := by
  intro pins s σ H x y v u Q I rx ry h
  obtain ⟨a, b, ns, ms, rfl, rfl, ha, hb, q⟩ := h
  cases rx
  cases ry
  obtain ⟨its, r1, p1, _⟩ := I.tuple ha
  obtain ⟨its2, r2, p2, _⟩ := I.tuple hb
  have i1 : IntsAre its.toArray.toList ns := intsAre_of r1
  have i2 : IntsAre its2.toArray.toList ms := intsAre_of r2
  exact HT.lt_tupInts p1 p2 i1 i2 hu ⟨.bl (HT.lexLt ns ms), H, I, rfl, q⟩
/-- t + u, t not empty: u empty gives t itself -/
def rCatT (K : PySem.W.Frag) : R2 := fun x y H Q => ∃ a b xs ys, x = .ref a ∧ y = .ref b ∧ SqT K H a xs ∧ SqT K H b ys ∧ xs ≠ [] ∧ xs.length + ys.length ≤ sizeLine ∧
  (ys = [] → Q (.ref a) H) ∧ (ys ≠ [] → ∀ p, H p = none → Q (.ref p) (upd H p (.tup (xs ++ ys))))
theorem Vals.nil_iff {xs : List V} {us : List Value} (r : Vals xs us) : us = [] ↔ xs = [] := by
  cases r with
  | nil => simp
  | cons _ _ => simp
theorem op_catT : OpR X (binaryOp .Add) (rCatT X.K) := by
  intro pins s σ H x y v u Q I rx ry h
  obtain ⟨a, b, xs, ys, rfl, rfl, ha, hb, hx, hz, q1, q2⟩ := h
  cases rx
  cases ry
  obtain ⟨its, r1, p1, _⟩ := I.tuple ha
  obtain ⟨its2, r2, p2, _⟩ := I.tuple hb
  refine HT.cat_tup p1 p2 (fun z => hx (r1.nil_iff.mp z)) (fun z => ⟨.ref a, H, I, rfl, q1 (r2.nil_iff.mp z)⟩) (fun z => ?_) (by rw [← r1.length, ← r2.length]; exact hz)
  refine ⟨.ref s.heap.objs.size, _, I.laid (t' := s.toks) (o := .tup (xs ++ ys)) (fun b ob q => Heap.get?_push_of_some _ q) (Nat.le_refl _) ?_, rfl, q2 (fun w => z (r2.nil_iff.mpr w)) _ (I.hok.fresh (Nat.le_refl _))⟩
  exact ⟨by rw [List.length_append]; exact hz, _, r1.append r2, IsTup.new _ _⟩
/-- tuple(t) -/
theorem call_tupleT : CallR X (.type "tuple") (fun xs H Q => ∃ a ys, xs = [.ref a] ∧ SqT X.K H a ys ∧ Q (.ref a) H) := by
  intro pins s σ H xs us Q I r h
  obtain ⟨a, ys, rfl, ha, q⟩ := h
  obtain ⟨u, rfl, ru⟩ := vals1 r
  cases ru
  obtain ⟨its, _, p1, _⟩ := I.tuple ha
  exact call_tuple_same (items := its.toArray) p1 ⟨.ref a, H, I, rfl, q⟩
end
end L2

namespace L2
open PySem PySem.Spec PyProof.Rows

/-! ### places -/
/-- the place that an index of any sign means -/
def ixN (n : Nat) (i : Int) : Option Nat := if 0 ≤ i then (if i < n then some i.toNat else none) else if -(n : Int) ≤ i then some (i + n).toNat else none
def atI {α : Type} (xs : List α) (i : Int) : Option α := (ixN xs.length i).bind fun j => xs[j]?
theorem ixN_seq {n : Nat} {i : Int} {j : Nat} (h : ixN n i = some j) : seqIndex? i n = some j ∧ j < n ∧ -(n : Int) ≤ i ∧ i < n := by
  unfold ixN at h
  by_cases h0 : 0 ≤ i
  · rw [if_pos h0] at h
    by_cases h1 : i < n
    · rw [if_pos h1] at h
      have e : i.toNat = j := Option.some.inj h
      exact ⟨by rw [seqIndex_of h0 h1, e], by omega, by omega, h1⟩
    · rw [if_neg h1] at h; cases h
  · rw [if_neg h0] at h
    by_cases h1 : -(n : Int) ≤ i
    · rw [if_pos h1] at h
      have e : (i + n).toNat = j := Option.some.inj h
      exact ⟨by rw [seqIndex_neg (by omega) h1, e], by omega, h1, by omega⟩
    · rw [if_neg h1] at h; cases h
theorem atI_get {α : Type} {xs : List α} {i : Int} {v : α} (h : atI xs i = some v) : ∃ j, seqIndex? i xs.length = some j ∧ xs[j]? = some v ∧ j < xs.length ∧ -(xs.length : Int) ≤ i ∧ i < xs.length := by
  unfold atI at h
  cases e : ixN xs.length i with
  | none => rw [e] at h; cases h
  | some j =>
    rw [e] at h
    obtain ⟨h1, h2, h3, h4⟩ := ixN_seq e
    exact ⟨j, h1, h, h2, h3, h4⟩
theorem atI_nat {α : Type} {xs : List α} {j : Nat} {v : α} (h : xs[j]? = some v) : atI xs (j : Int) = some v := by
  have hj : j < xs.length := (List.getElem?_eq_some_iff.mp h).1
  have e : ixN xs.length (j : Int) = some j := by
    unfold ixN
    rw [if_pos (by omega), if_pos (by omega)]; simp
  unfold atI; rw [e]; exact h
theorem atI_last {α : Type} (xs : List α) (v : α) : atI (xs ++ [v]) (-1) = some v := by
  have hl : (xs ++ [v]).length = xs.length + 1 := by simp
  have e : ixN (xs ++ [v]).length (-1) = some xs.length := by
    unfold ixN
    rw [hl, if_neg (by decide), if_pos (by omega)]
    congr 1
    omega
  unfold atI
  rw [e]
  show (xs ++ [v])[xs.length]? = some v
  simp

/-! ### what may be subscripted -/
/-- what stands as an index of a plain subscript -/
def PlainIx (b : Expr) : Prop := ∀ o i, subscripted b false o i = operate [o, i] (getItem o i)
/-- a subscript by values -/
def IxR (X : Cx) (r : R2) : Prop :=
  ∀ (value slice : Expr) (pins : List (Addr × Obj)) (s : Shared) (σ : St) (H : Hp) (x y : V) (v u : Value) (Q : VK), Inv X pins σ H s → RelV x v → RelV y u → r x y H Q →
    subscripted slice false v u = operate [v, u] (getItem v u) → wpAny (model X.prog X.w) X.A (subscriptTail value slice v u) (EP X pins σ Q) X.xe s
/-- a call of a builtin's method by values: the receiver, the arguments -/
def MtR (X : Cx) (id : String) (r : V → List V → Hp → VK → Prop) : Prop :=
  ∀ (pins : List (Addr × Obj)) (s : Shared) (σ : St) (H : Hp) (x : V) (xs : List V) (v : Value) (us : List Value) (Q : VK), Inv X pins σ H s → RelV x v → Vals xs us → r x xs H Q →
    wpAny (model X.prog X.w) X.A (call (.builtin id) (v :: us)) (EP X pins σ Q) X.xe s
section
variable {X : Cx} {a b : Expr} {ta tb : TE} {pos : Pos}
theorem IxR.or {r r' : R2} (h : IxR X r) (h' : IxR X r') : IxR X (fun x y H Q => r x y H Q ∨ r' x y H Q) := by
  intro value slice pins s σ H x y v u Q I rx ry q hs
  rcases q with q | q
  · exact h value slice pins s σ H x y v u Q I rx ry q hs
  · exact h' value slice pins s σ H x y v u Q I rx ry q hs
theorem MtR.or {id : String} {r r' : V → List V → Hp → VK → Prop} (h : MtR X id r) (h' : MtR X id r') : MtR X id (fun x xs H Q => r x xs H Q ∨ r' x xs H Q) := by
  intro pins s σ H x xs v us Q I rx rs q
  rcases q with q | q
  · exact h pins s σ H x xs v us Q I rx rs q
  · exact h' pins s σ H x xs v us Q I rx rs q
/-- a[b] -/
theorem pe_ix {r : R2} (hr : IxR X r) (ha : PE X a ta) (hb : PE X b tb) (hs : PlainIx b) : PE X (.Subscript a b pos) (tOp r ta tb) := by
  intro pins s σ H Q I h
  exact Subscript_ (binT ha hb I h fun v u s2 x y H2 I2 rx ry q => hr a b pins s2 σ H2 x y v u Q I2 rx ry q (hs _ _))

def rIxL (K : PySem.W.Frag) : R2 := fun x y H Q => ∃ p xs i v, x = .ref p ∧ y = .int i ∧ SqL K H p xs ∧ atI xs i = some v ∧ Q v H
def rIxT (K : PySem.W.Frag) : R2 := fun x y H Q => ∃ p xs i v, x = .ref p ∧ y = .int i ∧ SqT K H p xs ∧ atI xs i = some v ∧ Q v H
def rIxS : R2 := fun x y H Q => ∃ z i c, x = .str z ∧ y = .int i ∧ z.length ≤ sizeLine ∧ atI z.cps.toList i = some c ∧ Q (.str ⟨#[c]⟩) H
theorem ix_list : IxR X (rIxL X.K) := by
  intro value slice pins s σ H x y v u Q I rx ry h hs
  obtain ⟨p, xs, i, z, rfl, rfl, hq, he, q⟩ := h
  cases rx
  obtain ⟨t, rfl⟩ := ry
  obtain ⟨its, r, pl, hz⟩ := I.list hq
  obtain ⟨j, h1, h2, h3, h4, h5⟩ := atI_get he
  obtain ⟨w, ew, rw'⟩ := r.get h2
  have hl := r.length
  have hn := line63
  have fin : EP X pins σ Q w s := ⟨z, H, I, rw', q⟩
  by_cases h0 : 0 ≤ i
  · have hj : i.toNat = j := by
      rw [seqIndex_of h0 h5] at h1
      exact Option.some.inj h1
    exact item_listR pl.isList h0 (by omega) (by rw [hj]; simpa using ew) fin hs
  · have hj : (i + (its.toArray.size : Int)).toNat = j := by
      rw [seqIndex_neg (by omega) h4] at h1
      rw [List.size_toArray, ← hl]
      exact Option.some.inj h1
    exact subscriptTail_builtinR (x := w) pl.isList.typeIs slot_list_getitem.lookup
      (wpAny_getItem_list_neg (Q := fun r s' => r = w ∧ EP X pins σ Q r s') pl.isList (by omega) (by rw [List.size_toArray] <;> omega) (by omega) (by rw [hj]; simpa using ew) ⟨rfl, fin⟩) hs
theorem ix_tup : IxR X (rIxT X.K) := by
  intro value slice pins s σ H x y v u Q I rx ry h hs
  obtain ⟨p, xs, i, z, rfl, rfl, hq, he, q⟩ := h
  cases rx
  obtain ⟨t, rfl⟩ := ry
  obtain ⟨its, r, pl, hz⟩ := I.tuple hq
  obtain ⟨j, h1, h2, h3, h4, h5⟩ := atI_get he
  obtain ⟨w, ew, rw'⟩ := r.get h2
  have hl := r.length
  have hn := line63
  have fin : EP X pins σ Q w s := ⟨z, H, I, rw', q⟩
  exact subscriptTail_builtinR (x := w) pl.typeIs slot_tuple_getitem.lookup
    (getItem_tuple (j := j) (Q := fun r s' => r = w ∧ EP X pins σ Q r s') pl (by omega) (by omega) (by rw [List.size_toArray, ← hl]; exact h1) (by simpa using ew) ⟨rfl, fin⟩) hs
theorem ix_str : IxR X rIxS := by
  intro value slice pins s σ H x y v u Q I rx ry h hs
  obtain ⟨z, i, c, rfl, rfl, hz, he, q⟩ := h
  obtain ⟨t, rfl⟩ := rx
  obtain ⟨t', rfl⟩ := ry
  obtain ⟨j, h1, h2, h3, h4, h5⟩ := atI_get he
  have hl : z.cps.toList.length = z.length := by simp [Str.length]
  rw [hl] at h1 h4 h5
  have hn := line63
  exact tail_any (typeIs_str s z t) slot_str_getitem.lookup (getItem_str (c := c) (by
    have e1 : decide (i < -(2 ^ 63 : Int)) = false := decide_eq_false (by omega)
    have e2 : decide (i ≥ 2 ^ 63) = false := decide_eq_false (by omega)
    rw [e1, e2, Bool.or_false]) (by rw [h1]; simpa using h2) ⟨.str ⟨#[c]⟩, H, I.tok _, ⟨_, rfl⟩, q⟩) hs
/-- list, tuple or str -/
def rIx (K : PySem.W.Frag) : R2 := fun x y H Q => rIxL K x y H Q ∨ rIxT K x y H Q ∨ rIxS x y H Q
theorem ix_seq : IxR X (rIx X.K) := ix_list.or (ix_tup.or ix_str)

/-! ### xs[i] = v, any sign -/
/-- the list's object behind a store -/
theorem mapSeq_set (its : List Value) (n j : Nat) (u : Value) : Obj.mapSeq (·.setIfInBounds j u) { cls := .type "list", data := .seq its.toArray n } = { cls := .type "list", data := .seq (its.set j u).toArray n } := by
  simp [Obj.mapSeq]
theorem Inv.lst {pins : List (Addr × Obj)} {σ : St} {H : Hp} {s : Shared} {p : Addr} {xs : List V} (I : Inv X pins σ H s) (h : H p = some (.lst xs)) :
    ∃ (its : List Value) (n : Nat), Vals xs its ∧ s.heap.get? p = some { cls := .type "list", data := .seq its.toArray n } ∧ xs.length ≤ sizeLine := by
  obtain ⟨z, its, n, r, e⟩ := I.hok p _ h
  exact ⟨its, n, r, e, z⟩
/-- the list at p is written by an update of its object -/
theorem Inv.lstUpd {pins : List (Addr × Obj)} {σ : St} {H : Hp} {s : Shared} {p : Addr} {xs ys : List V} {its its' : List Value} {n n' : Nat} {f : Obj → Obj} (I : Inv X pins σ H s) (h : H p = some (.lst xs))
    (ho : s.heap.get? p = some { cls := .type "list", data := .seq its.toArray n }) (hf : f { cls := .type "list", data := .seq its.toArray n } = { cls := .type "list", data := .seq its'.toArray n' }) (r : Vals ys its') (hz : ys.length ≤ sizeLine) (t : Nat) :
    Inv X pins σ (upd H p (.lst ys)) { s with heap := s.heap.update p f, toks := t } := by
  have e : (s.heap.update p f).get? p = some { cls := .type "list", data := .seq its'.toArray n' } := by
    rw [Heap.get?_update_self f ho (by rw [hf] <;> rfl), hf]
  refine I.write (x := p) (e := p) (by rw [h]; trivial) (.inl rfl) (fun b u hb q => (Heap.get?_update_other _ _ (Ne.symm hb)).trans q) ⟨_, e⟩ ?_
  exact ⟨hz, its', n', r, e⟩
def rSetL : V → V → V → Hp → (Hp → Prop) → Prop := fun o i v H Q => ∃ p xs k j, o = .ref p ∧ i = .int k ∧ H p = some (.lst xs) ∧ ixN xs.length k = some j ∧ Q (upd H p (.lst (xs.set j v)))
theorem set_list : PSet X rSetL := by
  intro pins s σ H o i v ov iv u Q I ro ri rv h
  obtain ⟨p, xs, k, j, rfl, rfl, hp, hj, q⟩ := h
  cases ro
  obtain ⟨t, rfl⟩ := ri
  obtain ⟨its, n, r, ho, hz⟩ := I.lst hp
  obtain ⟨h1, h2, h3, h4⟩ := ixN_seq hj
  have hl := r.length
  have hn := line63
  have I' : Inv X pins σ (upd H p (.lst (xs.set j v))) { s with heap := s.heap.update p (Obj.mapSeq (·.setIfInBounds j u)) } :=
    I.lstUpd hp ho (mapSeq_set its n j u) (r.set rv j) (by rw [List.length_set]; exact hz) s.toks
  by_cases h0 : 0 ≤ k
  · have hk : k.toNat = j := by
      rw [seqIndex_of h0 h4] at h1
      exact Option.some.inj h1
    exact PySem.W.ki_setAt ho h0 (by omega) (by rw [List.size_toArray, ← hl]; exact h4) (by rw [hk]; exact ⟨_, I', q⟩)
  · have hk : (k + (its.toArray.size : Int)).toNat = j := by
      rw [seqIndex_neg (by omega) h3] at h1
      rw [List.size_toArray, ← hl]
      exact Option.some.inj h1
    exact PySem.W.ki_setBack ho (by omega) (by rw [List.size_toArray, ← hl]; exact h3) (by omega) (by rw [hk]; exact ⟨_, I', q⟩)

/-! ### slices -/
theorem slice_bounds (lo hi : Option Int) (n : Nat) : (sliceBounds lo hi none n).1 = ((HT.sIx n 0 lo : Nat) : Int) ∧ (sliceBounds lo hi none n).2.1 = ((HT.sIx n n hi : Nat) : Int) ∧ (sliceBounds lo hi none n).2.2 = 1 := by
  refine ⟨?_, ?_, rfl⟩
  · cases lo with
    | none => simp [sliceBounds, HT.sIx]
    | some i =>
      simp only [sliceBounds, HT.sIx, Option.getD_none, show (1 : Int) > 0 by decide, if_true]
      by_cases h : i < 0
      · simp only [h, if_true] <;> omega
      · simp only [h, if_false] <;> omega
  · cases hi with
    | none => simp [sliceBounds, HT.sIx]
    | some i =>
      simp only [sliceBounds, HT.sIx, Option.getD_none, show (1 : Int) > 0 by decide, if_true]
      by_cases h : i < 0
      · simp only [h, if_true] <;> omega
      · simp only [h, if_false] <;> omega
theorem slicePick_cut (its : List Value) (lo hi : Option Int) : slicePick its.toArray lo hi none = ((its.drop (HT.sIx its.length 0 lo)).take (HT.sIx its.length its.length hi - HT.sIx its.length 0 lo)).toArray := by
  obtain ⟨h1, h2, h3⟩ := slice_bounds lo hi its.toArray.size
  unfold slicePick
  rw [h1, h2, h3]
  simp only [sliceRange_one, pick_run, List.size_toArray] <;> rfl
/-- xs[lo:hi] of a list: a new list -/
def rSlL (K : PySem.W.Frag) : V → Option Int → Option Int → Hp → VK → Prop := fun x lo hi H Q => ∃ a xs, x = .ref a ∧ SqL K H a xs ∧ ∀ p, H p = none → Q (.ref p) (upd H p (.lst (cutV xs lo hi)))
theorem sl_list : SlR X (rSlL X.K) := by
  intro pins s σ H x v vl vu lo hi sl Q I rx hs pl pu h
  obtain ⟨a, xs, rfl, hx, q⟩ := h
  cases rx
  obtain ⟨its, r, ht, hz⟩ := I.list hx
  have hlen := r.length
  refine ⟨"list", _, slot_list_getitem.lookup, ht.isList.typeIs, ?_⟩
  refine wpAny_getItem_list_slice ht.isList hs pl pu .none (by simp) ?_ (by rw [List.size_toArray] <;> omega)
  rw [slicePick_cut, ← hlen]
  refine ⟨.ref s.heap.objs.size, _, I.laid (t' := s.toks) (o := .lst (cutV xs lo hi)) (fun b ob q => Heap.get?_push_of_some _ q) (Nat.le_refl _) ?_, rfl, q _ (I.hok.fresh (Nat.le_refl _))⟩
  exact ⟨Nat.le_trans (cutV_length xs lo hi) hz, _, 0, (r.drop (HT.sIx xs.length 0 lo)).take (HT.sIx xs.length xs.length hi - HT.sIx xs.length 0 lo), Heap.get?_push_size _ rfl⟩

/-! ### in, not in: flat items -/
def flatV : V → Bool
  | .non => true
  | .bl _ => true
  | .int _ => true
  | .str _ => true
  | _ => false
/-- == of flat values -/
def eqV : V → V → Bool
  | .non, .non => true
  | .bl a, .bl b => a == b
  | .bl a, .int b => (if a then 1 else 0) == b
  | .int a, .bl b => a == (if b then 1 else 0)
  | .int a, .int b => a == b
  | .str a, .str b => a == b
  | _, _ => false
theorem eqAt_V {A : Around} {s : Shared} {y x : V} {u v : Value} (ry : RelV y u) (rx : RelV x v) (fy : flatV y = true) (fx : flatV x = true) : SeqAt.EqAt A s u v (eqV y x) := by
  cases y with
  | non =>
    cases ry
    cases x with
    | non => cases rx; exact SeqAt.EqAt.same _
    | bl b => cases rx; exact SeqAt.EqAt.none_bool b
    | int b => obtain ⟨t, rfl⟩ := rx; exact SeqAt.EqAt.none_int b t
    | str b => obtain ⟨t, rfl⟩ := rx; exact SeqAt.EqAt.none_str b t
    | _ => exact absurd (show false = true from fx) Bool.false_ne_true
  | bl a =>
    cases ry
    cases x with
    | non => cases rx; exact SeqAt.EqAt.bool_none a
    | bl b => cases rx; exact SeqAt.EqAt.bool_bool a b
    | int b => obtain ⟨t, rfl⟩ := rx; exact SeqAt.EqAt.bool_int a b t
    | str b => obtain ⟨t, rfl⟩ := rx; exact SeqAt.EqAt.bool_str a b t
    | _ => exact absurd (show false = true from fx) Bool.false_ne_true
  | int a =>
    obtain ⟨t', rfl⟩ := ry
    cases x with
    | non => cases rx; exact SeqAt.EqAt.int_none a t'
    | bl b => cases rx; exact SeqAt.EqAt.int_bool a t' b
    | int b => obtain ⟨t, rfl⟩ := rx; exact SeqAt.EqAt.int_int a t' b t
    | str b => obtain ⟨t, rfl⟩ := rx; exact SeqAt.EqAt.int_str a t' b t
    | _ => exact absurd (show false = true from fx) Bool.false_ne_true
  | str a =>
    obtain ⟨t', rfl⟩ := ry
    cases x with
    | non => cases rx; exact SeqAt.EqAt.str_none a t'
    | bl b => cases rx; exact SeqAt.EqAt.str_bool a t' b
    | int b => obtain ⟨t, rfl⟩ := rx; exact SeqAt.EqAt.str_int a t' b t
    | str b => obtain ⟨t, rfl⟩ := rx; exact SeqAt.EqAt.str_str a t' b t
    | _ => exact absurd (show false = true from fx) Bool.false_ne_true
  | _ => exact absurd (show false = true from fy) Bool.false_ne_true
/-- the items' answers, read off the values (a value's own answer does not lean on its token) -/
def eqU (x : V) (u : Value) : Bool := match u with
  | .none => eqV .non x
  | .bool b => eqV (.bl b) x
  | .int i _ => eqV (.int i) x
  | .str z _ => eqV (.str z) x
  | _ => false
theorem eqU_of {x y : V} {u : Value} (r : RelV y u) (f : flatV y = true) : eqU x u = eqV y x := by
  cases y with
  | non => cases r; rfl
  | bl b => cases r; rfl
  | int i => obtain ⟨t, rfl⟩ := r; rfl
  | str z => obtain ⟨t, rfl⟩ := r; rfl
  | _ => exact absurd (show false = true from f) Bool.false_ne_true
theorem any_eqU {x : V} : ∀ {xs : List V} {us : List Value}, Vals xs us → xs.all flatV = true → us.any (eqU x) = xs.any fun y => eqV y x
  | _, _, .nil, _ => rfl
  | y :: xs, u :: us, .cons r t, f => by
    rw [List.all_cons, Bool.and_eq_true] at f
    rw [List.any_cons, List.any_cons, eqU_of r f.1, any_eqU t f.2]
theorem mem_eqAt {A : Around} {s : Shared} {x : V} {v : Value} (rx : RelV x v) (fx : flatV x = true) : ∀ {xs : List V} {us : List Value}, Vals xs us → xs.all flatV = true → ∀ u ∈ us, SeqAt.EqAt A s u v (eqU x u)
  | _, _, .nil, _ => fun u hu => by cases hu
  | y :: xs, u :: us, .cons r t, f => fun u' hu => by
    rw [List.all_cons, Bool.and_eq_true] at f
    rcases List.mem_cons.mp hu with rfl | hu
    · rw [eqU_of r f.1]; exact eqAt_V r rx f.1 fx
    · exact mem_eqAt rx fx t f.2 u' hu
def inV (x : V) (xs : List V) : Bool := xs.any fun y => eqV y x
/-- x in a list or tuple of flat items -/
def rIn (K : PySem.W.Frag) (neg : Bool) : R2 := fun x y H Q => ∃ p xs, y = .ref p ∧ (SqL K H p xs ∨ SqT K H p xs) ∧ flatV x = true ∧ xs.all flatV = true ∧ Q (.bl (if neg then !inV x xs else inV x xs)) H
theorem op_in_seq : OpR X (compareOp .In) (rIn X.K false) := by
  intro pins s σ H x y v u Q I rx ry h
  obtain ⟨p, xs, rfl, hq, fx, fs, q⟩ := h
  cases ry
  rcases hq with hq | hq
  · obtain ⟨its, r, pl, hz⟩ := I.list hq
    refine SeqAt.in_listAt (eqU x) pl.isList (fun w hw => mem_eqAt rx fx r fs w (by simpa using hw)) ⟨.bl _, H, I, rfl, ?_⟩
    rw [show its.toArray.any (eqU x) = its.any (eqU x) by simp, any_eqU r fs]
    exact q
  · obtain ⟨its, r, pl, hz⟩ := I.tuple hq
    refine SeqAt.in_tupleAt (eqU x) pl (fun w hw => mem_eqAt rx fx r fs w (by simpa using hw)) ⟨.bl _, H, I, rfl, ?_⟩
    rw [show its.toArray.any (eqU x) = its.any (eqU x) by simp, any_eqU r fs]
    exact q
theorem op_notIn_seq : OpR X (compareOp .NotIn) (rIn X.K true) := by
  intro pins s σ H x y v u Q I rx ry h
  obtain ⟨p, xs, rfl, hq, fx, fs, q⟩ := h
  cases ry
  rcases hq with hq | hq
  · obtain ⟨its, r, pl, hz⟩ := I.list hq
    refine SeqAt.notIn_listAt (eqU x) pl.isList (fun w hw => mem_eqAt rx fx r fs w (by simpa using hw)) ⟨.bl _, H, I, rfl, ?_⟩
    rw [show its.toArray.any (eqU x) = its.any (eqU x) by simp, any_eqU r fs]
    exact q
  · obtain ⟨its, r, pl, hz⟩ := I.tuple hq
    refine SeqAt.notIn_tupleAt (eqU x) pl (fun w hw => mem_eqAt rx fx r fs w (by simpa using hw)) ⟨.bl _, H, I, rfl, ?_⟩
    rw [show its.toArray.any (eqU x) = its.any (eqU x) by simp, any_eqU r fs]
    exact q
theorem op_notIn_str : OpR X (compareOp .NotIn) (fun x y H Q => ∃ i j, x = .str i ∧ y = .str j ∧ Q (.bl (!(!(Builtin.Str.occurrences j i 0 j.length 1).isEmpty))) H) := by
  intro pins s σ H x y v u Q I rx ry h
  obtain ⟨i, j, rfl, rfl, q⟩ := h
  obtain ⟨t, rfl⟩ := rx
  obtain ⟨t', rfl⟩ := ry
  exact notIn_str ⟨.bl _, H, I, rfl, q⟩

/-! ### len, list(x), tuple(x) of any list or tuple that is read -/
theorem call_len_seq : CallR X (.builtin "len") (fun xs H Q => ∃ p ys, xs = [.ref p] ∧ (SqL X.K H p ys ∨ SqT X.K H p ys) ∧ Q (.int ys.length) H) := by
  intro pins s σ H xs us Q I r h
  obtain ⟨p, ys, rfl, hq, q⟩ := h
  obtain ⟨u, rfl, rx⟩ := vals1 r
  cases rx
  have hn := line63
  rcases hq with hq | hq
  · obtain ⟨its, r', pl, hz⟩ := I.list hq
    have hlen := r'.length
    exact Calls.call_len_list pl.isList (by simp only [List.size_toArray] <;> omega) ⟨.int ys.length, H, I.tok _, ⟨s.toks + 1, by rw [List.size_toArray, hlen]⟩, q⟩
  · obtain ⟨its, r', pl, hz⟩ := I.tuple hq
    have hlen := r'.length
    exact len_tuple pl (by simp only [List.size_toArray] <;> omega) ⟨.int ys.length, H, I.tok _, ⟨s.toks + 1, by rw [List.size_toArray, hlen]⟩, q⟩
theorem call_len_str : CallR X (.builtin "len") (fun xs H Q => ∃ z, xs = [.str z] ∧ z.length ≤ sizeLine ∧ Q (.int z.length) H) := by
  intro pins s σ H xs us Q I r h
  obtain ⟨z, rfl, hz, q⟩ := h
  obtain ⟨u, rfl, t, rfl⟩ := vals1 r
  have hn := line63
  exact len_str (by omega) ⟨.int z.length, H, I.tok _, ⟨_, rfl⟩, q⟩
theorem CallR.or {f : Value} {r r' : List V → Hp → VK → Prop} (h : CallR X f r) (h' : CallR X f r') : CallR X f (fun xs H Q => r xs H Q ∨ r' xs H Q) := by
  intro pins s σ H xs us Q I rs q
  rcases q with q | q
  · exact h pins s σ H xs us Q I rs q
  · exact h' pins s σ H xs us Q I rs q
theorem call_list_of : CallR X (.type "list") (fun xs H Q => ∃ p ys, xs = [.ref p] ∧ (SqL X.K H p ys ∨ SqT X.K H p ys) ∧ ∀ l, H l = none → Q (.ref l) (upd H l (.lst ys))) := by
  intro pins s σ H xs us Q I r h
  obtain ⟨p, ys, rfl, hq, q⟩ := h
  obtain ⟨u, rfl, rx⟩ := vals1 r
  cases rx
  have fin : ∀ (its : List Value), Vals ys its → ys.length ≤ sizeLine → ∀ (h' : Heap) (c' : Nat), (∀ b o', s.heap.get? b = some o' → h'.get? b = some o') →
      h'.get? s.heap.objs.size = some { cls := .type "list", dict := none, data := .seq its.toArray c', slots := #[] } → EP X pins σ Q (.ref s.heap.objs.size) { s with heap := h' } := fun its r' hz h' c' kp e =>
    ⟨.ref s.heap.objs.size, _, I.laid (t' := s.toks) kp (Nat.le_refl _) (show ObjOk X.prog X.w _ h' _ (.lst ys) from ⟨hz, its, c', r', e⟩), rfl, q _ (I.hok.fresh (Nat.le_refl _))⟩
  rcases hq with hq | hq
  · obtain ⟨its, r', pl, hz⟩ := I.list hq
    have hlen := r'.length
    obtain ⟨o, ho, hc, n, hd⟩ := pl.isList
    exact call_list_seq p (.inl rfl) ho hc hd (fun h' c' kp e => fin its r' hz h' c' kp e) (by simp only [List.size_toArray] <;> omega)
  · obtain ⟨its, r', pl, hz⟩ := I.tuple hq
    have hlen := r'.length
    obtain ⟨o, ho, hc, n, hd⟩ := pl
    exact call_list_seq p (.inr rfl) ho hc hd (fun h' c' kp e => fin its r' hz h' c' kp e) (by simp only [List.size_toArray] <;> omega)
theorem call_tuple_of : CallR X (.type "tuple") (fun xs H Q => ∃ p ys, xs = [.ref p] ∧ ((SqL X.K H p ys ∧ ∀ l, H l = none → Q (.ref l) (upd H l (.tup ys))) ∨ (SqT X.K H p ys ∧ Q (.ref p) H))) := by
  intro pins s σ H xs us Q I r h
  obtain ⟨p, ys, rfl, h⟩ := h
  obtain ⟨u, rfl, rx⟩ := vals1 r
  cases rx
  rcases h with ⟨hq, q⟩ | ⟨hq, q⟩
  · obtain ⟨its, r', pl, hz⟩ := I.list hq
    have hlen := r'.length
    refine call_tuple_list pl.isList (fun h' kp => ?_) (by simp only [List.size_toArray] <;> omega)
    have I1 : Inv X pins σ H { s with heap := h' } := I.kept (t' := s.toks) kp
    have I2 : Inv X pins σ (upd H h'.objs.size (.tup ys)) { s with heap := h'.push { cls := .type "tuple", data := .seq its.toArray } } :=
      I1.laid (t' := s.toks) (fun b o e => Heap.get?_push_of_some _ e) (Nat.le_refl _) (show ObjOk X.prog X.w _ _ _ (.tup ys) from ⟨hz, its, r', IsTup.new _ _⟩)
    exact ⟨.ref h'.objs.size, _, I2, rfl, q _ (I1.hok.fresh (Nat.le_refl _))⟩
  · obtain ⟨its, r', pl, hz⟩ := I.tuple hq
    exact call_tuple_same pl ⟨.ref p, H, I, rfl, q⟩

/-! ### the call of a builtin's method: o.m(..) -/
/-- the value is of that builtin type -/
def tyV (K : PySem.W.Frag) (T : String) (x : V) (H : Hp) : Prop := match x with
  | .str _ => T = "str"
  | .int _ => T = "int"
  | .ref p => (T = "list" ∧ ∃ xs, SqL K H p xs) ∨ (T = "tuple" ∧ ∃ o, K.lookup p = some o ∧ o.cls = .type "tuple" ∧ o.dict = none) ∨
      (T = "dict" ∧ ((∃ kvs, H p = some (.dK kvs)) ∨ ∃ kvs, H p = some (.dT kvs))) ∨ (T = "set" ∧ ∃ S n, H p = some (.set S n))
  | _ => False
theorem tyV_is {pins : List (Addr × Obj)} {σ : St} {H : Hp} {s : Shared} {T : String} {x : V} {v : Value} (I : Inv X pins σ H s) (r : RelV x v) (ty : tyV X.K T x H) :
    s.TypeIs v T ∧ ∀ a, v = .ref a → ∃ ob, s.heap.get? a = some ob ∧ ob.dict = none := by
  cases x with
  | str z =>
    obtain ⟨t, rfl⟩ := r
    cases (show T = "str" from ty)
    exact ⟨typeIs_str s z t, fun _ e => nomatch e⟩
  | int i =>
    obtain ⟨t, rfl⟩ := r
    cases (show T = "int" from ty)
    exact ⟨typeIs_int s i t, fun _ e => nomatch e⟩
  | ref p =>
    cases r
    rcases ty with ⟨rfl, xs, hq⟩ | ⟨rfl, o, hk, hc, hd⟩ | ⟨rfl, hk⟩ | ⟨rfl, S, n, hk⟩
    · obtain ⟨its, _, pl, _⟩ := I.list hq
      refine ⟨pl.isList.typeIs, fun a e => ?_⟩
      cases e
      obtain ⟨o, n, e, c, hd, _⟩ := pl
      exact ⟨o, e, hd⟩
    · refine ⟨⟨o, I.kIn p o hk, hc⟩, fun a e => ?_⟩
      cases e
      exact ⟨o, I.kIn _ o hk, hd⟩
    · have z : ∃ o, s.heap.get? p = some o ∧ o.ExactDict := by
        rcases hk with ⟨kvs, hk⟩ | ⟨kvs, hk⟩
        · obtain ⟨_, _, _, _, o, _, _, e, ex, _⟩ := I.hok p _ hk
          exact ⟨o, e, ex⟩
        · obtain ⟨_, _, _, _, o, _, _, e, ex, _⟩ := I.hok p _ hk
          exact ⟨o, e, ex⟩
      obtain ⟨o, e, ex⟩ := z
      refine ⟨⟨o, e, ex.1⟩, fun a e2 => ?_⟩
      cases e2
      exact ⟨o, e, ex.2.1⟩
    · obtain ⟨o, _, _, _, e, ex, _⟩ := I.hok p _ hk
      refine ⟨⟨o, e, ex.1⟩, fun a e2 => ?_⟩
      cases e2
      exact ⟨o, e, ex.2.1⟩
  | _ => exact False.elim ty
def tBM0 (K : PySem.W.Frag) (T : String) (r : V → List V → Hp → VK → Prop) (to : TE) : TE := fun σ H Q => to σ H fun x H1 => tyV K T x H1 ∧ r x [] H1 Q
def tBM (K : PySem.W.Frag) (T : String) (r : V → List V → Hp → VK → Prop) (to : TE) (t : TA) : TE := fun σ H Q => to σ H fun x H1 => tyV K T x H1 ∧ t σ H1 fun xs H2 => r x xs H2 Q
variable {o e : Expr} {es : List Expr} {to : TE} {t : TA} {name : Str} {apos cpos : Pos} {T id : String} {r : V → List V → Hp → VK → Prop}
theorem pe_bm0 (pa : PlainAttrs T) (slot : Slot T name id) (hty : typeOf (.builtin id) = pure (.type "method_descriptor")) (hm : MtR X id r) (ho : PE X o to)
    (hbase : attributeBase o name X.env (eval o X.env) = eval o X.env := by rfl) (hline : (apos.endLine == cpos.line) = true := by rfl) : PE X (.Call (.Attribute o name apos) [] [] cpos) (tBM0 X.K T r to) := by
  intro pins s σ H Q I h
  refine wpAny_Call_method0_late hbase hline (thn (ho pins s σ H _ I h) fun v s1 ⟨x, H1, I1, r1, ty, q1⟩ => ?_)
  obtain ⟨h1, h2⟩ := tyV_is I1 r1 ty
  exact ⟨T, id, pa, slot, hty, h1, h2, Calls.callWith_builtin rfl (PySem.evalArgs_none (hm pins s1 σ H1 x [] v [] Q I1 r1 .nil q1))⟩
theorem pe_bm (pa : PlainAttrs T) (slot : Slot T name id) (hty : typeOf (.builtin id) = pure (.type "method_descriptor")) (hm : MtR X id r) (ho : PE X o to) (ha : PA X (e :: es) t)
    (hbase : attributeBase o name X.env (eval o X.env) = eval o X.env := by rfl)
    (hfew : ((backTo cpos (starEach (e :: es) X.env)).all (fun x => !x.1) && (backToKw cpos (keywordEach [] X.env)).all (fun x => x.1.isSome)
      && decide ((e :: es).length + ([] : List Keyword).length + (if ([] : List Keyword).isEmpty then 0 else 1) < 30)) = true := by rfl)
    (hline : (apos.endLine == cpos.line) = true := by rfl) (hs : starEach (e :: es) X.env = (false, eval e X.env) :: starEach es X.env := by rfl) (hplain : (backTo cpos (starEach es X.env)).any (·.1) = false := by rfl) :
    PE X (.Call (.Attribute o name apos) (e :: es) [] cpos) (tBM X.K T r to t) := by
  intro pins s σ H Q I h
  refine wpAny_Call_method_late hbase hfew hline rfl (thn (ho pins s σ H _ I h) fun v s1 ⟨x, H1, I1, r1, ty, q1⟩ => ?_)
  obtain ⟨h1, h2⟩ := tyV_is I1 r1 ty
  refine ⟨T, id, pa, slot, hty, h1, h2, ?_⟩
  have hA := ha cpos pins s1 σ H1 _ I1 q1
  rw [hs] at hA ⊢
  refine Calls.callWith_builtin (by show (false || (backTo cpos (starEach es X.env)).any (·.1)) = false; rw [hplain] <;> rfl) (Calls.evalArgs_plain ?_)
  exact thn hA fun us s2 ⟨vs, H2, I2, r2, q2⟩ => hm pins s2 σ H2 x vs v us Q I2 r1 r2 q2
/- xs.append(e), list.index on a module's tuple .. are MtR facts of 06m -/
end
end L2

namespace L2
open PySem PySem.Spec PyProof.Rows

def MtM (X : Cx) (id : String) (r : V → List V → Hp → VK → Prop) : Prop :=
  ∀ (pins : List (Addr × Obj)) (s : Shared) (σ : St) (H : Hp) (x : V) (xs : List V) (v : Value) (us : List Value) (Q : VK), Inv X pins σ H s → RelV x v → Vals xs us → r x xs H Q →
    wpAny (model X.prog X.w) X.A (call (.builtin id) (v :: us)) (EP X pins σ Q) X.xe s

/-! ### lists of values -/
theorem Vals.one : ∀ {x : V} {us : List Value}, Vals [x] us → ∃ u, us = [u] ∧ RelV x u
  | _, _, .cons r .nil => ⟨_, rfl, r⟩
theorem Vals.two : ∀ {x y : V} {us : List Value}, Vals [x, y] us → ∃ u v, us = [u, v] ∧ RelV x u ∧ RelV y v
  | _, _, _, .cons r (.cons q .nil) => ⟨_, _, rfl, r, q⟩
theorem Vals.zero : ∀ {us : List Value}, Vals [] us → us = []
  | _, .nil => rfl
theorem Vals.dropLast {xs : List V} {us : List Value} (h : Vals xs us) : Vals xs.dropLast us.dropLast := by
  induction h with
  | nil => exact .nil
  | cons r t ih =>
    cases t with
    | nil => exact .nil
    | cons q t' => exact .cons r ih
theorem Vals.eraseIdx : ∀ {xs : List V} {us : List Value} (i : Nat), Vals xs us → Vals (xs.eraseIdx i) (us.eraseIdx i)
  | _, _, _, .nil => .nil
  | _, _, 0, .cons _ t => t
  | _, _, i + 1, .cons r t => .cons r (Vals.eraseIdx i t)
theorem Vals.reverse {xs : List V} {us : List Value} (h : Vals xs us) : Vals xs.reverse us.reverse := by
  induction h with
  | nil => exact .nil
  | cons r t ih => rw [List.reverse_cons, List.reverse_cons]; exact Vals.append ih (.cons r .nil)
theorem Vals.rep {xs : List V} {us : List Value} (h : Vals xs us) : ∀ k : Nat, Vals (List.replicate k xs).flatten (List.replicate k us).flatten
  | 0 => .nil
  | k + 1 => by
    rw [List.replicate_succ, List.replicate_succ, List.flatten_cons, List.flatten_cons]
    exact Vals.append h (Vals.rep h k)
theorem erase_last {α : Type} (l : List α) : l.eraseIdx (l.length - 1) = l.dropLast := by
  induction l with
  | nil => rfl
  | cons a r ih =>
    cases r with
    | nil => rfl
    | cons b r =>
      have e : (a :: b :: r).length - 1 = ((b :: r).length - 1) + 1 := by
        have h1 : (a :: b :: r).length = r.length + 2 := rfl
        have h2 : (b :: r).length = r.length + 1 := rfl
        omega
      rw [e, List.eraseIdx_cons_succ, ih]
      all_goals rfl
theorem len_erase {α : Type} : ∀ (l : List α) (i : Nat), (l.eraseIdx i).length ≤ l.length
  | [], _ => Nat.le_refl _
  | _ :: _, 0 => Nat.le_succ _
  | _ :: r, i + 1 => Nat.succ_le_succ (len_erase r i)
theorem foldl_rep (its : List Value) : ∀ (k : Nat) (acc : List Value),
    List.foldl (fun x1 x2 => x1 ++ x2) acc.toArray (List.replicate k its.toArray) = (acc ++ (List.replicate k its).flatten).toArray
  | 0, acc => by simp
  | k + 1, acc => by
    have e : acc.toArray ++ its.toArray = (acc ++ its).toArray := by simp
    have e2 : (acc ++ its) ++ (List.replicate k its).flatten = acc ++ (List.replicate (k + 1) its).flatten := by
      rw [List.replicate_succ, List.flatten_cons, List.append_assoc]
    rw [← e2, ← foldl_rep its k (acc ++ its), ← e, List.replicate_succ, List.foldl_cons]

section
variable {X : Cx} {pins : List (Addr × Obj)} {σ : St} {H : Hp} {s : Shared} {l b : Addr} {xs ys zs : List V}

/-! ### the two steps: a tracked list is rewritten, a new list is laid -/
theorem Inv.lset {its its' : List Value} {n : Nat} {f : Array Value → Array Value} {t' : Nat} (I : Inv X pins σ H s) (hH : H l = some (.lst xs))
    (e : s.heap.get? l = some { cls := .type "list", data := .seq its.toArray n }) (hf : f its.toArray = its'.toArray) (hv : Vals ys its') (hz : ys.length ≤ sizeLine) :
    Inv X pins σ (upd H l (.lst ys)) { s with heap := s.heap.update l (Obj.mapSeq f), toks := t' } := by
  have q := PySem.IsL.update e f
  rw [hf] at q
  refine I.write (x := l) (e := l) (by rw [hH]; exact trivial) (.inl rfl) (fun b' u hb hu => (Heap.get?_update_other s.heap (Obj.mapSeq f) (Ne.symm hb)).trans hu) ⟨_, q⟩ ?_
  exact ⟨hz, its', _, hv, q⟩
theorem Inv.lnew {its : List Value} {t' : Nat} (I : Inv X pins σ H s) (hv : Vals ys its) (hz : ys.length ≤ sizeLine) :
    Inv X pins σ (upd H s.heap.objs.size (.lst ys)) { s with heap := s.heap.push { cls := .type "list", data := .seq its.toArray }, toks := t' } :=
  I.laid (fun _ _ q => Heap.get?_push_of_some _ q) (Nat.le_refl _) ⟨hz, its, 0, hv, Heap.get?_push_size _ rfl⟩
theorem Inv.fresh (I : Inv X pins σ H s) : H s.heap.objs.size = none := I.hok.fresh (Nat.le_refl _)
theorem Inv.lstM (I : Inv X pins σ H s) (hH : H l = some (.lst xs)) : xs.length ≤ sizeLine ∧ ∃ (its : List Value) (n : Nat), Vals xs its ∧ xs.length = its.length ∧ s.heap.get? l = some { cls := .type "list", data := .seq its.toArray n } := by
  obtain ⟨z, its, n, r, e⟩ := I.hok l _ hH
  exact ⟨z, its, n, r, r.length, e⟩

theorem notLongL {n : Nat} (h : n ≤ sizeLine) : Builtin.List.listTooLong n = false := by
  unfold Builtin.List.listTooLong
  exact decide_eq_false (by omega)
end

section
variable {X : Cx}

/-! ### methods -/
def rAppend : V → List V → Hp → VK → Prop := fun x vs H Q => ∃ l xs y, x = .ref l ∧ vs = [y] ∧ H l = some (.lst xs) ∧ xs.length < sizeLine ∧ Q .non (upd H l (.lst (xs ++ [y])))
theorem mt_append : MtM X "list.append" rAppend := by
  intro pins s σ H x vs v us Q I rx rv h
  obtain ⟨l, xs, y, rfl, rfl, hH, hz, q⟩ := h
  cases rx
  obtain ⟨u, rfl, ru⟩ := rv.one
  obtain ⟨z, its, n, r, hl, e⟩ := I.lstM hH
  refine call_meets F.slot_list_append ⟨_, e, rfl⟩ F.entry_list_append (F.args_list_append_2 _ _) (PySem.list_append l its.toArray n u (by rw [List.size_toArray]; omega)) ⟨e, ?_⟩
  refine ⟨.non, _, I.lset (its' := its ++ [u]) hH e (by simp) (r.append (.cons ru .nil)) ?_, rfl, q⟩
  rw [List.length_append, List.length_singleton]
  omega

def rExtend : V → List V → Hp → VK → Prop := fun x vs H Q => ∃ l b xs zs, x = .ref l ∧ vs = [.ref b] ∧ H l = some (.lst xs) ∧ H b = some (.lst zs) ∧ xs.length + zs.length ≤ sizeLine ∧ Q .non (upd H l (.lst (xs ++ zs)))
theorem mt_extend : MtM X "list.extend" rExtend := by
  intro pins s σ H x vs v us Q I rx rv h
  obtain ⟨l, b, xs, zs, rfl, rfl, hH, hB, hz, q⟩ := h
  cases rx
  obtain ⟨u, rfl, ru⟩ := rv.one
  cases ru
  obtain ⟨z, its, n, r, hl, e⟩ := I.lstM hH
  obtain ⟨z2, its2, n2, r2, hl2, e2⟩ := I.lstM hB
  have hsz : its.toArray.size + its2.toArray.size ≤ sizeLine := by rw [List.size_toArray, List.size_toArray]; omega
  have hlong : ¬ (!its.toArray.isEmpty && Builtin.List.listTooLong (its.toArray.size + its2.toArray.size)) = true := by
    rw [notLongL hsz, Bool.and_false]
    exact Bool.false_ne_true
  refine call_meets F.slot_list_extend ⟨_, e, rfl⟩ F.entry_list_extend (F.args_list_extend_2 _ _)
    (AutoSeq1.list_extend_list_list_0 l its.toArray n b its2.toArray n2 hlong (by rw [List.size_toArray]; omega) (by omega)) ⟨e, e2, ?_⟩
  refine ⟨.non, _, I.lset (its' := its ++ its2) hH e (by simp) (r.append r2) ?_, rfl, q⟩
  rw [List.length_append]
  omega

def rPop : V → List V → Hp → VK → Prop := fun x vs H Q => ∃ l xs y, x = .ref l ∧ vs = [] ∧ H l = some (.lst xs) ∧ xs[xs.length - 1]? = some y ∧ Q y (upd H l (.lst xs.dropLast))
theorem mt_pop : MtM X "list.pop" rPop := by
  intro pins s σ H x vs v us Q I rx rv h
  obtain ⟨l, xs, y, rfl, rfl, hH, hy, q⟩ := h
  cases rx
  have hus := rv.zero
  subst hus
  obtain ⟨z, its, n, r, hl, e⟩ := I.lstM hH
  obtain ⟨u, hu, ru⟩ := r.get hy
  have hy' : its.toArray[its.toArray.size - 1]? = some u := by
    show its.toArray[its.length - 1]? = some u
    rw [← Array.getElem?_toList, ← hl]
    exact hu
  refine call_meets F.slot_list_pop ⟨_, e, rfl⟩ F.entry_list_pop (F.args_list_pop_1 _) (MeetsSeq.list_pop_last l its.toArray n u hy' (by rw [List.size_toArray]; omega)) ⟨e, ?_⟩
  refine ⟨y, _, I.lset (its' := its.dropLast) hH e ?_ r.dropLast ?_, ru, q⟩
  · show its.toArray.eraseIdxIfInBounds (its.toArray.size - 1) = its.dropLast.toArray
    rw [List.size_toArray, List.eraseIdxIfInBounds_toArray, erase_last]
  · rw [List.length_dropLast]
    omega

def rPopAt : V → List V → Hp → VK → Prop := fun x vs H Q => ∃ l xs i k y, x = .ref l ∧ vs = [.int i] ∧ H l = some (.lst xs) ∧ -(2 ^ 63) ≤ i ∧ i < 2 ^ 63 ∧ seqIndex? i xs.length = some k ∧ xs[k]? = some y ∧ Q y (upd H l (.lst (xs.eraseIdx k)))
theorem mt_popAt : MtM X "list.pop" rPopAt := by
  intro pins s σ H x vs v us Q I rx rv h
  obtain ⟨l, xs, i, k, y, rfl, rfl, hH, h1, h2, hk, hy, q⟩ := h
  cases rx
  obtain ⟨u, rfl, ru⟩ := rv.one
  obtain ⟨t, rfl⟩ := ru
  obtain ⟨z, its, n, r, hl, e⟩ := I.lstM hH
  obtain ⟨w, hw, rw'⟩ := r.get hy
  refine call_meets F.slot_list_pop ⟨_, e, rfl⟩ F.entry_list_pop (F.args_list_pop_2 _ _)
    (MeetsSeq.list_pop_at l its.toArray n i t k w (fitsIndex_both h1 h2) (by rw [List.size_toArray, ← hl]; exact hk) (by rw [← Array.getElem?_toList]; exact hw) (by rw [List.size_toArray]; omega)) ⟨e, ?_⟩
  refine ⟨y, _, I.lset (its' := its.eraseIdx k) hH e ?_ (r.eraseIdx k) ?_, rw', q⟩
  · show its.toArray.eraseIdxIfInBounds k = (its.eraseIdx k).toArray
    rw [List.eraseIdxIfInBounds_toArray]
  · have := len_erase xs k
    omega

def rReverse : V → List V → Hp → VK → Prop := fun x vs H Q => ∃ l xs, x = .ref l ∧ vs = [] ∧ H l = some (.lst xs) ∧ Q .non (upd H l (.lst xs.reverse))
theorem mt_reverse : MtM X "list.reverse" rReverse := by
  intro pins s σ H x vs v us Q I rx rv h
  obtain ⟨l, xs, rfl, rfl, hH, q⟩ := h
  cases rx
  have hus := rv.zero
  subst hus
  obtain ⟨z, its, n, r, hl, e⟩ := I.lstM hH
  refine call_meets F.slot_list_reverse ⟨_, e, rfl⟩ F.entry_list_reverse (F.args_list_reverse_1 _) (AutoSeq1.list_reverse_list_0 l its.toArray n (by rw [List.size_toArray]; omega)) ⟨e, ?_⟩
  refine ⟨.non, _, I.lset (its' := its.reverse) hH e (by simp) r.reverse ?_, rfl, q⟩
  rw [List.length_reverse]
  omega

def rClear : V → List V → Hp → VK → Prop := fun x vs H Q => ∃ l xs, x = .ref l ∧ vs = [] ∧ H l = some (.lst xs) ∧ Q .non (upd H l (.lst []))
theorem mt_clear : MtM X "list.clear" rClear := by
  intro pins s σ H x vs v us Q I rx rv h
  obtain ⟨l, xs, rfl, rfl, hH, q⟩ := h
  cases rx
  have hus := rv.zero
  subst hus
  obtain ⟨z, its, n, r, hl, e⟩ := I.lstM hH
  refine call_meets F.slot_list_clear ⟨_, e, rfl⟩ F.entry_list_clear (F.args_list_clear_1 _) (AutoSeq1.list_clear_list_0 l its.toArray n (by rw [List.size_toArray]; omega)) ⟨e, ?_⟩
  exact ⟨.non, _, I.lset (its' := []) (ys := []) hH e rfl .nil (Nat.zero_le _), rfl, q⟩

/-! ### list + list, list += list, list * int -/
def rCat : R2 := fun x y H Q => ∃ l b xs zs, x = .ref l ∧ y = .ref b ∧ H l = some (.lst xs) ∧ H b = some (.lst zs) ∧ xs.length + zs.length ≤ sizeLine ∧ ∀ p, H p = none → Q (.ref p) (upd H p (.lst (xs ++ zs)))
theorem op_cat : OpR X (binaryOp .Add) rCat := by
  intro pins s σ H x y v u Q I rx ry h
  obtain ⟨l, b, xs, zs, rfl, rfl, hH, hB, hz, q⟩ := h
  cases rx
  cases ry
  obtain ⟨z, its, n, r, hl, e⟩ := I.lstM hH
  obtain ⟨z2, its2, n2, r2, hl2, e2⟩ := I.lstM hB
  refine PySem.P.add_list e e2 ?_ (by rw [List.size_toArray, List.size_toArray]; omega)
  have ea : its.toArray ++ its2.toArray = (its ++ its2).toArray := by simp
  rw [ea]
  exact ⟨.ref _, _, I.lnew (t' := s.toks) (r.append r2) (by rw [List.length_append]; omega), rfl, q _ I.fresh⟩
/-- a list times an int (a negative one is nothing) -/
def rRep : R2 := fun x y H Q => ∃ l k xs, x = .ref l ∧ y = .int k ∧ H l = some (.lst xs) ∧ -(2 ^ 63) ≤ k ∧ k < 2 ^ 63 ∧ xs.length * k.toNat ≤ sizeLine ∧
  ∀ p, H p = none → Q (.ref p) (upd H p (.lst (List.replicate k.toNat xs).flatten))
theorem len_rep {α : Type} (xs : List α) (k : Nat) : (List.replicate k xs).flatten.length = k * xs.length := by
  induction k with
  | zero => simp
  | succ k ih => rw [List.replicate_succ, List.flatten_cons, List.length_append, ih, Nat.succ_mul, Nat.add_comm]
theorem op_rep : OpR X (binaryOp .Mult) rRep := by
  intro pins s σ H x y v u Q I rx ry h
  obtain ⟨l, k, xs, rfl, rfl, hH, h1, h2, hz, q⟩ := h
  cases rx
  obtain ⟨t, rfl⟩ := ry
  obtain ⟨z, its, n, r, hl, e⟩ := I.lstM hH
  have hlen : its.toArray.size * k.toNat ≤ sizeLine := by rw [List.size_toArray, ← hl]; exact hz
  have hcap : ¬ its.toArray.size * k.toNat > (2 ^ 63 - 1) / 8 := by
    have : (sizeLine : Nat) ≤ (2 ^ 63 - 1) / 8 := by decide
    omega
  have hfit : ¬ (!Builtin.List.listFitsIndex k) = true := by
    rw [fitsIndex_both h1 h2]
    exact Bool.false_ne_true
  have hlong : ¬ Builtin.List.listTooLong (its.toArray.size * k.toNat) = true := by
    rw [notLongL hlen]
    exact Bool.false_ne_true
  have hnew : List.foldl (fun x1 x2 => x1 ++ x2) #[] (List.replicate (if its.toArray.isEmpty = true then 0 else k.toNat) its.toArray) = (List.replicate k.toNat its).flatten.toArray := by
    have f0 : ∀ m : Nat, List.foldl (fun x1 x2 => x1 ++ x2) #[] (List.replicate m its.toArray) = (List.replicate m its).flatten.toArray := fun m => by
      have := foldl_rep its m []
      rw [List.nil_append] at this
      exact this
    rw [f0]
    cases its with
    | nil => simp
    | cons a r' => rw [if_neg (by simp)]
  refine wpAny_binaryOp_repeat_ref (T := "list") (U := "int") (by decide) ⟨_, e, rfl⟩ (fun s' => typeIs_int s' k t) noFill_list_mul F.fills_int_mul F.slot_int_rmul repeat_list F.slot_int_index.lookup
    (call_meets F.slot_int_rmul (typeIs_int s k t) F.entry_int_rmul (F.args_int_rmul_2 _ _) (int___rmul___int_list k t l its.toArray n)
      ⟨e, rfl, ⟨_, e, rfl⟩, call_meets F.slot_list_mul ⟨_, e, rfl⟩ F.entry_list_mul (F.args_list_mul_2 _ _) (AutoListH.list___mul___list_int_3 l its.toArray n k t hfit hcap hlong) ⟨e, ?_⟩⟩)
  rw [hnew]
  exact ⟨.ref _, _, I.lnew (t' := s.toks) (r.rep k.toNat) (by rw [len_rep, Nat.mul_comm]; exact hz), rfl, q _ I.fresh⟩

/-! ### del xs[i] -/
theorem del_list {pins : List (Addr × Obj)} {s : Shared} {σ : St} {H : Hp} {l : Addr} {xs : List V} {i : Int} {t : Tok} {k : Nat} {Q : Unit → Shared → Prop} (I : Inv X pins σ H s) (hH : H l = some (.lst xs))
    (h1 : -(2 ^ 63) ≤ i) (h2 : i < 2 ^ 63) (hk : seqIndex? i xs.length = some k) (h : ∀ s', Inv X pins σ (upd H l (.lst (xs.eraseIdx k))) s' → Q () s') :
    wpAny (model X.prog X.w) X.A (delItem (.ref l) (.int i t)) Q X.xe s := by
  obtain ⟨z, its, n, r, hl, e⟩ := I.lstM hH
  refine PySem.P.delItem_list (k := k) e (fitsIndex_both h1 h2) (by rw [List.size_toArray, ← hl]; exact hk) (h _ ?_) (by rw [List.size_toArray]; omega)
  refine I.lset (its' := its.eraseIdx k) (t' := s.toks) hH e ?_ (r.eraseIdx k) ?_
  · show its.toArray.eraseIdxIfInBounds k = (its.eraseIdx k).toArray
    rw [List.eraseIdxIfInBounds_toArray]
  · have := len_erase xs k
    omega
end

/-! ### xs[a:b] = ys -/
section
variable {prog : Program} {w : World} {A : Around} {E : Value → Shared → Prop} {s : Shared}
theorem splice_eq (its its2 : List Value) (a c : Nat) : its.toArray.extract 0 a ++ its2.toArray ++ its.toArray.extract c its.toArray.size = (its.take a ++ its2 ++ its.drop c).toArray := by
  apply Array.toList_inj.mp
  first
    | (simp
       exact List.take_of_length_le (by simp))
    | simp [List.take_of_length_le]
    | simp
theorem bounds_run {a c n : Nat} (hac : a ≤ c) (hc : c ≤ n) : sliceBounds (some (a : Int)) (some (c : Int)) none n = ((a : Int), (c : Int), 1) := by
  simp only [sliceBounds, Option.getD_none]
  have h1 : ¬ ((a : Int) < 0) := by omega
  have h2 : ¬ ((c : Int) < 0) := by omega
  simp only [h1, h2, if_false, show (1 : Int) > 0 by decide, if_true]
  congr 1
  · omega
  · congr 1; omega
set_option maxRecDepth 100000 in
/-- list.__setitem__ with a slice of step one and another list -/
theorem setItem_slice {l b sl : Addr} {items new : Array Value} {n n2 : Nat} {vl vu : Value} {a c : Nat} {Q : Unit → Shared → Prop}
    (e : s.heap.get? l = some { cls := .type "list", data := .seq items n }) (e2 : s.heap.get? b = some { cls := .type "list", data := .seq new n2 }) (hne : l ≠ b)
    (hs : s.heap.IsSliceOf sl vl vu .none) (pl : IsPart vl (some (a : Int))) (pu : IsPart vu (some (c : Int))) (hac : a ≤ c) (hc : c ≤ items.size)
    (hsz : items.size + new.size ≤ sizeLine) (h : Q () { s with heap := s.heap.update l (Obj.mapSeq fun xs => xs.extract 0 a ++ new ++ xs.extract c xs.size) }) :
    wpAny (model prog w) A (setItem (.ref l) (.ref sl) (.ref b)) Q E s := by
  have hl : s.heap.IsList l items := PySem.IsL.isList e
  have hb : s.heap.IsList b new := PySem.IsL.isList e2
  obtain ⟨os, hos, hcs, hds⟩ := id hs
  have hTs : s.TypeIs (.ref sl) "slice" := ⟨os, hos, hcs⟩
  have hstep : ¬ ((rawPart none == rawInt 0) = true) := Bool.false_ne_true
  have hsame : Builtin.List.listSameRef (.ref l) (.ref b) = false := by
    unfold Builtin.List.listSameRef
    exact beq_eq_false_iff_ne.mpr hne
  have hmax : (max (a : Int) (c : Int)).toNat = c := by omega
  have hz' : ((fun xs : Array Value => xs.extract 0 a ++ new ++ xs.extract c xs.size) items).size ≤ sizeLine + 1 := by
    simp only [Array.size_append, Array.size_extract]
    omega
  unfold setItem
  try with_reducible refine wpAny_holding ?_
  first | refine wpAny_bind (wpAny_pure ?_) | skip
  refine wpAny_bind (wpAny_sequenceKey hl.typeIs (by decide) ?_)
  refine wpAny_bind (wpAny_callSpecial?_slot (name := Str.ofString "__setitem__") hl.typeIs slot_list_setitem
    (wpAny_call_entry slot_list_setitem hl.typeIs entry_list_setitem ?_ (args_list_setitem _ _ _)))
  show wpAny _ _ (Builtin.List.listSubscript? (.ref sl) >>= _) _ _ s
  refine wpAny_bind ?_
  unfold Builtin.List.listSubscript?
  refine wpAny_bind (wpAny_specialOf hTs slice_no_index ?_)
  simp only [Option.isNone_none, if_true]
  refine wpAny_pure ?_
  show wpAny _ _ (typeOf (.ref sl) >>= _) _ _ s
  refine wpAny_bind (wpAny_typeOf hTs ?_)
  first
    | rw [if_neg (by decide)]
    | refine PySem.W.KFB.if_not (by decide) ?_
  rw [listSliceParts_eq]
  refine wpAny_bind (wpAny_bind (wpAny_field hos hds (x := .none) rfl (wpAny_bind (wpAny_listPart .none ?_))))
  rw [if_neg hstep]
  refine wpAny_bind (wpAny_field hos hds (x := vl) rfl (wpAny_bind (wpAny_listPart pl ?_)))
  refine wpAny_bind (wpAny_field hos hds (x := vu) rfl (wpAny_bind (wpAny_listPart pu (wpAny_pure ?_))))
  first
    | simp only [hsame, Bool.false_eq_true, if_false]
    | refine PySem.W.KFB.if_not hsame ?_
    | (dsimp only
       rw [if_neg (by rw [hsame]; exact Bool.false_ne_true)])
  refine wpAny_bind (m := Builtin.List.listAllItems (.ref b) "must assign iterable to extended slice") ?_
  unfold Builtin.List.listAllItems
  refine wpAny_bind (wpAny_typeOf hb.typeIs ?_)
  first
    | refine PySem.W.KFB.if_so (by decide) ?_
    | rw [if_pos (by decide)]
    | simp only [beq_self_eq_true, Bool.true_or, if_true]
  unfold Builtin.List.listItems
  refine wpAny_bind (wpAny_seqItems e2 rfl (wpAny_pure ?_))
  refine wpAny_bind (wpAny_bind (wpAny_seqItems e rfl (wpAny_pure ?_)))
  refine wpAny_bind (wpAny_of_eq ((sliceIndices_raw (some (a : Int)) (some (c : Int)) none items.size (by simp)).trans (congrArg (pure : Int × Int × Int → Sem (Int × Int × Int)) (bounds_run hac hc))) ?_)
  show wpAny _ _ (if ((1 : Int) == 1) = true then _ else _) _ _ s
  rw [if_pos (by decide)]
  refine wpAny_bind (wpAny_rule ?_)
  first
    | simp only [notLongL hsz, Bool.false_eq_true, if_false]
    | refine PySem.W.KFB.if_not (notLongL hsz) ?_
  first | refine wpAny_bind (wpAny_pure ?_) | skip
  show wpAny _ _ (updateSeq l (fun xs => xs.extract 0 ((a : Int)).toNat ++ new ++ xs.extract (max (a : Int) (c : Int)).toNat xs.size) >>= _) _ _ s
  rw [hmax, Int.toNat_natCast]
  refine wpAny_bind (wpAny_updateSeq (hz := Nat.le_trans (Nat.le_add_right _ _) hsz) (_hz' := hz') e rfl ?_)
  refine wpAny_bind (wpAny_letGo ?_)
  first
    | exact wpAny_bind (wpAny_pure (wpAny_pure ⟨.none, rfl, wpAny_pure h⟩))
    | exact wpAny_pure ⟨.none, rfl, wpAny_pure h⟩
end

section
variable {X : Cx}
/-- xs[a:c] = ys of another list, at the value level: sl is the slice object that was just made -/
theorem set_slice {pins : List (Addr × Obj)} {s : Shared} {σ : St} {H : Hp} {l b sl : Addr} {xs ys : List V} {a c : Int} {vl vu : Value} {Q : Unit → Shared → Prop} (I : Inv X pins σ H s)
    (hH : H l = some (.lst xs)) (hB : H b = some (.lst ys)) (hne : l ≠ b) (hs : s.heap.IsSliceOf sl vl vu .none) (ra : RelV (.int a) vl) (rc : RelV (.int c) vu) (h0 : 0 ≤ a) (hac : a ≤ c) (hc : c ≤ xs.length)
    (hz : xs.length + ys.length ≤ sizeLine) (h : ∀ s', Inv X pins σ (upd H l (.lst (xs.take a.toNat ++ ys ++ xs.drop c.toNat))) s' → Q () s') :
    wpAny (model X.prog X.w) X.A (setItem (.ref l) (.ref sl) (.ref b)) Q X.xe s := by
  obtain ⟨ta, rfl⟩ := ra
  obtain ⟨tc, rfl⟩ := rc
  obtain ⟨z, its, n, r, hl, e⟩ := I.lstM hH
  obtain ⟨z2, its2, n2, r2, hl2, e2⟩ := I.lstM hB
  obtain ⟨a', rfl⟩ := Int.eq_ofNat_of_zero_le h0
  obtain ⟨c', rfl⟩ := Int.eq_ofNat_of_zero_le (Int.le_trans h0 hac)
  simp only [Int.toNat_natCast] at h
  refine setItem_slice (a := a') (c := c') e e2 hne hs (.int _ _) (.int _ _) (by omega) (by rw [List.size_toArray]; omega) (by rw [List.size_toArray, List.size_toArray]; omega) (h _ ?_)
  refine I.lset (its' := its.take a' ++ its2 ++ its.drop c') (t' := s.toks) hH e ?_ (Vals.append (Vals.append (r.take _) r2) (r.drop _)) ?_
  · exact splice_eq its its2 a' c'
  · rw [List.length_append, List.length_append, List.length_take, List.length_drop]
    omega
end
end L2

namespace Att
open PySem PySem.W PySem.Calls PyProof.Rows

/-! ### the script -/
theorem ints_of_wellAll {P : Params} {h : Heap} : ∀ (ns : List Int) (vs : List Value), WellAll P h vs (ns.map WData.int) → IntsAre vs ns := by
  intro ns
  induction ns with
  | nil =>
    intro vs w
    rw [List.map_nil] at w
    cases w
    exact .nil
  | cons n ns ih =>
    intro vs w
    rw [List.map_cons] at w
    cases w with
    | cons a b =>
      cases a
      exact .cons _ _ (ih _ b)

theorem script_of {l : OpenLaw} {n : Nat} (hn : l.most = some n) {P : Params} {h : Heap} {args : List WData} {vals : List Value}
    (hpre : l.row.toRowW.claim.pre args = true) (hwl : WellAll P h vals args) :
    ∃ a vs ns, vals = [Value.ref a] ∧ args = [WData.list (ns.map WData.int)] ∧ h.get? a = some { cls := .type "list", data := .seq vs.toArray } ∧ IntsAre vs ns ∧ ns.length ≤ n := by
  have hsh : WShape.hasAll [] args [.list .int] = true := (pre_splitW hpre).1
  have hc : l.pre.holds [] { args := args } = true := (pre_splitW hpre).2
  obtain ⟨d, r, rfl, h1, h2⟩ := hasAllW_cons hsh
  obtain rfl := hasAllW_nil h2
  obtain ⟨xs, rfl, h3⟩ := hasW_list h1
  obtain ⟨ns, rfl⟩ := items_int h3
  have hlen : ns.length ≤ n := by
    unfold OpenLaw.pre at hc
    have h4 : (WTm.not (.lt (.lit (.int (n : Int))) (.len (.arg 0)))).holds [] { args := [.list (ns.map .int)] } = true := by
      have h4 := (holds_andW hc).1
      rw [hn] at h4
      exact h4
    have h5 := condW_of h4 (w_not (w_lt w_lit (w_len_list (w_arg rfl))))
    rw [List.length_map] at h5
    refine Nat.le_of_not_lt fun q => ?_
    have q' : (n : Int) < ((ns.length : Nat) : Int) := by omega
    first
      | (rw [decide_eq_true q'] at h5; exact absurd h5 (by decide))
      | (simp at h5; omega)
  cases hwl with
  | cons w1 w2 =>
    cases w2
    cases w1 with
    | list ho hall => exact ⟨_, _, ns, rfl, rfl, ho, ints_of_wellAll ns _ hall, hlen⟩

theorem post_true (l : OpenLaw) (args : List WData) : l.row.toRowW.claim.post args (.bool true) args = true :=
  postW_of (r := l.row.toRowW) (X := (true == true))
    (show WShape.has [] (.bool true) .bool = true by first | rfl | decide | simp [WShape.has, WShape.arms, WShape.armsAll])
    (show (WTm.eq .res (.lit (.bool true))).value [] { args := args, res := some (.bool true), after := args } = some (.bool (true == true)) from w_eq_bool (w_res rfl) w_lit) rfl

/-! ### the attachment: holds_open's last premise (the goal 'hc' behind k_head) from a wpAny of the law's body -/
theorem attach {l : OpenLaw} {n : Nat} {q : Program} {loose : List Str} {XP : (Str → Option Value) → Heap → Prop} {YP : World → Heap → Prop} {d : DefRec} {x : Str}
    (hn : l.most = some n) (hdf : d.params.defaults = [])
    (hbind : ∀ pm cd doc v : Value, bindArgs (docDef d.name d.params d.body d.scope pm cd doc) ⟨[v], []⟩ = pure [(x, v)])
    (hx : d.scope.names.lookup x = some .local ∨ d.scope.names.lookup x = some .cell)
    (hk : d.scope.kind = .function) (hco : d.scope.isCoroutine = false) (hgen : d.scope.isGenerator = false)
    (body : ∀ (w : World) (s₀ s₁ s : Shared) (mg mb : Str → Option Value) (fa : Addr) (o : Obj) (pm cd doc : Value) (a : Addr) (vs : List Value) (ns : List Int),
      Ground q loose [] XP w s₀ mg mb s₁.heap → YP w s₁.heap →
      s₁.heap.get? fa = some o → o.data = .func (docDef d.name d.params d.body d.scope pm cd doc) → s₁.heap.CodeRec cd d.name → mg d.name = some (.ref fa) →
      s₁.heap.get? a = some { cls := .type "list", data := .seq vs.toArray } → IntsAre vs ns → ns.length ≤ n →
      s.gens = #[] → s.os = s₁.os →
      Fr s₁.heap s₁.heap.objs.size s.heap (bindL (envOfC d.name d.scope s₁.heap.objs.size fa cd).kindOf [(x, .ref a)] fun _ => none) →
      Cl s₁.heap.objs.size (cellsFrom (s₁.heap.objs.size + 1) d.scope.names []) s.heap (bindC (envOfC d.name d.scope s₁.heap.objs.size fa cd).kindOf [(x, .ref a)] fun _ => none) →
      wpAny (model l.prog w) (callerA.deeper (envOfC d.name d.scope s₁.heap.objs.size fa cd)) (execs d.body (envOfC d.name d.scope s₁.heap.objs.size fa cd))
        (fun f s' => f = .ret (.bool true) ∧ OldK s₁.heap s'.heap ∧ s'.os = s₁.os ∧ AllBare s'.gens) (fun _ _ => False) s) :
    WalkO q loose XP YP l.row.toRowW d [] (fun f vs => PySem.call f vs) := by
  intro w s₀ s₁ mg mb G Y fa o pm cd doc dV kV ho hd hcd hD hmg hg args vals as hpre hlay hrd hwl hlo
  obtain rfl : dV = .none := Dflts.none hD hdf
  obtain rfl : kV = .none := Dflts.noKw hD
  obtain ⟨a, vs, ns, rfl, rfl, hobj, hints, hlen⟩ := script_of hn hpre hwl
  refine enter_call ?_
  refine call_cells_ret (o := o) (by rw [depth_caller]; decide) ho (fd_plain hd) G.T.nolimit hcd (hbind pm cd doc (.ref a)) (fun y hy => ?_) (fun h₁ tk F X => ?_) hco hgen hk
  · obtain rfl : y = (x, Value.ref a) := List.mem_singleton.mp hy
    rcases hx with e | e
    · exact .inl e
    · exact .inr ⟨e, cellsFrom_some _ _ _ (.inl e)⟩
  · refine wpAny_mono (body w s₀ s₁ { s₁ with heap := h₁, toks := tk } mg mb fa o pm cd doc a vs ns G Y ho (fd_plain hd) hcd hmg hobj hints hlen hg rfl F X) (fun f s' hq => ?_) (fun _ _ hq => hq)
    obtain ⟨rfl, h2, h3, h4⟩ := hq
    exact ⟨.inl ⟨.bool true, .bool true, [], rfl, fun _ => rfl, .bool true, post_true l _, fun _ => ⟨List.Pairwise.nil, fun _ hm => (nomatch hm)⟩⟩, h2, h3, h4⟩

/-- the same from a codeAny of the CALL (for a layer whose function contracts speak of calls) -/
theorem attach_call {l : OpenLaw} {n : Nat} {q : Program} {loose : List Str} {XP : (Str → Option Value) → Heap → Prop} {YP : World → Heap → Prop} {d : DefRec}
    (hn : l.most = some n) (hdf : d.params.defaults = [])
    (call : ∀ (w : World) (s₀ s₁ : Shared) (mg mb : Str → Option Value) (fa : Addr) (o : Obj) (pm cd doc : Value) (a : Addr) (vs : List Value) (ns : List Int),
      Ground q loose [] XP w s₀ mg mb s₁.heap → YP w s₁.heap →
      s₁.heap.get? fa = some o → o.data = .func (docDef d.name d.params d.body d.scope pm cd doc) → s₁.heap.CodeRec cd d.name → mg d.name = some (.ref fa) →
      s₁.heap.get? a = some { cls := .type "list", data := .seq vs.toArray } → IntsAre vs ns → ns.length ≤ n → s₁.gens = #[] →
      codeAny (model l.prog w) callerA (.call (.ref fa) ⟨[.ref a], []⟩) (fun r s' => r = .ok (.ret (.bool true)) ∧ OldK s₁.heap s'.heap ∧ s'.os = s₁.os ∧ AllBare s'.gens) s₁) :
    WalkO q loose XP YP l.row.toRowW d [] (fun f vs => PySem.call f vs) := by
  intro w s₀ s₁ mg mb G Y fa o pm cd doc dV kV ho hd hcd hD hmg hg args vals as hpre hlay hrd hwl hlo
  obtain rfl : dV = .none := Dflts.none hD hdf
  obtain rfl : kV = .none := Dflts.noKw hD
  obtain ⟨a, vs, ns, rfl, rfl, hobj, hints, hlen⟩ := script_of hn hpre hwl
  refine enter_call (codeAny_mono (call w s₀ s₁ mg mb fa o pm cd doc a vs ns G Y ho (fd_plain hd) hcd hmg hobj hints hlen hg) fun r s' hq => ?_)
  obtain ⟨rfl, h2, h3, h4⟩ := hq
  exact ⟨.inl ⟨.bool true, .bool true, [], rfl, fun _ => rfl, .bool true, post_true l _, fun _ => ⟨List.Pairwise.nil, fun _ hm => (nomatch hm)⟩⟩, h2, h3, h4⟩

/-- the same where the top left finished generators (o_head chose holds_openN): nothing may have changed at all and no generator may be left -/
theorem attachN {l : OpenLaw} {n : Nat} {q : Program} {loose : List Str} {XP : (Str → Option Value) → Heap → Prop} {YP : World → Heap → Prop} {d : DefRec} {x : Str}
    (hn : l.most = some n) (hdf : d.params.defaults = [])
    (hbind : ∀ pm cd doc v : Value, bindArgs (docDef d.name d.params d.body d.scope pm cd doc) ⟨[v], []⟩ = pure [(x, v)])
    (hx : d.scope.names.lookup x = some .local ∨ d.scope.names.lookup x = some .cell)
    (hk : d.scope.kind = .function) (hco : d.scope.isCoroutine = false) (hgen : d.scope.isGenerator = false)
    (body : ∀ (w : World) (s₀ s₁ s : Shared) (mg mb : Str → Option Value) (fa : Addr) (o : Obj) (pm cd doc : Value) (a : Addr) (vs : List Value) (ns : List Int),
      Ground q loose [] XP w s₀ mg mb s₁.heap → YP w s₁.heap →
      s₁.heap.get? fa = some o → o.data = .func (docDef d.name d.params d.body d.scope pm cd doc) → s₁.heap.CodeRec cd d.name → mg d.name = some (.ref fa) →
      s₁.heap.get? a = some { cls := .type "list", data := .seq vs.toArray } → IntsAre vs ns → ns.length ≤ n →
      s.gens = #[] → s.os = s₁.os →
      Fr s₁.heap s₁.heap.objs.size s.heap (bindL (envOfC d.name d.scope s₁.heap.objs.size fa cd).kindOf [(x, .ref a)] fun _ => none) →
      Cl s₁.heap.objs.size (cellsFrom (s₁.heap.objs.size + 1) d.scope.names []) s.heap (bindC (envOfC d.name d.scope s₁.heap.objs.size fa cd).kindOf [(x, .ref a)] fun _ => none) →
      wpAny (model l.prog w) (callerA.deeper (envOfC d.name d.scope s₁.heap.objs.size fa cd)) (execs d.body (envOfC d.name d.scope s₁.heap.objs.size fa cd))
        (fun f s' => f = .ret (.bool true) ∧ (∀ b o, s₁.heap.get? b = some o → s'.heap.get? b = some o) ∧ s'.os = s₁.os ∧ s'.gens = #[]) (fun _ _ => False) s) :
    WalkN q loose XP YP l.row.toRowW d [] (fun f vs => PySem.call f vs) := by
  intro w s₀ s₁ mg mb G Y fa o pm cd doc dV kV ho hd hcd hD hmg hg args vals as hpre hlay hrd hwl hlo
  obtain rfl : dV = .none := Dflts.none hD hdf
  obtain rfl : kV = .none := Dflts.noKw hD
  obtain ⟨a, vs, ns, rfl, rfl, hobj, hints, hlen⟩ := script_of hn hpre hwl
  refine enter_callW ?_
  refine call_cells_ret (o := o) (by rw [depth_caller]; decide) ho (fd_plain hd) G.T.nolimit hcd (hbind pm cd doc (.ref a)) (fun y hy => ?_) (fun h₁ tk F X => ?_) hco hgen hk
  · obtain rfl : y = (x, Value.ref a) := List.mem_singleton.mp hy
    rcases hx with e | e
    · exact .inl e
    · exact .inr ⟨e, cellsFrom_some _ _ _ (.inl e)⟩
  · refine wpAny_mono (body w s₀ s₁ { s₁ with heap := h₁, toks := tk } mg mb fa o pm cd doc a vs ns G Y ho (fd_plain hd) hcd hmg hobj hints hlen hg rfl F X) (fun f s' hq => ?_) (fun _ _ hq => hq)
    obtain ⟨rfl, h2, h3, h4⟩ := hq
    exact ⟨.inl ⟨.bool true, .bool true, [], rfl, fun _ => rfl, .bool true, post_true l _, fun _ => ⟨List.Pairwise.nil, fun _ hm => (nomatch hm)⟩⟩, h2, h3, h4⟩

/-! ### rules over ANY heap (no ledger) from facts about the written part K: the library's own take a ledger (News) for what they write -/
section
variable {prog : Program} {w : World} {A : Around} {E : Value → Shared → Prop} {s : Shared} {K : Frag}

/-- a def of the module, or a method (qual 'C.m'), entered: the frame is the next address; cells behind it -/
theorem call_fn {R : Result → Shared → Prop} {name qual : Str} {params : Arguments} {body : List Stmt} {scope : Scope} {dV kV doc pm cdv ct oc : Value} {an od : Option Addr} {osl : Array (Option Value)} {f : Addr} {args : Args} {binds : List (Str × Value)}
    (X : K.In s.heap) (hlim : s.heap.NoLimit) (ho : K.lookup f = some ⟨oc, od, .func (fnOf name qual params body scope dV kV doc pm an cdv ct), osl⟩) (hcd : codeIn K cdv qual = true) (hroom : A.depth < recursionLimit)
    (hbind : BindsTo s (fnOf name qual params body scope dV kV doc pm an cdv ct) args binds)
    (hkind : (binds.all fun y => scope.names.lookup y.1 == some .local || scope.names.lookup y.1 == some .cell) = true)
    (h : ∀ s₁, InCallC s s.heap.objs.size (bindL (envOfC qual scope s.heap.objs.size f cdv).kindOf binds fun _ => none) (cellsFrom (s.heap.objs.size + 1) scope.names [])
        (bindC (envOfC qual scope s.heap.objs.size f cdv).kindOf binds fun _ => none) s₁ →
      wpAny (model prog w) (A.deeper (envOfC qual scope s.heap.objs.size f cdv)) (execs body (envOfC qual scope s.heap.objs.size f cdv))
        (fun fl s' => R (.ok (.ret (match fl with | .ret v => v | _ => .none))) s')
        (fun e s' => wpAny (model prog w) (A.deeper (envOfC qual scope s.heap.objs.size f cdv)) (leaving (envOfC qual scope s.heap.objs.size f cdv) e) (fun _ s'' => R (.error e) s'') (fun e' s'' => R (.error e') s'') s') s₁)
    (hco : scope.isCoroutine = false) (hgen : scope.isGenerator = false) (hk : scope.kind = .function) : codeAny (model prog w) A (.call (.ref f) args) R s := by
  refine codeAny_call_function hroom (X _ _ ho) rfl hco hgen rfl (codeRec_of X hcd) (hbind _ _ _ _ ?_)
  refine wpAny_newFunctionEnv_cells hk (kindsX hkind _) fun env he s₁ x => ?_
  subst he
  exact ⟨hlim.keeps x.toInCall.keep, codeAny_func (h s₁ x)⟩

/-- C(..): dict at size, instance at size + 1, then __init__ -/
theorem make_obj {R : Result → Shared → Prop} {C fI : Addr} {rest : List Value} {kw : List (Str × Value)}
    (X : K.In s.heap) (hm : makesIn K C = true) (hi : findIn K (.ref C) "__init__" = some (some (.ref fI))) (hf : isFn K (.ref fI) = true)
    (h : codeAny (model prog w) (A.under (.builtin "type.__call__" ⟨.ref C :: rest, kw⟩)) (.call (.ref fI) ⟨.ref (s.heap.objs.size + 1) :: rest, kw⟩) (InitBack (s.heap.objs.size + 1) R)
      { s with heap := (s.heap.push emptyDict).push (instObj C s.heap.objs.size) }) : codeAny (model prog w) A (.call (.ref C) ⟨rest, kw⟩) R s := by
  obtain ⟨hh, g, d, t, os⟩ := s
  exact make_core (makes_of X hm) (looks_findIn X hi) (fun self => bind_fn X self (beq_iff_eq.mp hf)) (.inl rfl) h

/-- x.name where the instance's dict holds the name and the class does not -/
theorem get_field {x C : Addr} {ox : Obj} {es : List DictEntry} {n : Nat} {name : Str} {expr : Bool} {v : Value} {Q : Value → Shared → Prop}
    (X : K.In s.heap) (I : PySem.W.InstAt s.heap x ox C (some (dictOf es n))) (hg : plainGet K C name = true) (hh : hasDictIn K C = true) (ha : findIn K (.ref C) name = some none)
    (hl : getL name es = some (some v)) (hv : handedIn v = true) (h : Q v { s with toks := s.toks + 1 }) : wpAny (model prog w) A (getAttr (.ref x) name expr) Q E s :=
  get_value X I (plainGet_of hg).1 (findObj_own hh ha rfl hl) hv h

/-- x.m(..): the method found in the class -/
theorem get_method {x C f : Addr} {ox : Obj} {es : List DictEntry} {n : Nat} {name : Str} {pl : Sem Bool} {Q : Value × List Value → Shared → Prop}
    (X : K.In s.heap) (I : PySem.W.InstAt s.heap x ox C (some (dictOf es n))) (hg : plainGet K C name = true) (hf : findIn K (.ref C) name = some (some (.ref f))) (ht : isFn K (.ref f) = true)
    (hl : getL name es = some none) (h : Q (.ref f, [.ref x]) s) : wpAny (model prog w) A (getMethod (.ref x) name pl) Q E s :=
  method_fn X I (plainGet_of hg).1 (plainGet_of hg).2 hf (beq_iff_eq.mp ht) (by show (lookIn name (dictOf es n)).map _ = _; rw [lookIn_dict, hl]; rfl) h

/-! the whole heap as the ledger: makes every rule that writes through a ledger a rule over any heap -/
def noObjs (h : Heap) : Heap := { h with objs := #[] }
theorem noObjs_get (h : Heap) (b : Addr) : (noObjs h).get? b = none := by
  cases e : (noObjs h).get? b with
  | none => rfl
  | some o => exact absurd (Heap.lt_size e) (Nat.not_lt_zero _)
def ledger (h : Heap) (L d : Addr) : List (Addr × Obj) := (List.range h.objs.size).filterMap fun a => if a = L ∨ a = d then none else (h.get? a).map fun o => (a, o)
theorem mem_ledger {h : Heap} {L d a : Addr} {o : Obj} : (a, o) ∈ ledger h L d ↔ a ≠ L ∧ a ≠ d ∧ h.get? a = some o := by
  unfold ledger
  rw [List.mem_filterMap]
  constructor
  · rintro ⟨b, _, e⟩
    split at e
    · cases e
    · rename_i hb
      obtain ⟨o', ho, e'⟩ := Option.map_eq_some_iff.mp e
      cases e'
      exact ⟨fun q => hb (.inl q), fun q => hb (.inr q), ho⟩
  · rintro ⟨n1, n2, ho⟩
    refine ⟨a, List.mem_range.mpr (Heap.lt_size ho), ?_⟩
    rw [if_neg (show ¬ (a = L ∨ a = d) from fun q => q.elim n1 n2), ho] <;> rfl
theorem news_ledger {h : Heap} {L d : Addr} {od : Obj} (hne : d ≠ L) (ho : h.get? d = some od) : News (noObjs h) L h ([] ++ (d, od) :: ledger h L d) := by
  rintro ⟨a, o⟩ hp
  rcases List.mem_cons.mp hp with e | hp
  · cases e
    exact ⟨ho, hne, noObjs_get _ _⟩
  · obtain ⟨n1, n2, e⟩ := mem_ledger.mp hp
    exact ⟨e, n1, noObjs_get _ _⟩
theorem fr_all {h : Heap} {L : Addr} {m : Str → Option Value} (n : h.Ns L m) : Fr (noObjs h) L h m :=
  ⟨n, fun b o e => (by rw [noObjs_get] at e; cases e), Nat.zero_le _⟩
/-- Upd of the head entry (for append_K, setItem_K ..) -/
theorem upd_ledger {h : Heap} {L d : Addr} {o o' : Obj} : Upd d o o' ((d, o) :: ledger h L d) ((d, o') :: ledger h L d) :=
  .head fun ⟨_, _⟩ hp => (mem_ledger.mp hp).2.1

/-- x.name = v over any heap: L is any namespace of the heap (the frame's, say): its map stays, its object is not told; all else but the dict stays -/
theorem set_field {x C dx L : Addr} {ox : Obj} {m : Str → Option Value} {es es' : List DictEntry} {n n' : Nat} {name : Str} {v : Value} {Q : Unit → Shared → Prop}
    (X : K.In s.heap) (I : PySem.W.InstAt s.heap x ox C (some (dictOf es n))) (hd : ox.dict = some dx) (hL : s.heap.Ns L m) (hne : dx ≠ L)
    (hs : findIn K (.ref C) "__setattr__" = some (some (.builtin "object.__setattr__"))) (hp : plainOver K C = true) (ht : takerIn K C name = some none) (hh : hasDictIn K C = true) (hl : (getL name es).isSome = true)
    (e : (putL name (PyData.keyHash w.params name) (.str name (s.toks + 1)) v es, putN name es n) = (es', n')) (hz : es'.length ≤ 1000)
    (h : ∀ h' : Heap, h'.Ns L m → h'.get? dx = some (dictOf es' n') → (∀ b o, b ≠ dx → b ≠ L → s.heap.get? b = some o → h'.get? b = some o) → Q () { s with heap := h', toks := s.toks + 2 }) :
    wpAny (model prog w) A (setAttr (.ref x) name v) Q E s := by
  obtain ⟨e1, e2⟩ := Prod.mk.inj e
  have hdx : s.heap.get? dx = some (dictOf es n) := by
    have := I.dict
    rw [hd] at this
    exact this
  refine set_plain X I hs (osa_dict (s := { s with toks := s.toks + 1 }) (h₀ := noObjs s.heap) (L := L) (m := m) (od := dictOf es n) (od' := dictOf es' n') (es := es') (n := n') (pre := []) (post := ledger s.heap L dx)
    (fr_all hL) (news_ledger hne hdx) X I hd hp ht hh hl (fun _ q => nomatch q) (fun ⟨_, _⟩ q => (mem_ledger.mp q).2.1) (by rw [putName_dict, e1, e2]) rfl hz fun h' F' N' => ?_)
  exact h h' F'.ns (N'.get (List.Mem.head _)) fun b o n1 n2 ho => N'.get (List.Mem.tail _ (mem_ledger.mpr ⟨n2, n1, ho⟩))
end
end Att

namespace L2
open PySem PySem.Spec PyProof.Rows

theorem vals_ints : ∀ {vs : List Value} {ns : List Int}, IntsAre vs ns → Vals (ns.map V.int) vs
  | _, _, .nil => .nil
  | _, _, .cons n t h => .cons ⟨t, rfl⟩ (vals_ints h)

/-- nothing is tracked but the script, known to the object (or it is an object of the module) -/
def Only (H : Hp) : Prop := ∀ b, H b = none ∨ ∃ o xs, H b = some (.frz o (.lst xs))

/-- THE HEAD: the law's promise, at the heap behind the top. F, the promise of the law's def, may use that base is part of the heap (so K.In base, base.Ns mainGlobals mg stand in Mod) -/
theorem law_call {P : Program} {w : World} {K : PySem.W.Frag} {mg mb : Str → Option Value} {CX : CXT} {k : Nat} {fa a : Addr} {fd : FuncData} {x : Str} {sp : Sp} {s₁ : Shared} {vs : List Value} {ns : List Int}
    (KX : K.In s₁.heap) (hns : s₁.heap.Ns mainGlobals mg) (hb : s₁.heap.Ns builtinsNs mb) (hbb : ∀ x : Str, x ≠ "__name__" → mb x = bootBuiltins x) (hlim : s₁.heap.NoLimit) (hg : s₁.gens = #[])
    (ha : s₁.heap.get? a = some { cls := .type "list", data := .seq vs.toArray }) (hi : IntsAre vs ns) (hl : ns.length ≤ sizeLine) (hr : Room k callerA)
    (F : ∀ base : Heap, K.In base → base.Ns mainGlobals mg → FnOk P w K mg base CX k fa fd [x] sp) (hbind : ∀ (s : Shared) (u : Value), BindsTo s fd ⟨[u], []⟩ [(x, u)])
    (hsp : ∀ H : Hp, Only H → SqL K H a (ns.map V.int) → sp [.ref a] H (fun v _ => v = .bl true) fun _ _ _ => False)
    (hCX : ∀ H e s', CX [] H s₁ (fun _ _ _ => False) e s' → False) :
    codeAny (model P w) callerA (.call (.ref fa) ⟨[.ref a], []⟩) (fun r s' => r = .ok (.ret (.bool true)) ∧ OldK s₁.heap s'.heap ∧ s'.os = s₁.os ∧ AllBare s'.gens) s₁ := by
  have rv := vals_ints hi
  have lenV := hi.length
  -- from an abstract heap in which nothing but the script may be tracked
  have core : ∀ H : Hp, Only H → SqL K H a (ns.map V.int) → HOk P w H s₁.heap → (∀ b, H b ≠ none → b = a) → (H a ≠ none → K.lookup a = none) →
      codeAny (model P w) callerA (.call (.ref fa) ⟨[.ref a], []⟩) (fun r s' => r = .ok (.ret (.bool true)) ∧ OldK s₁.heap s'.heap ∧ s'.os = s₁.os ∧ AllBare s'.gens) s₁ := by
    intro H hO hS hok hA hK
    have base_of : ∀ {b : Addr} {o : Obj}, s₁.heap.get? b = some o → H b = none → (hidT s₁.heap H).get? b = some o := fun e n => hidT_get e n
    have noA : ∀ {b : Addr} {o : Obj} {es : Array DictEntry} {ep : Nat}, s₁.heap.get? b = some o → o.data = .dict es ep → H b = none := fun {b o es ep} e d => by
      cases q : H b with
      | none => rfl
      | some u =>
        have e' : b = a := hA b (by rw [q]; simp)
        subst e'
        rw [ha] at e; cases e
        have d' : Data.seq vs.toArray _ = Data.dict es ep := d
        cases d'
    have nsK : ∀ {b : Addr} {m : Str → Option Value}, s₁.heap.Ns b m → (hidT s₁.heap H).Ns b m := fun {b m} ⟨o, es, ep, e, d, r⟩ => ⟨o, es, ep, base_of e (noA e d), d, r⟩
    have hKb : K.In (hidT s₁.heap H) := fun b o e => base_of (KX b o e) (by
      cases q : H b with
      | none => rfl
      | some u =>
        have e' : b = a := hA b (by rw [q]; simp)
        subst e'
        rw [hK (by rw [q]; simp)] at e; cases e)
    have hM : Mod K mg (hidT s₁.heap H) := ⟨hKb, nsK hns, ⟨mb, nsK hb, hbb⟩, let ⟨mc, h1, h2⟩ := hlim; ⟨mc, nsK h1, h2⟩⟩
    have e0 : Env0 P w K mg (hidT s₁.heap H) callerA [] s₁ H := ⟨rfl, hM, fun b o e => of_hidT e, Nat.le_of_eq (hidT_size _ _), trivial, fun b hb => absurd (show b ∈ ([] : List Addr) from hb) (by simp), hok, .of_eq hg⟩
    refine codeAny_mono ((F _ hKb (nsK hns)).run callerA [] s₁ H ⟨[.ref a], []⟩ [.ref a] [.ref a] _ _ hr e0 (hbind s₁ (.ref a)) (.cons rfl .nil) (hsp H hO hS)) fun r s' h => ?_
    cases r with
    | error e => exact (hCX H e s' h).elim
    | ok fl =>
      cases fl with
      | next => exact False.elim h
      | brk => exact False.elim h
      | cont => exact False.elim h
      | ret u =>
        obtain ⟨v, H', os, bare, un, hok', r', q⟩ := h
        have q' : v = .bl true := q
        subst q'
        obtain rfl : u = Value.bool true := r'
        refine ⟨rfl, OldK.of_keep fun b o e => ?_, os, bare⟩
        cases q : H b with
        | none => exact un.keep b o e q (by intro z; exact absurd (show b ∈ ([] : List Addr) from z) (by simp)) (by simp)
        | some u =>
          rcases hO b with z | ⟨ob, xs, z⟩
          · rw [q] at z; cases z
          · have z2 := un.frzs b ob _ z
            obtain ⟨e1, _⟩ := hok b _ z
            obtain ⟨e2, _⟩ := hok' b _ z2
            rw [e] at e1; cases e1
            exact e2
  cases hk : K.lookup a with
  | some o =>
    -- the script is one of the module's own objects
    have e := KX a o hk
    rw [ha] at e
    cases e
    refine core (fun _ => none) (fun _ => .inl rfl) (.inr ⟨_, vs.toArray, _, hk, rfl, rfl, rfl, by rw [List.size_toArray, lenV]; exact hl, by simpa using rv⟩) (fun b u z => by have z' : (none : Option HO) = some u := z; cases z') (fun b z => absurd rfl z) fun z => absurd rfl z
  | none =>
    refine core (fun b => if b = a then some (.frz { cls := .type "list", data := .seq vs.toArray } (.lst (ns.map V.int))) else none) (fun b => ?_) (.inl (.inr ⟨{ cls := .type "list", data := .seq vs.toArray }, if_pos rfl⟩)) (fun b u z => ?_) (fun b z => ?_) fun _ => hk
    · by_cases hb : b = a
      · exact .inr ⟨_, _, if_pos hb⟩
      · exact .inl (if_neg hb)
    · by_cases hb : b = a
      · have z' := (if_pos hb).symm.trans z
        cases z'
        subst hb
        exact ⟨ha, by rw [List.length_map]; exact hl, vs, _, rv, ha⟩
      · have z' := (if_neg hb).symm.trans z
        cases z'
    · by_cases hb : b = a
      · exact hb
      · exact absurd (if_neg hb) z
end L2

namespace L2
open PySem PySem.Spec PyProof.Rows

abbrev KOf {K : PySem.W.Frag} {h : Heap} (_ : K.In h) : PySem.W.Frag := K

/-- the goal that k_head leaves (case hc), from the law's promise. F gives the function object fd (K's own) once, then the promise over every base -/
theorem walk_of {l : PySem.W.OpenLaw} {n k : Nat} {q : Program} {loose : List Str} {XP : (Str → Option Value) → Heap → Prop} {YP : World → Heap → Prop} {d : DefRec} {K : Params → PySem.W.Frag} {CX : World → CXT} {sp : World → Sp} {x : Str}
    (hn : l.most = some n) (hn2 : n ≤ sizeLine) (hdf : d.params.defaults = []) (hr : Room k callerA)
    (hY : ∀ (w : World) (h : Heap), YP w h → (K w.params).In h)
    (F : ∀ (w : World) (mg : Str → Option Value) (fa : Addr) (h : Heap), (K w.params).In h → h.Ns mainGlobals mg → mg d.name = some (.ref fa) →
      ∃ fd : FuncData, (∀ (s : Shared) (u : Value), BindsTo s fd ⟨[u], []⟩ [(x, u)]) ∧
        ∀ base : Heap, (K w.params).In base → base.Ns mainGlobals mg → FnOk l.prog w (K w.params) mg base (CX w) k fa fd [x] (sp w))
    (hsp : ∀ (w : World) (H : Hp) (a : Addr) (ns : List Int), ns.length ≤ n → Only H → SqL (K w.params) H a (ns.map V.int) → sp w [.ref a] H (fun v _ => v = .bl true) fun _ _ _ => False)
    (hCX : ∀ (w : World) (H : Hp) (s : Shared) (e : Value) (s' : Shared), CX w [] H s (fun _ _ _ => False) e s' → False) :
    PySem.W.WalkO q loose XP YP l.row.toRowW d [] (fun f vs => PySem.call f vs) := by
  refine Att.attach_call hn hdf fun w s₀ s₁ mg mb fa o pm cd doc a vs ns G Y ho hd hcd hmg hobj hints hlen hg => ?_
  have KX := hY w _ Y
  obtain ⟨fd, hb, hF⟩ := F w mg fa _ KX G.T.g hmg
  exact law_call KX G.T.g G.T.b G.T.builtins G.T.nolimit hg hobj hints (Nat.le_trans hlen hn2) hr hF hb (fun H hO hS => hsp w H a ns hlen hO hS) fun H e s' => hCX w H s₁ e s'
/-- the same where the promise hangs on the written part alone: (sp := My.sp_law), no hole under a binder -/
theorem walk_ofK {l : PySem.W.OpenLaw} {n k : Nat} {q : Program} {loose : List Str} {XP : (Str → Option Value) → Heap → Prop} {YP : World → Heap → Prop} {d : DefRec} {K : Params → PySem.W.Frag} {CX : CXT} {sp : PySem.W.Frag → Sp} {x : Str}
    (hn : l.most = some n) (hn2 : n ≤ sizeLine) (hdf : d.params.defaults = []) (hr : Room k callerA)
    (hY : ∀ (w : World) (h : Heap), YP w h → (K w.params).In h)
    (F : ∀ (w : World) (mg : Str → Option Value) (fa : Addr) (h : Heap), (K w.params).In h → h.Ns mainGlobals mg → mg d.name = some (.ref fa) →
      ∃ fd : FuncData, (∀ (s : Shared) (u : Value), BindsTo s fd ⟨[u], []⟩ [(x, u)]) ∧
        ∀ base : Heap, (K w.params).In base → base.Ns mainGlobals mg → FnOk l.prog w (K w.params) mg base CX k fa fd [x] (sp (K w.params)))
    (hsp : ∀ (K : PySem.W.Frag) (H : Hp) (a : Addr) (ns : List Int), ns.length ≤ n → Only H → SqL K H a (ns.map V.int) → sp K [.ref a] H (fun v _ => v = .bl true) fun _ _ _ => False)
    (hCX : ∀ (H : Hp) (s : Shared) (e : Value) (s' : Shared), CX [] H s (fun _ _ _ => False) e s' → False) :
    PySem.W.WalkO q loose XP YP l.row.toRowW d [] (fun f vs => PySem.call f vs) :=
  walk_of (K := K) (CX := fun _ => CX) (sp := fun w => sp (K w.params)) hn hn2 hdf hr hY F (fun w H a ns h1 h2 h3 => hsp (K w.params) H a ns h1 h2 h3) fun _ H s e s' => hCX H s e s'
end L2

/- THE LAST THEOREM (shape; LID, My.* are yours):
   My.Adr: a structure of the addresses that your layer names (classes, functions); My.Txt K t: a structure (Prop) of the equations over K;
   My.txt_mk : {K} {implicit addresses ..} (e1 : nsIn K mainGlobals "law" = some (some (.ref f))) (e2 : K.lookup f = some ⟨oc, od, .func (fnOf "law" "law" params body scope dV kV doc pm an cdv ct), sl⟩) (e3 : codeIn K cdv "law" = true) .. : ∃ t, My.Txt K t

set_option maxRecDepth 100000 in
set_option maxHeartbeats 0 in
theorem PySem.Challenge.cw_LID_holds : PySem.Challenge.rw_LID.Holds := by
  w_on; o_law; k_head; (case hw => w_witness2)
  k_fill
  refine L2.walk_of (l := PySem.Challenge.rw_LID) (n := 63) (k := 40) (x := "script") (CX := fun w => ..) (sp := fun _ => My.sp_law) rfl (by decide) rfl ⟨rfl, by decide, by decide⟩ (fun w h Y => PySem.W.kIn_of Y) ?F ?S ?C
  case F =>
    intro w mg fa h KX G hmg
    have T : ∃ t, My.Txt (L2.KOf KX) t := by
      dsimp only [L2.KOf]                          -- K must stand as «<heap const> w.params» for k_is
      refine' My.txt_mk ?e1 ?e2 ?e3 ..
      (case e1 => PySem.W.k_is)                    -- in the order: a name -> its address -> its object -> its parts
      (case e2 => PySem.W.k_is)
      ..
    obtain ⟨t, T⟩ := T
    have e0 := hmg.symm.trans (PySem.W.mg_of KX G T.law)
    cases e0                                       -- fa is the law's own address
    exact ⟨_, fun s u => .of_eq rfl, fun base kb nb => My.law_fn T kb nb⟩     -- if «.of_eq rfl» comes too early: refine' ⟨_, ?b, fun base kb nb => My.law_fn T kb nb⟩; exact fun s u => .of_eq rfl
  case S => exact fun w H a ns hl hO hS => ..
  case C => exact ..
(the tactic k_is has no namespace: write k_is) -/

/-! SHORT WORDS over the layer: a def of the text, its body, what a loop and a test want. -/
namespace L2
open PySem PySem.Spec PyProof.Rows

/-! ### the text by places -/
/-- the j-th statement of a class's body -/
def inClass (s : Stmt) (j : Nat) : Stmt := match s with
  | .ClassDef _ _ _ body _ _ _ _ _ _ _ => body.getD j (.Pass ⟨0, 0, 0, 0⟩)
  | _ => .Pass ⟨0, 0, 0, 0⟩
def defArgs (s : Stmt) : Arguments := match s with
  | .FunctionDef _ a _ _ _ _ _ _ _ _ => a
  | _ => { posonlyargs := [], args := [], vararg := none, kwonlyargs := [], kw_defaults := [], kwarg := none, defaults := [] }
def defBody (s : Stmt) : List Stmt := match s with
  | .FunctionDef _ _ b _ _ _ _ _ _ _ => b
  | _ => []
def defScope (s : Stmt) : Scope := match s with
  | .FunctionDef _ _ _ _ _ _ sc _ _ _ => sc
  | _ => { kind := .function, names := [], isGenerator := false, isCoroutine := false }

/-! ### no exception leaves a def -/
abbrev CX0 : CXT := fun _ _ _ _ _ _ => False
abbrev E0 : XK := fun _ _ _ => False
theorem pass0 {X : Cx} : Passes CX0 X E0 := fun _ _ _ _ _ _ _ h => h.elim

/-! ### a def (or method) of the text as it stands behind the top -/
structure Fun (K : PySem.W.Frag) (x qual : Str) (st : Stmt) (f : Addr) (fd : FuncData) : Prop where
  ex : ∃ (oc : Value) (od : Option Addr) (kV doc pm : Value) (an : Option Addr) (cdv ct : Value) (osl : Array (Option Value)),
    fd = PySem.W.fnOf x qual (defArgs st) (defBody st) (defScope st) .none kV doc pm an cdv ct ∧ K.lookup f = some ⟨oc, od, .func fd, osl⟩ ∧ PySem.W.codeIn K cdv qual = true
  kp : PySem.W.keepIn K (.ref f) = true
section
variable {P : Program} {w : World} {K : PySem.W.Frag} {mg : Str → Option Value} {base : Heap}
/-- THE RULE for a def: its body as a term of rules, and the reading of that term -/
theorem Fun.ok {x qual : Str} {st : Stmt} {f : Addr} {fd : FuncData} {N ps : List Str} {k : Nat} {sp : Sp} (F : Fun K x qual st f fd) (S : FnScope N ps (defScope st)) (len : ∀ vs H Q E, sp vs H Q E → vs.length = ps.length)
    (hbody : ∀ (cdv : Value) (A : Around) (outer : List Env) (s : Shared) (H : Hp) (vs : List V) (Q : VK) (E : XK), Room k (A.deeper (envOfC qual (defScope st) s.heap.objs.size f cdv)) → sp vs H Q E →
      ∃ t, PSs (cxOf CX0 P w K mg base N qual (defScope st) f cdv A outer s H E).nox (defBody st) t ∧ t { nx := fun _ H' => Q .non H', rt := Q } (start N vs) H) : FnOk P w K mg base CX0 (k + 1) f fd ps sp := by
  obtain ⟨oc, od, kV, doc, pm, an, cdv, ct, osl, rfl, lk, hcd⟩ := F.ex
  refine fn_of lk hcd S len fun A outer s H vs Q E hr hsp => ?_
  obtain ⟨t, h, q⟩ := hbody cdv A outer s H vs Q E hr hsp
  exact ⟨t, h.nox, q⟩
/-- how its arguments bind (no defaults): h is «fun _ _ _ _ _ _ us hl => match us, hl with | [_, _], _ => rfl», one _ a parameter -/
theorem Fun.binds {x qual : Str} {st : Stmt} {f : Addr} {fd : FuncData} {ps : List Str} (F : Fun K x qual st f fd)
    (h : ∀ (kV doc pm : Value) (an : Option Addr) (cdv ct : Value) (us : List Value), us.length = ps.length → bindArgs (PySem.W.fnOf x qual (defArgs st) (defBody st) (defScope st) .none kV doc pm an cdv ct) ⟨us, []⟩ = pure (ps.zip us)) : Binds K fd ps [] := by
  obtain ⟨oc, od, kV, doc, pm, an, cdv, ct, osl, rfl, lk, hcd⟩ := F.ex
  exact .all (h kV doc pm an cdv ct)
theorem fun_mk {x qual : Str} {st : Stmt} {f : Addr} {oc : Value} {od an : Option Addr} {osl : Array (Option Value)} {kV doc pm cdv ct : Value} (l : K.lookup f = some ⟨oc, od, .func (PySem.W.fnOf x qual (defArgs st) (defBody st) (defScope st) .none kV doc pm an cdv ct), osl⟩)
    (c : PySem.W.codeIn K cdv qual = true) (k : PySem.W.keepIn K (.ref f) = true) : Fun K x qual st f (PySem.W.fnOf x qual (defArgs st) (defBody st) (defScope st) .none kV doc pm an cdv ct) := ⟨⟨oc, od, kV, doc, pm, an, cdv, ct, osl, rfl, l, c⟩, k⟩
end
theorem hu_of {A : Around} {k : Nat} (hr : Room k A) : A.units + 1 < cLine := Nat.lt_of_le_of_lt (Nat.add_le_add_left (by decide : 1 ≤ 64) _) hr.units
theorem small1000 {n : Nat} (h : n ≤ 1000) : n < sizeLine := Nat.lt_of_le_of_lt h (by decide)

/-! ### expressions in short: the name that stands in the i-th slot -/
section
variable {X : Cx}
theorem pv (i : Nat) {x : Str} {pos : Pos} (hN : X.N[i]? = some x := by rfl) (hv : Vis X.env.scope x := by first | exact Or.inl rfl | exact Or.inr (Or.inl rfl) | exact Or.inr (Or.inr rfl)) (hd : (x == ("__debug__" : Str)) = false := by decide)
    (hcd : (x == ("__classdict__" : Str)) = false := by decide) : PE X (.Name x pos) (tVar i) := pe_var hN hv hd hcd
end

/-! ### tests -/
theorem iteF {A B : Prop} (h : B) : if false = true then A else B := by
  rw [if_neg Bool.false_ne_true]
  exact h
theorem iteT {A B : Prop} (h : A) : if true = true then A else B := by
  rw [if_pos rfl]
  exact h
theorem ite2 {c A B : Prop} [Decidable c] (h1 : c → A) (h2 : ¬ c → B) : if c then A else B := by
  by_cases h : c
  · rw [if_pos h]
    exact h1 h
  · rw [if_neg h]
    exact h2 h
theorem iteNS {c A B : Prop} [Decidable c] (hc : c) (h : B) : if (!decide c) = true then A else B := by
  rw [decide_eq_true hc]
  exact iteF h

/-! ### heaps -/
/-- all that was tracked is as it was -/
def Same (H H' : Hp) : Prop := ∀ b o, H b = some o → H' b = some o
theorem Same.refl (H : Hp) : Same H H := fun _ _ h => h
theorem Same.trans {H H1 H2 : Hp} (a : Same H H1) (b : Same H1 H2) : Same H H2 := fun c o h => b c o (a c o h)
theorem Same.free {H H' : Hp} (e : Same H H') {l : Addr} (h : H' l = Option.none) : H l = Option.none := by
  cases q : H l with
  | none => rfl
  | some o =>
    rw [e l o q] at h
    cases h
theorem Same.seq {K : PySem.W.Frag} {H H' : Hp} {a : Addr} {xs : List V} (e : Same H H') (h : SqL K H a xs) : SqL K H' a xs := by
  rcases h with (h | ⟨o, h⟩) | h
  · exact .inl (.inl (e _ _ h))
  · exact .inl (.inr ⟨o, e _ _ h⟩)
  · exact .inr h

end L2
set_option maxHeartbeats 4000000
namespace L2
open PySem PySem.Spec PyProof.Rows
section
variable {κ : Type} [DecidableEq κ]
def valV (kvs : List (κ × V)) (k : κ) : Option V := (kvs.find? fun kv => decide (kv.1 = k)).map (·.2)
/-- in its place, or at the end -/
def putK (kvs : List (κ × V)) (k : κ) (v : V) : List (κ × V) :=
  if (kvs.any fun kv => decide (kv.1 = k)) = true then kvs.map (fun kv => if kv.1 = k then (kv.1, v) else kv) else kvs ++ [(k, v)]
def dropK (kvs : List (κ × V)) (k : κ) : List (κ × V) := kvs.filter fun kv => decide (kv.1 ≠ k)
theorem valV_nil {k : κ} : valV ([] : List (κ × V)) k = none := rfl
theorem valV_pos {p : κ × V} {r : List (κ × V)} {k : κ} (e : p.1 = k) : valV (p :: r) k = some p.2 := by simp [valV, List.find?_cons, e]
theorem valV_neg {p : κ × V} {r : List (κ × V)} {k : κ} (e : ¬ p.1 = k) : valV (p :: r) k = valV r k := by simp [valV, List.find?_cons, e]
theorem valV_any (k : κ) : ∀ kvs : List (κ × V), (kvs.any fun kv => decide (kv.1 = k)) = (valV kvs k).isSome
  | [] => rfl
  | p :: r => by
    rw [List.any_cons]
    by_cases e : p.1 = k
    · simp only [valV_pos e, decide_eq_true e, Bool.true_or, Option.isSome_some]
    · rw [valV_neg e, decide_eq_false e, Bool.false_or]; exact valV_any k r
theorem valV_map (k j : κ) (y : V) : ∀ kvs : List (κ × V), valV (kvs.map fun kv => if kv.1 = k then (kv.1, y) else kv) j = (valV kvs j).map fun x => if j = k then y else x
  | [] => rfl
  | p :: r => by
    have ih := valV_map k j y r
    rw [List.map_cons]
    by_cases h : p.1 = k
    · rw [if_pos h]
      by_cases e : p.1 = j
      · rw [valV_pos (p := (p.1, y)) e, valV_pos e, Option.map_some, if_pos (e.symm.trans h)]
      · rw [valV_neg (p := (p.1, y)) e, valV_neg e, ih]
    · rw [if_neg h]
      by_cases e : p.1 = j
      · rw [valV_pos (p := p) e, valV_pos e, Option.map_some, if_neg (fun z => h (e.trans z))]
      · rw [valV_neg (p := p) e, valV_neg e, ih]
theorem valV_snoc (k j : κ) (y : V) : ∀ kvs : List (κ × V), valV kvs k = none → valV (kvs ++ [(k, y)]) j = if j = k then some y else valV kvs j
  | [], _ => by
    by_cases e : k = j
    · rw [if_pos e.symm]; exact valV_pos (p := (k, y)) e
    · rw [if_neg (fun z => e z.symm)]; exact valV_neg (p := (k, y)) e
  | p :: r, hn => by
    rw [List.cons_append]
    have hk : ¬ p.1 = k := fun z => by rw [valV_pos z] at hn; cases hn
    rw [valV_neg hk] at hn
    have ih := valV_snoc k j y r hn
    by_cases e : p.1 = j
    · rw [valV_pos e, valV_pos e, if_neg (fun z => hk (e.trans z))]
    · rw [valV_neg e, valV_neg e, ih]
theorem valV_put (kvs : List (κ × V)) (k j : κ) (y : V) : valV (putK kvs k y) j = if j = k then some y else valV kvs j := by
  unfold putK
  by_cases a : (kvs.any fun kv => decide (kv.1 = k)) = true
  · rw [if_pos a, valV_map]
    rw [valV_any] at a
    by_cases e : j = k
    · obtain ⟨x, hx⟩ := Option.isSome_iff_exists.mp a
      rw [if_pos e, e, hx, Option.map_some, if_pos rfl]
    · rw [if_neg e]
      cases valV kvs j with
      | none => rfl
      | some x => rw [Option.map_some, if_neg e]
  · rw [if_neg a]
    refine valV_snoc k j y kvs ?_
    rw [valV_any] at a
    cases q : valV kvs k with
    | none => rfl
    | some x => rw [q] at a; exact (a rfl).elim
theorem length_putK (kvs : List (κ × V)) (k : κ) (v : V) : (putK kvs k v).length ≤ kvs.length + 1 := by
  unfold putK
  split
  · rw [List.length_map]; omega
  · rw [List.length_append, List.length_cons, List.length_nil]; omega
theorem putK_new {kvs : List (κ × V)} {k : κ} (v : V) (h : valV kvs k = none) : putK kvs k v = kvs ++ [(k, v)] := by
  unfold putK
  rw [valV_any, h]
  exact if_neg (by decide)
theorem RelO.isSome_eq {o : Option V} {u : Option Value} (r : RelO o u) : o.isSome = u.isSome := by
  cases o with
  | none => cases u with
    | none => rfl
    | some _ => exact (show False from r).elim
  | some _ => cases u with
    | none => exact (show False from r).elim
    | some _ => rfl
theorem RelO.getD {o : Option V} {u : Option Value} {d : V} {d' : Value} (r : RelO o u) (rd : RelV d d') : RelV (o.getD d) (u.getD d') := by
  cases o with
  | none => cases u with
    | none => exact rd
    | some _ => exact (show False from r).elim
  | some _ => cases u with
    | none => exact (show False from r).elim
    | some _ => exact r
/-- raw tables of the same keys -/
theorem KV.val {kvs : List (κ × V)} {vs : List (κ × Value)} (r : KV kvs vs) (k : κ) : RelO (valV kvs k) (valueAt vs k) := by
  unfold KV at r
  induction r with
  | nil => exact True.intro
  | @cons p q ps qs h t ih =>
    obtain ⟨h1, h2⟩ := h
    by_cases e : p.1 = k
    · have e' : q.1 = k := h1.symm.trans e
      have b : valueAt (q :: qs) k = some q.2 := by simp [valueAt, List.find?_cons, e']
      rw [valV_pos e, b]; exact h2
    · have e' : ¬ q.1 = k := fun z => e (h1.trans z)
      have b : valueAt (q :: qs) k = valueAt qs k := by simp [valueAt, List.find?_cons, e']
      rw [valV_neg e, b]; exact ih
theorem KV.any {kvs : List (κ × V)} {vs : List (κ × Value)} (r : KV kvs vs) (k : κ) : (kvs.any fun kv => decide (kv.1 = k)) = vs.any fun kv => decide (kv.1 = k) := by
  unfold KV at r
  induction r with
  | nil => rfl
  | cons h t ih => rw [List.any_cons, List.any_cons, ih, h.1]
theorem KV.repl {kvs : List (κ × V)} {vs : List (κ × Value)} (r : KV kvs vs) (k : κ) {y : V} {u : Value} (ry : RelV y u) :
    KV (kvs.map fun kv => if kv.1 = k then (kv.1, y) else kv) (vs.map fun kv => if kv.1 = k then (kv.1, u) else kv) := by
  unfold KV at r ⊢
  induction r with
  | nil => exact .nil
  | @cons p q ps qs h t ih =>
    rw [List.map_cons, List.map_cons]
    refine .cons ?_ ih
    obtain ⟨h1, h2⟩ := h
    by_cases e : p.1 = k
    · rw [if_pos e, if_pos (h1.symm.trans e)]; exact ⟨h1, ry⟩
    · rw [if_neg e, if_neg (fun z => e (h1.trans z))]; exact ⟨h1, h2⟩
theorem KV.put {kvs : List (κ × V)} {vs : List (κ × Value)} (r : KV kvs vs) (k : κ) {y : V} {u : Value} (ry : RelV y u) : KV (putK kvs k y) (stored vs k u) := by
  unfold putK stored
  rw [r.any k]
  by_cases e : (vs.any fun kv => decide (kv.1 = k)) = true
  · rw [if_pos e, if_pos e]; exact r.repl k ry
  · rw [if_neg e, if_neg e]; exact Paired.snoc r ⟨rfl, ry⟩
theorem KV.drop {kvs : List (κ × V)} {vs : List (κ × Value)} (r : KV kvs vs) (k : κ) : KV (dropK kvs k) (without vs k) := by
  unfold KV at r ⊢
  unfold dropK without
  induction r with
  | nil => exact .nil
  | @cons p q ps qs h t ih =>
    obtain ⟨h1, h2⟩ := h
    rw [List.filter_cons, List.filter_cons]
    by_cases e : p.1 = k
    · have a : ¬ decide (p.1 ≠ k) = true := by simp [e]
      have b : ¬ decide (q.1 ≠ k) = true := by simp [h1.symm.trans e]
      rw [if_neg a, if_neg b]; exact ih
    · have e' : ¬ q.1 = k := fun z => e (h1.trans z)
      have a : decide (p.1 ≠ k) = true := by simp [e]
      have b : decide (q.1 ≠ k) = true := by simp [e']
      rw [if_pos a, if_pos b]; exact .cons ⟨h1, h2⟩ ih
theorem KV.keys {kvs : List (κ × V)} {vs : List (κ × Value)} (r : KV kvs vs) : kvs.map (·.1) = vs.map (·.1) := by
  unfold KV at r
  induction r with
  | nil => rfl
  | cons h t ih => rw [List.map_cons, List.map_cons, ih, h.1]
theorem KV.length {kvs : List (κ × V)} {vs : List (κ × Value)} (r : KV kvs vs) : kvs.length = vs.length := Paired.length r
theorem dropK_le (kvs : List (κ × V)) (k : κ) : (dropK kvs k).length ≤ kvs.length := List.length_filter_le _ _
end
theorem kV_is {P : Program} {w : World} {k : Key} {u : Value} (r : RelV (kV k) u) : (mixKind P w).is k u = true := by
  cases k with
  | inl i => obtain ⟨t, e⟩ := (show ∃ t, u = Value.int i t from r); subst e; exact mixKind_int P w i t
  | inr x => obtain ⟨t, e⟩ := (show ∃ t, u = Value.str x t from r); subst e; exact mixKind_str P w x t
theorem kV_inj {a b : Key} (e : kV a = kV b) : a = b := by
  cases a with
  | inl i => cases b with
    | inl j => have e' : V.int i = V.int j := e; injection e' with e'; rw [e']
    | inr y => exact nomatch (show V.int i = V.str y from e)
  | inr x => cases b with
    | inl j => exact nomatch (show V.str x = V.int j from e)
    | inr y => have e' : V.str x = V.str y := e; injection e' with e'; rw [e']
theorem kVs_inj : ∀ {a b : List Key}, a.map kV = b.map kV → a = b
  | [], [], _ => rfl
  | [], _ :: _, e => by simp at e
  | _ :: _, [], e => by simp at e
  | x :: xs, y :: ys, e => by
    rw [List.map_cons, List.map_cons] at e
    injection e with e1 e2
    rw [kV_inj e1, kVs_inj e2]
theorem items_are {P : Program} {w : World} : ∀ {ks : List Key} {us : List Value}, Vals (ks.map kV) us → ItemsAre (mixKind P w) ks us
  | [], _, r => by rw [List.map_nil] at r; cases r; exact .nil
  | k :: ks, _, r => by
    rw [List.map_cons] at r
    cases r with
    | cons h t => exact .cons (kV_is h) (items_are t)
/-- raw entries of a dict with tuple keys -/
abbrev KT (H : Hp) : List (List Key × V) → List (List Key × Addr × Value) → Prop := Paired fun p q => p.1 = q.1 ∧ H q.2.1 = some (.tup (p.1.map kV)) ∧ RelV p.2 q.2.2
theorem KT.val {H : Hp} {kvs : List (List Key × V)} {xs : List (List Key × Addr × Value)} (r : KT H kvs xs) (k : List Key) : RelO (valV kvs k) ((atKey xs k).map (·.2)) := by
  induction r with
  | nil => exact True.intro
  | @cons p q ps qs h t ih =>
    obtain ⟨h1, _, h2⟩ := h
    by_cases e : p.1 = k
    · have e' : q.1 = k := h1.symm.trans e
      have b : atKey (q :: qs) k = some q.2 := by simp [atKey, List.find?_cons, e']
      rw [valV_pos e, b]; exact h2
    · have e' : ¬ q.1 = k := fun z => e (h1.trans z)
      have b : atKey (q :: qs) k = atKey qs k := by simp [atKey, List.find?_cons, e']
      rw [valV_neg e, b]; exact ih
theorem KT.repl {H : Hp} {kvs : List (List Key × V)} {xs : List (List Key × Addr × Value)} (r : KT H kvs xs) (k : List Key) {y : V} {u : Value} (ry : RelV y u) :
    KT H (kvs.map fun kv => if kv.1 = k then (kv.1, y) else kv) (xs.map (putAt k u)) := by
  induction r with
  | nil => exact .nil
  | @cons p q ps qs h t ih =>
    rw [List.map_cons, List.map_cons]
    refine .cons ?_ ih
    obtain ⟨h1, h2, h3⟩ := h
    unfold putAt
    by_cases e : p.1 = k
    · rw [if_pos e, if_pos (h1.symm.trans e)]; exact ⟨h1, h2, ry⟩
    · rw [if_neg e, if_neg (fun z => e (h1.trans z))]; exact ⟨h1, h2, h3⟩
theorem KT.put {H : Hp} {kvs : List (List Key × V)} {xs : List (List Key × Addr × Value)} (r : KT H kvs xs) (k : List Key) {b : Addr} {y : V} {u : Value} (hb : H b = some (.tup (k.map kV))) (ry : RelV y u) :
    KT H (putK kvs k y) (storedH xs k b u) := by
  have e : (kvs.any fun kv => decide (kv.1 = k)) = (atKey xs k).isSome := by
    rw [valV_any, (r.val k).isSome_eq, Option.isSome_map]
  unfold putK storedH
  rw [e]
  by_cases q : (atKey xs k).isSome = true
  · rw [if_pos q, if_pos q]; exact r.repl k ry
  · rw [if_neg q, if_neg q]; exact Paired.snoc r ⟨rfl, hb, ry⟩
theorem KT.keeps {H H' : Hp} {kvs : List (List Key × V)} {xs : List (List Key × Addr × Value)} (r : KT H kvs xs) (ht : ∀ b ys, H b = some (.tup ys) → H' b = some (.tup ys)) : KT H' kvs xs :=
  Paired.mapP r fun _ _ z => ⟨z.1, ht _ _ z.2.1, z.2.2⟩
section
variable {P : Program} {w : World} {H : Hp} {h : Heap} {a : Addr}
theorem rd_of {u : HO} (ok : HOk P w H h) (e : Rd H a u) : ObjOk P w H h a u := e.ok ok
theorem dk_rd {kvs : List (Key × V)} (ok : HOk P w H h) (e : Rd H a (.dK kvs)) : kvs.length ≤ sizeLine ∧ (a == sysModules) = false ∧ ∃ vs, KV kvs vs ∧ h.DictOf (mixKind P w) a vs :=
  show ObjOk P w H h a (.dK kvs) from rd_of ok e
theorem dk_of {kvs : List (Key × V)} (ok : HOk P w H h) (e : H a = some (.dK kvs)) : kvs.length ≤ sizeLine ∧ (a == sysModules) = false ∧ ∃ vs, KV kvs vs ∧ h.DictOf (mixKind P w) a vs := dk_rd ok (.inl e)
/-- a tracked tuple of ints and texts is a key -/
theorem key_of {ks : List Key} (ok : HOk P w H h) (e : H a = some (.tup (ks.map kV))) : (tupleKind (mixKind P w)).is h ks a := by
  obtain ⟨_, its, r, o, h1, h2, n, h3⟩ := (show ObjOk P w H h a (.tup (ks.map kV)) from ok a _ e)
  exact ⟨o, its.toArray, n, h1, h2, h3, by simpa using items_are r⟩
theorem dt_rd {kvs : List (List Key × V)} (ok : HOk P w H h) (e : Rd H a (.dT kvs)) : kvs.length ≤ sizeLine ∧ (a == sysModules) = false ∧
    ∃ xs, KT H kvs xs ∧ h.DictOfH (tupleKind (mixKind P w)) a xs := by
  obtain ⟨z, y, xs, r, o, es, ep, h1, h2, h3, h4, h5⟩ := (show ObjOk P w H h a (.dT kvs) from rd_of ok e)
  refine ⟨z, y, xs, r, o, es, ep, h1, h2, h3, h4, fun x hx => ?_, h5⟩
  have all : ∀ {l : List (List Key × V)} {m : List (List Key × Addr × Value)}, KT H l m → ∀ x ∈ m, (tupleKind (mixKind P w)).is h x.1 x.2.1 := by
    intro l m q
    induction q with
    | nil => intro x hx; exact nomatch hx
    | @cons p q ps qs hq t ih =>
      intro x hx
      rcases List.mem_cons.mp hx with e | hx
      · subst e
        exact key_of ok (by rw [← hq.1]; exact hq.2.1)
      · exact ih x hx
  exact all r x hx
theorem dt_of {kvs : List (List Key × V)} (ok : HOk P w H h) (e : H a = some (.dT kvs)) : kvs.length ≤ sizeLine ∧ (a == sysModules) = false ∧
    ∃ xs, KT H kvs xs ∧ h.DictOfH (tupleKind (mixKind P w)) a xs := dt_rd ok (.inl e)
end
/-- what the dict at a holds at the key y -/
def DGet (H : Hp) (a : Addr) (y : V) (r : Option V) : Prop :=
  (∃ kvs k, Rd H a (.dK kvs) ∧ y = kV k ∧ r = valV kvs k) ∨ ∃ kvs k b, Rd H a (.dT kvs) ∧ y = .ref b ∧ H b = some (.tup (k.map kV)) ∧ r = valV kvs k
/-- the heap behind a[y] = v -/
def DPut (H : Hp) (a : Addr) (y v : V) (H' : Hp) : Prop :=
  (∃ kvs k, H a = some (.dK kvs) ∧ y = kV k ∧ kvs.length < sizeLine ∧ H' = upd H a (.dK (putK kvs k v))) ∨
  ∃ kvs k b, H a = some (.dT kvs) ∧ y = .ref b ∧ H b = some (.tup (k.map kV)) ∧ kvs.length < sizeLine ∧ H' = upd H a (.dT (putK kvs k v))
theorem DGet.k {H : Hp} {a : Addr} {kvs : List (Key × V)} {k : Key} (e : H a = some (.dK kvs)) : DGet H a (kV k) (valV kvs k) := .inl ⟨kvs, k, .inl e, rfl, rfl⟩
theorem DGet.t {H : Hp} {a b : Addr} {kvs : List (List Key × V)} {k : List Key} (e : H a = some (.dT kvs)) (eb : H b = some (.tup (k.map kV))) : DGet H a (.ref b) (valV kvs k) := .inr ⟨kvs, k, b, .inl e, rfl, eb, rfl⟩
theorem DPut.k {H : Hp} {a : Addr} {kvs : List (Key × V)} {k : Key} {v : V} (e : H a = some (.dK kvs)) (hl : kvs.length < sizeLine) : DPut H a (kV k) v (upd H a (.dK (putK kvs k v))) := .inl ⟨kvs, k, e, rfl, hl, rfl⟩
theorem DPut.t {H : Hp} {a b : Addr} {kvs : List (List Key × V)} {k : List Key} {v : V} (e : H a = some (.dT kvs)) (eb : H b = some (.tup (k.map kV))) (hl : kvs.length < sizeLine) :
    DPut H a (.ref b) v (upd H a (.dT (putK kvs k v))) := .inr ⟨kvs, k, b, e, rfl, eb, hl, rfl⟩
section
variable {X : Cx} {pins : List (Addr × Obj)} {σ : St} {H : Hp} {s : Shared} {a : Addr} {y v : V} {u r : Value} {o : Option V} {A : Around} {E : Value → Shared → Prop}
theorem Inv.big (I : Inv X pins σ H s) : sysModules < s.heap.objs.size := by
  have h : mainGlobals < s.heap.objs.size := (I.mod.glob.keeps I.bk).lt
  exact Nat.lt_trans (by decide) h
/-- d[y], there -/
theorem d_getItem {Q : Value → Shared → Prop} (hu : A.units + 1 < cLine) (I : Inv X pins σ H s) (g : DGet H a y (some v)) (ry : RelV y u) (h : ∀ w' s', Inv X pins σ H s' → RelV v w' → Q w' s') :
    wpAny (model X.prog X.w) A (getItem (.ref a) u) Q E s := by
  rcases g with ⟨kvs, k, e, ey, l⟩ | ⟨kvs, k, b, e, ey, eb, l⟩
  · subst ey
    obtain ⟨z, hd, vs, rel, dd⟩ := dk_rd I.hok e
    obtain ⟨w', hw, rw'⟩ := RelO.some_of (v := v) (o := valueAt vs k) (by rw [l]; exact rel.val k)
    exact wpAny_getItem_of (kV_is ry) dd.mapOf hw (h w' _ (I.tok _) rw')
  · subst ey
    cases (show u = Value.ref b from ry)
    obtain ⟨z, hd, xs, rel, dd⟩ := dt_rd I.hok e
    obtain ⟨w', hw, rw'⟩ := RelO.some_of (v := v) (o := (atKey xs k).map (·.2)) (by rw [l]; exact rel.val k)
    obtain ⟨p, hp, hp2⟩ := Option.map_eq_some_iff.mp hw
    refine wpAny_getItem_heap (tupleKind_room_in1 hu) (key_of I.hok eb) dd hp ?_
    rw [hp2]
    exact h w' _ (I.tok _) rw'
/-- y in d -/
theorem d_in {Q : Value → Shared → Prop} (hu : A.units + 1 < cLine) (I : Inv X pins σ H s) (g : DGet H a y o) (ry : RelV y u) (h : ∀ s', Inv X pins σ H s' → Q (.bool o.isSome) s') :
    wpAny (model X.prog X.w) A (compareOp .In u (.ref a)) Q E s := by
  rcases g with ⟨kvs, k, e, ey, l⟩ | ⟨kvs, k, b, e, ey, eb, l⟩
  · subst ey
    obtain ⟨z, hd, vs, rel, dd⟩ := dk_rd I.hok e
    refine wpAny_in_of (kV_is ry) hd dd.mapOf ?_
    rw [← (rel.val k).isSome_eq, ← l]
    exact h _ (I.tok _)
  · subst ey
    cases (show u = Value.ref b from ry)
    obtain ⟨z, hd, xs, rel, dd⟩ := dt_rd I.hok e
    refine wpAny_in_heap (tupleKind_room_in1 hu) (key_of I.hok eb) hd dd ?_
    have q := (rel.val k).isSome_eq
    rw [Option.isSome_map] at q
    rw [← q, ← l]
    exact h _ (I.tok _)
theorem d_notIn {Q : Value → Shared → Prop} (hu : A.units + 1 < cLine) (I : Inv X pins σ H s) (g : DGet H a y o) (ry : RelV y u) (h : ∀ s', Inv X pins σ H s' → Q (.bool (!o.isSome)) s') :
    wpAny (model X.prog X.w) A (compareOp .NotIn u (.ref a)) Q E s := by
  rcases g with ⟨kvs, k, e, ey, l⟩ | ⟨kvs, k, b, e, ey, eb, l⟩
  · subst ey
    obtain ⟨z, hd, vs, rel, dd⟩ := dk_rd I.hok e
    refine wpAny_notIn_of (kV_is ry) hd dd.mapOf ?_
    rw [← (rel.val k).isSome_eq, ← l]
    exact h _ (I.tok _)
  · subst ey
    cases (show u = Value.ref b from ry)
    obtain ⟨z, hd, xs, rel, dd⟩ := dt_rd I.hok e
    refine wpAny_notIn_heap (tupleKind_room_in1 hu) (key_of I.hok eb) hd dd ?_
    have q := (rel.val k).isSome_eq
    rw [Option.isSome_map] at q
    rw [← q, ← l]
    exact h _ (I.tok _)
/-- a dict's object is replaced -/
theorem d_write {h' : Heap} {t' : Nat} {ob : HO} (I : Inv X pins σ H s) (mu : Mut (H a)) (hs : Heap.SameBut a s.heap h') (he : ∃ q, h'.get? a = some q) (new : ObjOk X.prog X.w (upd H a ob) h' a ob) :
    Inv X pins σ (upd H a ob) { s with heap := h', toks := t' } :=
  I.write (x := a) (e := a) mu (.inl rfl) (fun b q hb z => (hs.2 b hb).trans z) he new
theorem dk_new {P : Program} {w : World} {H' : Hp} {h' : Heap} {kvs : List (Key × V)} {vs : List (Key × Value)} (z : kvs.length ≤ sizeLine) (hd : (a == sysModules) = false) (rel : KV kvs vs) (dd : h'.DictOf (mixKind P w) a vs) :
    ObjOk P w H' h' a (.dK kvs) := ⟨z, hd, vs, rel, dd⟩
/-- d[y] = v -/
theorem d_setItem {H' : Hp} {Q : Unit → Shared → Prop} (hu : A.units + 1 < cLine) (I : Inv X pins σ H s) (g : DPut H a y v H') (ry : RelV y u) (rv : RelV v r) (h : ∀ s', Inv X pins σ H' s' → Q () s') :
    wpAny (model X.prog X.w) A (setItem (.ref a) u r) Q E s := by
  rcases g with ⟨kvs, k, e, ey, l, eH⟩ | ⟨kvs, k, b, e, ey, eb, l, eH⟩
  · subst ey eH
    obtain ⟨z, hd, vs, rel, dd⟩ := dk_of I.hok e
    have hz : vs.length ≤ sizeLine := by rw [← rel.length]; exact z
    have hl : (putK kvs k v).length ≤ sizeLine := by have := length_putK kvs k v; omega
    refine wpAny_setItem_pairs (hsz := hz) (kV_is ry) dd fun h' dd' hs => h _ ?_
    have he : ∃ q, h'.get? a = some q := let ⟨q, _, _, hq, _⟩ := dd'; ⟨q, hq⟩
    exact d_write I (by rw [e]; exact True.intro) hs he (dk_new hl hd (rel.put k rv) dd')
  · subst ey eH
    cases (show u = Value.ref b from ry)
    obtain ⟨z, hd, xs, rel, dd⟩ := dt_of I.hok e
    have hz : xs.length ≤ sizeLine := by rw [← Paired.length rel]; exact z
    have hl : (putK kvs k v).length ≤ sizeLine := by have := length_putK kvs k v; omega
    refine wpAny_setItem_heap (hsz := hz) (tupleKind_room_in1 hu) (key_of I.hok eb) dd fun h' dd' hs => h _ ?_
    obtain ⟨q, es, ep, hq, h2, h3, h4, _, h5⟩ := dd'
    refine d_write I (by rw [e]; exact True.intro) hs ⟨q, hq⟩ ⟨hl, hd, _, (rel.put k eb rv).keeps fun c ys ec => ?_, q, es, ep, hq, h2, h3, h4, h5⟩
    rw [upd_ne (ne_of ec e (fun z => nomatch z))]
    exact ec
end
section
variable {X : Cx} {pins : List (Addr × Obj)} {σ : St} {H : Hp} {s : Shared} {a : Addr} {kvs : List (Key × V)} {k : Key} {u : Value} {A : Around} {E : Value → Shared → Prop}
/-- del d[k] -/
theorem d_delItem {Q : Unit → Shared → Prop} (I : Inv X pins σ H s) (e : H a = some (.dK kvs)) (ry : RelV (kV k) u) (l : (valV kvs k).isSome = true) (h : ∀ s', Inv X pins σ (upd H a (.dK (dropK kvs k))) s' → Q () s') :
    wpAny (model X.prog X.w) A (delItem (.ref a) u) Q E s := by
  obtain ⟨z, hd, vs, rel, dd⟩ := dk_of I.hok e
  refine wpAny_delItem_slot dd.typeIs (by decide) PySem.F.slot_dict_delitem
    (call_meetsIn PySem.F.slot_dict_delitem dd.typeIs PySem.F.entry_dict_delitem (PySem.F.args_dict_delitem_2 _ _) (meets_dict_delitem_pairs (mixKind X.prog X.w) a (kV_is ry)) ⟨vs, dd, by rw [← rel.length]; exact z, by rw [← (rel.val k).isSome_eq]; exact l, fun h' dd' hs => h _ ?_⟩)
  have he : ∃ q, h'.get? a = some q := let ⟨q, _, _, hq, _⟩ := dd'; ⟨q, hq⟩
  exact d_write I (by rw [e]; exact True.intro) hs he (dk_new (Nat.le_trans (dropK_le kvs k) z) hd (rel.drop k) dd')
/-- d.pop(k[, x]), there -/
theorem d_pop {v : V} {more : List Value} {Q : Value → Shared → Prop} (I : Inv X pins σ H s) (e : H a = some (.dK kvs)) (ry : RelV (kV k) u) (l : valV kvs k = some v) (hm : more = [] ∨ ∃ x, more = [x])
    (h : ∀ w' s', Inv X pins σ (upd H a (.dK (dropK kvs k))) s' → RelV v w' → Q w' s') : wpAny (model X.prog X.w) A (call (.builtin "dict.pop") (.ref a :: u :: more)) Q E s := by
  obtain ⟨z, hd, vs, rel, dd⟩ := dk_of I.hok e
  obtain ⟨w', hw, rw'⟩ := RelO.some_of (v := v) (o := valueAt vs k) (by rw [← l]; exact rel.val k)
  have hp : (keyPart u).isSome = true := by
    cases k with
    | inl i => obtain ⟨t, q⟩ := (show ∃ t, u = Value.int i t from ry); subst q; rfl
    | inr x => obtain ⟨t, q⟩ := (show ∃ t, u = Value.str x t from ry); subst q; rfl
  have ha : argsOk "dict.pop" ⟨.ref a :: u :: more, []⟩ := by
    rcases hm with q | ⟨x, q⟩
    · subst q; exact PySem.F.args_dict_pop_2 _ _
    · subst q; exact PySem.F.args_dict_pop_3 _ _ _
  refine call_meetsIn PySem.F.slot_dict_pop dd.typeIs PySem.F.entry_dict_pop ha (meets_dict_pop_there (mixKind X.prog X.w) a (kV_is ry) more hm hp)
    ⟨vs, w', dd, by rw [← rel.length]; exact z, hw, fun h' dd' hs => h w' _ ?_ rw'⟩
  have he : ∃ q, h'.get? a = some q := let ⟨q, _, _, hq, _⟩ := dd'; ⟨q, hq⟩
  exact d_write I (by rw [e]; exact True.intro) hs he (dk_new (Nat.le_trans (dropK_le kvs k) z) hd (rel.drop k) dd')
/-- d.pop(k, x), not there -/
theorem d_popD {r : Value} {Q : Value → Shared → Prop} (I : Inv X pins σ H s) (e : H a = some (.dK kvs)) (ry : RelV (kV k) u) (l : valV kvs k = none) (h : ∀ s', Inv X pins σ H s' → Q r s') :
    wpAny (model X.prog X.w) A (call (.builtin "dict.pop") [.ref a, u, r]) Q E s := by
  obtain ⟨z, hd, vs, rel, dd⟩ := dk_of I.hok e
  have hn : valueAt vs k = none := RelO.none_of (by rw [← l]; exact rel.val k)
  have hp : (keyPart u).isSome = true := by
    cases k with
    | inl i => obtain ⟨t, q⟩ := (show ∃ t, u = Value.int i t from ry); subst q; rfl
    | inr x => obtain ⟨t, q⟩ := (show ∃ t, u = Value.str x t from ry); subst q; rfl
  exact call_meetsIn PySem.F.slot_dict_pop dd.typeIs PySem.F.entry_dict_pop (PySem.F.args_dict_pop_3 _ _ _) (meets_dict_pop_default (mixKind X.prog X.w) a (kV_is ry) hd hp r) ⟨vs, dd, hn, h _ (I.tok _)⟩
/-- d.clear() -/
theorem d_clear {Q : Value → Shared → Prop} (I : Inv X pins σ H s) (e : H a = some (.dK kvs)) (h : ∀ s', Inv X pins σ (upd H a (.dK [])) s' → Q .none s') : wpAny (model X.prog X.w) A (call (.builtin "dict.clear") [.ref a]) Q E s := by
  obtain ⟨z, hd, vs, rel, dd⟩ := dk_of I.hok e
  refine call_meetsIn PySem.F.slot_dict_clear dd.typeIs PySem.F.entry_dict_clear (PySem.F.args_dict_clear_1 _) (meets_dict_clear (mixKind X.prog X.w) a) ⟨vs, dd, by rw [← rel.length]; exact z, fun h' dd' hs => h _ ?_⟩
  have he : ∃ q, h'.get? a = some q := let ⟨q, _, _, hq, _⟩ := dd'; ⟨q, hq⟩
  exact d_write (t' := s.toks) I (by rw [e]; exact True.intro) hs he (dk_new (Nat.zero_le _) hd .nil dd')
/-- len(d) -/
theorem d_len {Q : Value → Shared → Prop} (I : Inv X pins σ H s) (e : Rd H a (.dK kvs)) (h : ∀ t s', Inv X pins σ H s' → Q (.int kvs.length t) s') : wpAny (model X.prog X.w) A (call (.builtin "len") [.ref a]) Q E s := by
  obtain ⟨z, hd, vs, rel, dd⟩ := dk_rd I.hok e
  refine call_len_dict hd dd (by rw [← rel.length]; rw [sizeLine_eq] at z; omega) ?_
  rw [← rel.length]
  exact h _ _ (I.tok _)
/-- if d -/
theorem d_truth {Q : Bool → Shared → Prop} (I : Inv X pins σ H s) (e : Rd H a (.dK kvs)) (h : ∀ s', Inv X pins σ H s' → Q (!kvs.isEmpty) s') : wpAny (model X.prog X.w) A (truthy (.ref a)) Q E s := by
  obtain ⟨z, hd, vs, rel, dd⟩ := dk_rd I.hok e
  refine wpAny_truthy_dict hd dd (by rw [← rel.length]; rw [sizeLine_eq] at z; omega) ?_
  have q : kvs.isEmpty = vs.isEmpty := by cases rel <;> rfl
  rw [← q]
  exact h _ (I.tok _)
end
/-- the element of a subscription, not a slice -/
def NoSl (i : Expr) : Prop := ∀ ov iv, subscripted i false ov iv = operate [ov, iv] (getItem ov iv)
theorem subD_of {prog : Program} {w : World} {A : Around} {E : Value → Shared → Prop} {s : Shared} {env : Env} {value slice : Expr} {pos : Pos} {T id : String} {Q : Value → Shared → Prop}
    (hl : typeLookup (.type T) "__getitem__" = pure (some (.builtin id))) (hs : NoSl slice)
    (h : wpAny (model prog w) A (eval value env) (fun o s₁ => wpAny (model prog w) A (eval slice env) (fun i s₂ => s₂.TypeIs o T ∧ wpAny (model prog w) A (getItem o i) Q E s₂) E s₁) E s) :
    wpAny (model prog w) A (eval (.Subscript value slice pos) env) Q E s := by
  refine Subscript_ (wpAny_mono h (fun o s₁ h₁ => wpAny_mono h₁ (fun i s₂ h₂ => ?_) fun _ _ x => x) fun _ _ x => x)
  obtain ⟨hT, h₂⟩ := h₂
  unfold subscriptTail
  refine wpAny_bind ?_
  rw [getitemInPython_of_ne hT.not_modules]
  refine wpAny_bind (wpAny_specialOf hT hl ?_)
  have fin : wpAny (model prog w) A (subscripted slice false o i) (fun r s₃ => wpAny (model prog w) A (letTemporaryGo value o r >>= fun _ => pure r) Q E s₃) E s₂ := by
    rw [hs o i]
    exact wpAny_operating (wpAny_mono h₂ (fun r s₃ h₃ => wpAny_bind (wpAny_letTemporaryGo (wpAny_pure h₃))) fun _ _ x => x)
  first
    | exact wpAny_pure (wpAny_bind fin)
    | exact wpAny_bind (wpAny_pure (wpAny_bind fin))
    | exact wpAny_bind fin
theorem dict_typeIs {X : Cx} {pins : List (Addr × Obj)} {σ : St} {H : Hp} {s : Shared} {a : Addr} {y : V} {o : Option V} (I : Inv X pins σ H s) (g : DGet H a y o) : s.TypeIs (.ref a) "dict" := by
  rcases g with ⟨kvs, k, e, _, _⟩ | ⟨kvs, k, b, e, _, _, _⟩
  · obtain ⟨_, _, vs, _, dd⟩ := dk_rd I.hok e
    exact dd.typeIs
  · obtain ⟨_, _, xs, _, dd⟩ := dt_rd I.hok e
    exact dd.typeIs
theorem dict_noDict {X : Cx} {pins : List (Addr × Obj)} {σ : St} {H : Hp} {s : Shared} {a : Addr} {y : V} {o : Option V} (I : Inv X pins σ H s) (g : DGet H a y o) :
    ∀ b, Value.ref a = .ref b → ∃ ob, s.heap.get? b = some ob ∧ ob.dict = none := fun b q => by
  cases q
  rcases g with ⟨kvs, k, e, _, _⟩ | ⟨kvs, k, b, e, _, _, _⟩
  · obtain ⟨_, _, vs, _, ob, _, _, h1, h2, _⟩ := dk_rd I.hok e
    exact ⟨ob, h1, h2.2.1⟩
  · obtain ⟨_, _, xs, _, ob, _, _, h1, h2, _⟩ := dt_rd I.hok e
    exact ⟨ob, h1, h2.2.1⟩
/-- d[y] -/
def tDGet (td ty : TE) : TE := fun σ H Q => td σ H fun x H1 => ty σ H1 fun y H2 => ∃ a v, x = .ref a ∧ DGet H2 a y (some v) ∧ Q v H2
/-- y in d, y not in d -/
def tDIn (ty td : TE) : TE := fun σ H Q => ty σ H fun y H1 => td σ H1 fun x H2 => ∃ a o, x = .ref a ∧ DGet H2 a y o ∧ Q (.bl o.isSome) H2
def tDNotIn (ty td : TE) : TE := fun σ H Q => ty σ H fun y H1 => td σ H1 fun x H2 => ∃ a o, x = .ref a ∧ DGet H2 a y o ∧ Q (.bl (!o.isSome)) H2
/-- d[y] = v -/
def sDPut (td ty tv : TE) : TS := fun D σ H => tv σ H fun v H1 => td σ H1 fun x H2 => ty σ H2 fun y H3 => ∃ a H4, x = .ref a ∧ DPut H3 a y v H4 ∧ D.nx σ H4
/-- d[y] op= v -/
def sDAug (td ty tv : TE) (rd : V → V → Hp → VK → Prop) : TS := fun D σ H => td σ H fun x H1 => ty σ H1 fun y H2 => ∃ a v, x = .ref a ∧ DGet H2 a y (some v) ∧
  tv σ H2 fun y2 H3 => rd v y2 H3 fun z H4 => ∃ H5, DPut H4 a y z H5 ∧ D.nx σ H5
/-- del d[y] -/
def sDDel (td ty : TE) : TS := fun D σ H => td σ H fun x H1 => ty σ H1 fun y H2 => ∃ a kvs k, x = .ref a ∧ H2 a = some (.dK kvs) ∧ y = kV k ∧ (valV kvs k).isSome = true ∧ D.nx σ (upd H2 a (.dK (dropK kvs k)))
section
variable {X : Cx} {o i e value : Expr} {pos pos' tpos : Pos} {td ty tv : TE}
theorem pe_dget (hu : X.A.units + 1 < cLine) (ho : PE X o td) (hi : PE X i ty) (hs : NoSl i) : PE X (.Subscript o i pos) (tDGet td ty) := by
  intro pins s σ H Q I h
  refine subD_of PySem.F.slot_dict_getitem.lookup hs (thn (ho pins s σ H _ I h) fun u s1 ⟨x, H1, I1, rx, q1⟩ => thn (hi pins s1 σ H1 _ I1 q1) fun iv s2 ⟨y, H2, I2, ry, a, v, ex, g, q2⟩ => ?_)
  subst ex
  obtain rfl : u = Value.ref a := rx
  exact ⟨dict_typeIs I2 g, d_getItem hu I2 g ry fun w' s3 I3 rw' => ⟨v, H2, I3, rw', q2⟩⟩
theorem pc_din (hu : X.A.units + 1 < cLine) (hi : PE X i ty) (ho : PE X o td) : PC X .In i o (tDIn ty td) := by
  intro pins s σ H Q I h
  refine thn (hi pins s σ H _ I h) fun iv s1 ⟨y, H1, I1, ry, q1⟩ => thn (ho pins s1 σ H1 _ I1 q1) fun u s2 ⟨x, H2, I2, rx, a, ov, ex, g, q2⟩ => ?_
  subst ex
  obtain rfl : u = Value.ref a := rx
  exact d_in hu I2 g ry fun s3 I3 => ⟨.bl ov.isSome, H2, I3, rfl, q2⟩
theorem pc_dnotin (hu : X.A.units + 1 < cLine) (hi : PE X i ty) (ho : PE X o td) : PC X .NotIn i o (tDNotIn ty td) := by
  intro pins s σ H Q I h
  refine thn (hi pins s σ H _ I h) fun iv s1 ⟨y, H1, I1, ry, q1⟩ => thn (ho pins s1 σ H1 _ I1 q1) fun u s2 ⟨x, H2, I2, rx, a, ov, ex, g, q2⟩ => ?_
  subst ex
  obtain rfl : u = Value.ref a := rx
  exact d_notIn hu I2 g ry fun s3 I3 => ⟨.bl (!ov.isSome), H2, I3, rfl, q2⟩
theorem ps_dput (hu : X.A.units + 1 < cLine) (ho : PE X o td) (hi : PE X i ty) (hv : PE X value tv) (hs : swapsWith value (some (.Subscript o i pos')) pos.line X.env = pure false) :
    PS X (.Assign [.Subscript o i pos'] value pos) (sDPut td ty tv) := by
  intro pins s σ H D I h
  refine wpAny_Assign_Subscript (thn (hv pins s σ H _ I h) fun r s1 ⟨v, H1, I1, rv, q1⟩ => thn (ho pins s1 σ H1 _ I1 q1) fun u s2 ⟨x, H2, I2, rx, q2⟩ => thn (hi pins s2 σ H2 _ I2 q2) fun iv s3 ⟨y, H3, I3, ry, a, H4, ex, g, q3⟩ => ?_) hs
  subst ex
  obtain rfl : u = Value.ref a := rx
  exact d_setItem hu I3 g ry rv fun s4 I4 => ⟨σ, H4, I4, q3⟩
theorem ps_daug {op : Operator} {rd : V → V → Hp → VK → Prop} (hu : X.A.units + 1 < cLine) (ho : PE X o td) (hi : PE X i ty) (hv : PE X value tv) (hop : InOp X op rd)
    (ha : ∀ ov iv new, augStore i ov iv new = (do holding [new, ov, iv] (setItem ov iv new); release [new, ov, iv] []; pure .next)) : PS X (.AugAssign (.Subscript o i tpos) op value pos) (sDAug td ty tv rd) := by
  intro pins s σ H D I h
  refine wpAny_AugAssign_SubscriptAny (thn (ho pins s σ H _ I h) fun u s1 ⟨x, H1, I1, rx, q1⟩ => thn (hi pins s1 σ H1 _ I1 q1) fun iv s2 ⟨y, H2, I2, ry, a, v, ex, g, q2⟩ => ?_) ha
  subst ex
  obtain rfl : u = Value.ref a := rx
  refine d_getItem hu I2 g ry fun w' s3 I3 rw' => thn (hv pins s3 σ H2 _ I3 q2) fun w2 s4 ⟨y2, H3, I4, ry2, q3⟩ => thn (hop pins s4 σ H3 v y2 w' w2 _ I4 rw' ry2 q3) fun w3 s5 ⟨z, H4, I5, rz, H5, g5, q4⟩ => ?_
  exact d_setItem hu I5 g5 ry rz fun s6 I6 => ⟨σ, H5, I6, q4⟩
theorem ps_ddel (ho : PE X o td) (hi : PE X i ty) : PS X (.Delete [.Subscript o i tpos] pos) (sDDel td ty) := by
  intro pins s σ H D I h
  refine wpAny_Delete (wpAny_deleteEach_cons (wpAny_delete_Subscript (thn (ho pins s σ H _ I h) fun u s1 ⟨x, H1, I1, rx, q1⟩ => thn (hi pins s1 σ H1 _ I1 q1) fun iv s2 ⟨y, H2, I2, ry, a, kvs, k, ex, e, ey, l, q2⟩ => ?_)))
  subst ex ey
  obtain rfl : u = Value.ref a := rx
  exact d_delItem I2 e ry l fun s3 I3 => wpAny_deleteEach_nil ⟨σ, _, I3, q2⟩
end
theorem dk_empty {P : Program} {w : World} {H : Hp} (h : Heap) (hb : sysModules < h.objs.size) : ObjOk P w H (h.push { cls := .type "dict", data := .dict #[] }) h.objs.size (.dK []) :=
  ⟨Nat.zero_le _, beq_eq_false_iff_ne.mpr (Ne.symm (Nat.ne_of_lt hb)), [], .nil, Heap.DictOf.new h⟩
theorem dt_empty {P : Program} {w : World} {H : Hp} (h : Heap) (hb : sysModules < h.objs.size) : ObjOk P w H (h.push { cls := .type "dict", data := .dict #[] }) h.objs.size (.dT []) :=
  ⟨Nat.zero_le _, beq_eq_false_iff_ne.mpr (Ne.symm (Nat.ne_of_lt hb)), [], .nil, _, #[], 0, Heap.get?_push_size _ rfl, ⟨rfl, rfl, rfl⟩, rfl, rfl, List.nodup_nil⟩
/-- {}, to be a dict of the kind that is wanted -/
def tDNewK : TE := fun _ H Q => ∀ p, H p = none → Q (.ref p) (upd H p (.dK []))
def tDNewT : TE := fun _ H Q => ∀ p, H p = none → Q (.ref p) (upd H p (.dT []))
section
variable {X : Cx} {pos : Pos}
theorem pe_dnewK : PE X (.Dict [] [] pos) tDNewK := fun pins s σ H Q I h =>
  wpAny_Dict_empty ⟨.ref s.heap.objs.size, _, I.laid (a := s.heap.objs.size) (o := .dK []) (t' := s.toks) (fun _ _ q => Heap.get?_push_of_some _ q) (Nat.le_refl _) (dk_empty s.heap I.big), rfl, h _ (I.hok.fresh (Nat.le_refl _))⟩
theorem pe_dnewT : PE X (.Dict [] [] pos) tDNewT := fun pins s σ H Q I h =>
  wpAny_Dict_empty ⟨.ref s.heap.objs.size, _, I.laid (a := s.heap.objs.size) (o := .dT []) (t' := s.toks) (fun _ _ q => Heap.get?_push_of_some _ q) (Nat.le_refl _) (dt_empty s.heap I.big), rfl, h _ (I.hok.fresh (Nat.le_refl _))⟩
end
/-- the pairs of a display, from the left -/
def tPairs : List (TE × TE) → St → Hp → (List (V × V) → Hp → Prop) → Prop
  | [], _, H, Q => Q [] H
  | (tk, tv) :: r, σ, H, Q => tk σ H fun x H1 => tv σ H1 fun y H2 => tPairs r σ H2 fun ps H3 => Q ((x, y) :: ps) H3
abbrev VV : List (V × V) → List (Value × Value) → Prop := Paired fun p q => RelV p.1 q.1 ∧ RelV p.2 q.2
def PPs (X : Cx) (pos : Pos) (keys : List (Option Expr)) (values : List Expr) (trs : List (TE × TE)) : Prop :=
  ∀ (pins : List (Addr × Obj)) (s : Shared) (σ : St) (H : Hp) (Q : List (V × V) → Hp → Prop), Inv X pins σ H s → tPairs trs σ H Q →
    wpAny (model X.prog X.w) X.A (evalPairs (pairTrees keys values X.env pos)) (fun vs s' => ∃ ps H', Inv X pins σ H' s' ∧ VV ps vs ∧ Q ps H') X.xe s
theorem pps_nil {X : Cx} {pos : Pos} : PPs X pos [] [] [] := fun pins s σ H Q I h => pairTrees_nil_walk ⟨[], H, I, .nil, h⟩
theorem pps_cons {X : Cx} {pos : Pos} {k v : Expr} {ks : List (Option Expr)} {vs : List Expr} {tk tv : TE} {trs : List (TE × TE)} (hk : PE X k tk) (hv : PE X v tv) (hr : PPs X pos ks vs trs) :
    PPs X pos (some k :: ks) (v :: vs) ((tk, tv) :: trs) := fun pins s σ H Q I h =>
  pairTrees_cons_walk (thn (hk pins s σ H _ I h) fun u s1 ⟨x, H1, I1, rx, q1⟩ => thn (hv pins s1 σ H1 _ I1 q1) fun w2 s2 ⟨y, H2, I2, ry, q2⟩ =>
    thn (hr pins s2 σ H2 _ I2 q2) fun ws s3 ⟨ps, H3, I3, rel, q3⟩ => ⟨(x, y) :: ps, H3, I3, .cons ⟨rx, ry⟩ rel, q3⟩)
def mergeK (kvs more : List (Key × V)) : List (Key × V) := more.foldl (fun acc kv => putK acc kv.1 kv.2) kvs
theorem KV.merge : ∀ {more : List (Key × V)} {rs : List (Key × Value)} {kvs : List (Key × V)} {vs : List (Key × Value)}, KV more rs → KV kvs vs → KV (mergeK kvs more) (merged vs rs) := by
  intro more rs kvs vs r
  unfold KV at r
  induction r generalizing kvs vs with
  | nil => intro q; exact q
  | @cons p q ps qs h t ih =>
    intro r0
    have e : KV (putK kvs p.1 p.2) (stored vs q.1 q.2) := by
      have := r0.put p.1 h.2
      rw [← h.1]; exact this
    exact ih e
theorem length_mergeK : ∀ (more kvs : List (Key × V)), (mergeK kvs more).length ≤ kvs.length + more.length
  | [], kvs => by show kvs.length ≤ kvs.length + 0; omega
  | p :: r, kvs => by
    have h1 := length_mergeK r (putK kvs p.1 p.2)
    have h2 := length_putK kvs p.1 p.2
    show (mergeK (putK kvs p.1 p.2) r).length ≤ _
    rw [List.length_cons]; omega
theorem carries_of {P : Program} {w : World} : ∀ {kvs : List (Key × V)} {ws : List (Value × Value)}, VV (kvs.map fun kv => (kV kv.1, kv.2)) ws → ∃ rs, Carries (mixKind P w) ws rs ∧ KV kvs rs
  | [], _, r => by rw [List.map_nil] at r; cases r; exact ⟨[], True.intro, .nil⟩
  | p :: kvs, _, r => by
    rw [List.map_cons] at r
    cases r with
    | @cons a b as bs h t =>
      obtain ⟨rs, c, q⟩ := carries_of (P := P) (w := w) t
      obtain ⟨b1, b2⟩ := b
      exact ⟨(p.1, b2) :: rs, ⟨kV_is h.1, rfl, c⟩, .cons ⟨rfl, h.2⟩ q⟩
/-- {k: v, ..} with keys ints and texts; the new dict stands empty while the pairs are made -/
def tDisp (trs : List (TE × TE)) : TE := fun σ H Q => ∀ p, H p = none → tPairs trs σ (upd H p (.dK [])) fun ps H2 => H2 p = some (.dK []) ∧ ∃ kvs : List (Key × V), ps = kvs.map (fun kv => (kV kv.1, kv.2)) ∧ kvs.length ≤ 15 ∧ Q (.ref p) (upd H2 p (.dK (mergeK [] kvs)))
theorem pe_disp {X : Cx} {pos : Pos} {keys : List (Option Expr)} {values : List Expr} {trs : List (TE × TE)} (h : PPs X pos keys values trs) (hall : keys.all (·.isSome) = true) (hl : keys.length = values.length) (h0 : keys ≠ [])
    (h15 : keys.length ≤ 15) : PE X (.Dict keys values pos) (tDisp trs) := by
  intro pins s σ H Q I q
  have hn := I.hok.fresh (Nat.le_refl s.heap.objs.size)
  have I1 := I.laid (a := s.heap.objs.size) (o := .dK []) (h' := s.heap.push { cls := .type "dict", data := .dict #[] }) (t' := s.toks) (fun _ _ q => Heap.get?_push_of_some _ q) (Nat.le_refl _) (dk_empty s.heap I.big)
  refine wpAny_Dict_walk (knd := mixKind X.prog X.w) hall hl h0 h15 (thn (h pins _ σ _ _ I1 (q _ hn)) fun ws s2 ⟨ps, H2, I2, rel, e, kvs, ep, lk, q2⟩ => ?_)
  subst ep
  obtain ⟨rs, c, rk⟩ := carries_of (P := X.prog) (w := X.w) rel
  obtain ⟨z, hd, vs0, r0, dd⟩ := dk_of I2.hok e
  cases r0
  refine ⟨rs, c, dd, fun h' dd' hs => ⟨.ref s.heap.objs.size, _, ?_, rfl, q2⟩⟩
  have hz : (mergeK [] kvs).length ≤ sizeLine := by
    have h1 := length_mergeK kvs []
    rw [List.length_nil] at h1
    rw [sizeLine_eq]; omega
  have he : ∃ q, h'.get? s.heap.objs.size = some q := let ⟨q, _, _, hq, _⟩ := dd'; ⟨q, hq⟩
  exact d_write I2 (by rw [e]; exact True.intro) hs he (dk_new hz hd (rk.merge .nil) dd')
/-- a method call o.m(e) of a built-in, with one argument: what must be seen of the text -/
structure M1 (X : Cx) (o : Expr) (m : Str) (apos : Pos) (e : Expr) (cpos : Pos) : Prop where
  base : attributeBase o m X.env (eval o X.env) = eval o X.env
  few : ((backTo cpos (starEach [e] X.env)).all (fun x => !x.1) && (backToKw cpos (keywordEach [] X.env)).all (fun x => x.1.isSome)
    && decide (([e] : List Expr).length + ([] : List Keyword).length + (if ([] : List Keyword).isEmpty then 0 else 1) < 30)) = true
  line : (apos.endLine == cpos.line) = true
  trees : backTo cpos (starEach [e] X.env) = [(false, eval e X.env)]
structure M2 (X : Cx) (o : Expr) (m : Str) (apos : Pos) (e f : Expr) (cpos : Pos) : Prop where
  base : attributeBase o m X.env (eval o X.env) = eval o X.env
  few : ((backTo cpos (starEach [e, f] X.env)).all (fun x => !x.1) && (backToKw cpos (keywordEach [] X.env)).all (fun x => x.1.isSome)
    && decide (([e, f] : List Expr).length + ([] : List Keyword).length + (if ([] : List Keyword).isEmpty then 0 else 1) < 30)) = true
  line : (apos.endLine == cpos.line) = true
  trees : backTo cpos (starEach [e, f] X.env) = [(false, eval e X.env), (false, eval f X.env)]
/-- a is a dict, whatever its keys -/
def IsD (H : Hp) (a : Addr) : Prop := (∃ kvs, Rd H a (.dK kvs)) ∨ ∃ kvs, Rd H a (.dT kvs)
theorem isD_at {X : Cx} {pins : List (Addr × Obj)} {σ : St} {H : Hp} {s : Shared} {a : Addr} (I : Inv X pins σ H s) (d : IsD H a) :
    s.TypeIs (.ref a) "dict" ∧ (∀ b, Value.ref a = .ref b → ∃ ob, s.heap.get? b = some ob ∧ ob.dict = none) ∧ (a == sysModules) = false := by
  rcases d with ⟨kvs, e⟩ | ⟨kvs, e⟩
  · obtain ⟨_, hd, vs, _, dd⟩ := dk_rd I.hok e
    refine ⟨dd.typeIs, fun b q => ?_, hd⟩
    cases q
    obtain ⟨ob, _, _, h1, h2, _⟩ := dd
    exact ⟨ob, h1, h2.2.1⟩
  · obtain ⟨_, hd, xs, _, dd⟩ := dt_rd I.hok e
    refine ⟨dd.typeIs, fun b q => ?_, hd⟩
    cases q
    obtain ⟨ob, _, _, h1, h2, _⟩ := dd
    exact ⟨ob, h1, h2.2.1⟩
section
variable {X : Cx} {pins : List (Addr × Obj)} {σ : St} {H : Hp} {s : Shared} {a : Addr} {y d : V} {u r : Value} {o : Option V} {A : Around} {E : Value → Shared → Prop}
/-- d.get(y) -/
theorem d_get1 {Q : Value → Shared → Prop} (hu : A.units + 1 < cLine) (I : Inv X pins σ H s) (g : DGet H a y o) (ry : RelV y u) (h : ∀ w' s', Inv X pins σ H s' → RelV (o.getD .non) w' → Q w' s') :
    wpAny (model X.prog X.w) A (call (.builtin "dict.get") [.ref a, u]) Q E s := by
  rcases g with ⟨kvs, k, e, ey, l⟩ | ⟨kvs, k, b, e, ey, eb, l⟩
  · subst ey
    obtain ⟨z, hd, vs, rel, dd⟩ := dk_rd I.hok e
    refine call_meetsIn PySem.F.slot_dict_get dd.typeIs PySem.F.entry_dict_get (PySem.F.args_dict_get_2 _ _) (meets_dict_get (mixKind X.prog X.w) a (kV_is ry) hd) ⟨_, dd.mapOf, h _ _ (I.tok _) ?_⟩
    rw [l]
    exact (rel.val k).getD rfl
  · subst ey
    cases (show u = Value.ref b from ry)
    obtain ⟨z, hd, xs, rel, dd⟩ := dt_rd I.hok e
    refine call_meetsIn PySem.F.slot_dict_get dd.typeIs PySem.F.entry_dict_get (PySem.F.args_dict_get_2 _ _) (meetsH_dict_get (tupleKind (mixKind X.prog X.w)) a b hd) ⟨tupleKind_room_in1 hu, k, xs, key_of I.hok eb, dd, h _ _ (I.tok _) ?_⟩
    rw [l]
    exact (rel.val k).getD rfl
/-- d.get(y, x) -/
theorem d_get2 {Q : Value → Shared → Prop} (hu : A.units + 1 < cLine) (I : Inv X pins σ H s) (g : DGet H a y o) (ry : RelV y u) (rd : RelV d r) (h : ∀ w' s', Inv X pins σ H s' → RelV (o.getD d) w' → Q w' s') :
    wpAny (model X.prog X.w) A (call (.builtin "dict.get") [.ref a, u, r]) Q E s := by
  rcases g with ⟨kvs, k, e, ey, l⟩ | ⟨kvs, k, b, e, ey, eb, l⟩
  · subst ey
    obtain ⟨z, hd, vs, rel, dd⟩ := dk_rd I.hok e
    refine call_meetsIn PySem.F.slot_dict_get dd.typeIs PySem.F.entry_dict_get (PySem.F.args_dict_get_3 _ _ _) (meets_dict_get_default (mixKind X.prog X.w) a (kV_is ry) hd r) ⟨_, dd.mapOf, h _ _ (I.tok _) ?_⟩
    rw [l]
    exact (rel.val k).getD rd
  · subst ey
    cases (show u = Value.ref b from ry)
    obtain ⟨z, hd, xs, rel, dd⟩ := dt_rd I.hok e
    refine call_meetsIn PySem.F.slot_dict_get dd.typeIs PySem.F.entry_dict_get (PySem.F.args_dict_get_3 _ _ _) (meetsH_dict_get_default (tupleKind (mixKind X.prog X.w)) a b hd r) ⟨tupleKind_room_in1 hu, k, xs, key_of I.hok eb, dd, h _ _ (I.tok _) ?_⟩
    rw [l]
    exact (rel.val k).getD rd
end
def tDGet1 (td ty : TE) : TE := fun σ H Q => td σ H fun x H1 => ∃ a, x = .ref a ∧ IsD H1 a ∧ ty σ H1 fun y H2 => ∃ o, DGet H2 a y o ∧ Q (o.getD .non) H2
def tDGet2 (td ty tx : TE) : TE := fun σ H Q => td σ H fun x H1 => ∃ a, x = .ref a ∧ IsD H1 a ∧ ty σ H1 fun y H2 => tx σ H2 fun z H3 => ∃ o, DGet H3 a y o ∧ Q (o.getD z) H3
/-- d.pop(k): there; d.pop(k, x): there or not -/
def tDPop1 (td ty : TE) : TE := fun σ H Q => td σ H fun x H1 => ∃ a, x = .ref a ∧ IsD H1 a ∧ ty σ H1 fun y H2 => ∃ kvs k v, H2 a = some (.dK kvs) ∧ y = kV k ∧ valV kvs k = some v ∧ Q v (upd H2 a (.dK (dropK kvs k)))
def tDPop2 (td ty tx : TE) : TE := fun σ H Q => td σ H fun x H1 => ∃ a, x = .ref a ∧ IsD H1 a ∧ ty σ H1 fun y H2 => tx σ H2 fun z H3 => ∃ kvs k, H3 a = some (.dK kvs) ∧ y = kV k ∧
  (∀ v, valV kvs k = some v → Q v (upd H3 a (.dK (dropK kvs k)))) ∧ (valV kvs k = none → Q z H3)
section
variable {X : Cx} {o e f : Expr} {apos cpos : Pos} {td ty tx : TE}
theorem pe_dget1 (hu : X.A.units + 1 < cLine) (ho : PE X o td) (he : PE X e ty) (m : M1 X o "get" apos e cpos) : PE X (.Call (.Attribute o "get" apos) [e] [] cpos) (tDGet1 td ty) := by
  intro pins s σ H Q I h
  refine wpAny_Call_method m.base m.few m.line PySem.F.plainAttrs_dict PySem.F.slot_dict_get PySem.F.type_dict_get (thn (ho pins s σ H _ I h) fun u s1 ⟨x, H1, I1, rx, a, ex, d, q1⟩ => ?_)
  subst ex
  obtain rfl : u = Value.ref a := rx
  obtain ⟨t1, t2, _⟩ := isD_at I1 d
  refine ⟨t1, t2, ?_⟩
  rw [m.trees]
  refine Calls.callWith_builtin rfl (Calls.evalArgs_plain (Calls.spliced_cons (thn (he pins s1 σ H1 _ I1 q1) fun iv s2 ⟨y, H2, I2, ry, ov, g, q2⟩ => Calls.spliced_nil ?_)))
  exact d_get1 hu I2 g ry fun w' s3 I3 rw' => ⟨_, H2, I3, rw', q2⟩
theorem pe_dget2 (hu : X.A.units + 1 < cLine) (ho : PE X o td) (he : PE X e ty) (hf : PE X f tx) (m : M2 X o "get" apos e f cpos) : PE X (.Call (.Attribute o "get" apos) [e, f] [] cpos) (tDGet2 td ty tx) := by
  intro pins s σ H Q I h
  refine wpAny_Call_method m.base m.few m.line PySem.F.plainAttrs_dict PySem.F.slot_dict_get PySem.F.type_dict_get (thn (ho pins s σ H _ I h) fun u s1 ⟨x, H1, I1, rx, a, ex, d, q1⟩ => ?_)
  subst ex
  obtain rfl : u = Value.ref a := rx
  obtain ⟨t1, t2, _⟩ := isD_at I1 d
  refine ⟨t1, t2, ?_⟩
  rw [m.trees]
  refine Calls.callWith_builtin rfl (Calls.evalArgs_plain (Calls.spliced_cons (thn (he pins s1 σ H1 _ I1 q1) fun iv s2 ⟨y, H2, I2, ry, q2⟩ =>
    Calls.spliced_cons (thn (hf pins s2 σ H2 _ I2 q2) fun fv s3 ⟨z, H3, I3, rz, ov, g, q3⟩ => Calls.spliced_nil ?_))))
  exact d_get2 hu I3 g ry rz fun w' s4 I4 rw' => ⟨_, H3, I4, rw', q3⟩
theorem pe_dpop1 (ho : PE X o td) (he : PE X e ty) (m : M1 X o "pop" apos e cpos) : PE X (.Call (.Attribute o "pop" apos) [e] [] cpos) (tDPop1 td ty) := by
  intro pins s σ H Q I h
  refine wpAny_Call_method m.base m.few m.line PySem.F.plainAttrs_dict PySem.F.slot_dict_pop PySem.F.type_dict_pop (thn (ho pins s σ H _ I h) fun u s1 ⟨x, H1, I1, rx, a, ex, d, q1⟩ => ?_)
  subst ex
  obtain rfl : u = Value.ref a := rx
  obtain ⟨t1, t2, _⟩ := isD_at I1 d
  refine ⟨t1, t2, ?_⟩
  rw [m.trees]
  refine Calls.callWith_builtin rfl (Calls.evalArgs_plain (Calls.spliced_cons (thn (he pins s1 σ H1 _ I1 q1) fun iv s2 ⟨y, H2, I2, ry, kvs, k, v, ea, ey, l, q2⟩ => Calls.spliced_nil ?_)))
  subst ey
  exact d_pop I2 ea ry l (.inl rfl) fun w' s3 I3 rw' => ⟨v, _, I3, rw', q2⟩
theorem pe_dpop2 (ho : PE X o td) (he : PE X e ty) (hf : PE X f tx) (m : M2 X o "pop" apos e f cpos) : PE X (.Call (.Attribute o "pop" apos) [e, f] [] cpos) (tDPop2 td ty tx) := by
  intro pins s σ H Q I h
  refine wpAny_Call_method m.base m.few m.line PySem.F.plainAttrs_dict PySem.F.slot_dict_pop PySem.F.type_dict_pop (thn (ho pins s σ H _ I h) fun u s1 ⟨x, H1, I1, rx, a, ex, d, q1⟩ => ?_)
  subst ex
  obtain rfl : u = Value.ref a := rx
  obtain ⟨t1, t2, _⟩ := isD_at I1 d
  refine ⟨t1, t2, ?_⟩
  rw [m.trees]
  refine Calls.callWith_builtin rfl (Calls.evalArgs_plain (Calls.spliced_cons (thn (he pins s1 σ H1 _ I1 q1) fun iv s2 ⟨y, H2, I2, ry, q2⟩ =>
    Calls.spliced_cons (thn (hf pins s2 σ H2 _ I2 q2) fun fv s3 ⟨z, H3, I3, rz, kvs, k, ea, ey, q3, q4⟩ => Calls.spliced_nil ?_))))
  subst ey
  cases l : valV kvs k with
  | some v => exact d_pop I3 ea ry l (.inr ⟨fv, rfl⟩) fun w' s4 I4 rw' => ⟨v, _, I4, rw', q3 v l⟩
  | none => exact d_popD I3 ea ry l fun s4 I4 => ⟨z, H3, I4, rz, q4 l⟩
end
section
variable {X : Cx} {pins : List (Addr × Obj)} {σ : St} {H : Hp} {s : Shared} {a : Addr} {kvs : List (Key × V)} {A : Around} {E : Value → Shared → Prop}
theorem d_copyOf {Q : Value → Shared → Prop} (I : Inv X pins σ H s) (e : Rd H a (.dK kvs)) (h : ∀ p s', H p = none → Inv X pins σ (upd H p (.dK kvs)) s' → Q (.ref p) s') : wpAny (model X.prog X.w) A (call (.type "dict") [.ref a]) Q E s := by
  obtain ⟨z, hd, vs, rel, dd⟩ := dk_rd I.hok e
  refine kt_call_dict hd dd (by rw [← rel.length]; exact z) fun h' dd' hs => ?_
  refine h _ _ (I.hok.fresh (Nat.le_refl _)) (I.laid (a := s.heap.objs.size) (o := .dK kvs) (t' := s.toks) (fun b q hq => ?_) (Nat.le_refl _) (dk_new z (beq_eq_false_iff_ne.mpr (Ne.symm (Nat.ne_of_lt I.big))) rel dd'))
  exact (hs.2 b (Nat.ne_of_lt (Heap.lt_size hq))).trans (Heap.get?_push_of_some _ hq)
end
section
variable {X : Cx} {pins : List (Addr × Obj)} {σ : St} {H : Hp} {s : Shared} {a : Addr} {y : V} {u : Value} {A : Around} {E : Value → Shared → Prop}
/-- d[y], not there: a KeyError -/
theorem d_missing {Q : Value → Shared → Prop} (hu : A.units + 1 < cLine) (hh : A.handled = none) (I : Inv X pins σ H s) (g : DGet H a y none) (ry : RelV y u)
    (h : ∀ h' e t', Heap.NewExc s.heap h' e "KeyError" → E (.ref e) { s with heap := h', toks := t' }) : wpAny (model X.prog X.w) A (getItem (.ref a) u) Q E s := by
  rcases g with ⟨kvs, k, e, ey, l⟩ | ⟨kvs, k, b, e, ey, eb, l⟩
  · subst ey
    obtain ⟨z, hd, vs, rel, dd⟩ := dk_rd I.hok e
    have hn : valueAt vs k = none := RelO.none_of (by rw [l]; exact rel.val k)
    exact wpAny_getItem_missing_of (kV_is ry) hd hh dd.mapOf hn fun h' ex ne => h h' ex _ ne
  · subst ey
    cases (show u = Value.ref b from ry)
    obtain ⟨z, hd, xs, rel, dd⟩ := dt_rd I.hok e
    have hn : (atKey xs k).map (·.2) = none := RelO.none_of (by rw [l]; exact rel.val k)
    exact wpAny_getItem_missing_heap (tupleKind_room_in1 hu) (key_of I.hok eb) hd hh dd (Option.map_eq_none_iff.mp hn) fun h' ex ne => h h' ex _ ne
end
end L2
namespace L2
open PySem PySem.Spec PyProof.Rows
section
variable {X : Cx}
/-- len of a dict -/
theorem call_lenD : CallR X (.builtin "len") (fun xs H Q => ∃ a kvs, xs = [V.ref a] ∧ H a = some (.dK kvs) ∧ Q (.int kvs.length) H) := by
  intro pins s σ H xs us Q I r h
  obtain ⟨a, kvs, rfl, ha, q⟩ := h
  obtain ⟨u, rfl, ru⟩ := vals1 r
  cases ru
  exact d_len I (.inl ha) fun t s' I' => ⟨.int kvs.length, H, I', ⟨t, rfl⟩, q⟩
end
section
variable {κ : Type} [DecidableEq κ]
theorem valV_not {kvs : List (κ × V)} {k : κ} (h : valV kvs k = none) : ¬ k ∈ kvs.map (·.1) := by
  intro m
  obtain ⟨p, hp, e⟩ := List.mem_map.mp m
  have q : (kvs.any fun kv => decide (kv.1 = k)) = true := List.any_eq_true.mpr ⟨p, hp, decide_eq_true e⟩
  rw [valV_any, h] at q
  exact absurd q (by simp)
theorem valV_in {kvs : List (κ × V)} {k : κ} {v : V} (h : valV kvs k = some v) : k ∈ kvs.map (·.1) := by
  have q : (kvs.any fun kv => decide (kv.1 = k)) = true := by
    rw [valV_any, h]
    all_goals rfl
  obtain ⟨p, hp, e⟩ := List.any_eq_true.mp q
  exact List.mem_map.mpr ⟨p, hp, of_decide_eq_true e⟩
theorem nd_snoc : ∀ {l : List κ} {k : κ}, l.Nodup → ¬ k ∈ l → (l ++ [k]).Nodup
  | [], k, _, _ => by simp
  | a :: r, k, h, hk => by
    obtain ⟨h1, h2⟩ := List.nodup_cons.mp h
    show (a :: (r ++ [k])).Nodup
    refine List.nodup_cons.mpr ⟨fun m => ?_, nd_snoc h2 fun m => hk (List.mem_cons.mpr (Or.inr m))⟩
    rcases List.mem_append.mp m with q | q
    · exact h1 q
    · exact hk (List.mem_cons.mpr (Or.inl (List.mem_singleton.mp q).symm))
theorem nd_putK {kvs : List (κ × V)} {k : κ} (v : V) (hn : (kvs.map (·.1)).Nodup) (h : valV kvs k = none) : ((putK kvs k v).map (·.1)).Nodup := by
  rw [putK_new v h, List.map_append]
  exact nd_snoc hn (valV_not h)
theorem dropK_pos {p : κ × V} {r : List (κ × V)} {k : κ} (e : p.1 = k) : dropK (p :: r) k = dropK r k := by
  unfold dropK
  rw [List.filter_cons, if_neg (by simp [e])]
theorem dropK_neg {p : κ × V} {r : List (κ × V)} {k : κ} (e : ¬ p.1 = k) : dropK (p :: r) k = p :: dropK r k := by
  unfold dropK
  rw [List.filter_cons, if_pos (by simp [e])]
theorem dropK_no : ∀ {kvs : List (κ × V)} {k : κ}, ¬ k ∈ kvs.map (·.1) → dropK kvs k = kvs
  | [], _, _ => rfl
  | p :: r, k, h => by
    have h' : ¬ k ∈ r.map (·.1) := fun m => by
      obtain ⟨q, hq, e⟩ := List.mem_map.mp m
      exact h (List.mem_map.mpr ⟨q, List.mem_cons.mpr (Or.inr hq), e⟩)
    rw [dropK_neg fun e => h (List.mem_map.mpr ⟨p, List.mem_cons.mpr (Or.inl rfl), e⟩), dropK_no h']
theorem dropK_mem {kvs : List (κ × V)} {k : κ} {p : κ × V} (h : p ∈ dropK kvs k) : p ∈ kvs := (List.mem_filter.mp h).1
theorem nd_dropK : ∀ {kvs : List (κ × V)} {k : κ}, (kvs.map (·.1)).Nodup → ((dropK kvs k).map (·.1)).Nodup
  | [], _, _ => List.nodup_nil
  | p :: r, k, h => by
    have h : (p.1 :: r.map (·.1)).Nodup := h
    obtain ⟨h1, h2⟩ := List.nodup_cons.mp h
    by_cases e : p.1 = k
    · rw [dropK_pos e]
      exact nd_dropK h2
    · rw [dropK_neg e]
      show (p.1 :: (dropK r k).map (·.1)).Nodup
      refine List.nodup_cons.mpr ⟨fun m => h1 ?_, nd_dropK h2⟩
      obtain ⟨q, hq, eq⟩ := List.mem_map.mp m
      exact List.mem_map.mpr ⟨q, dropK_mem hq, eq⟩
theorem dropK_len : ∀ {kvs : List (κ × V)} {k : κ}, (kvs.map (·.1)).Nodup → k ∈ kvs.map (·.1) → (dropK kvs k).length + 1 = kvs.length
  | [], _, _, m => by simp at m
  | p :: r, k, h, m => by
    have h : (p.1 :: r.map (·.1)).Nodup := h
    have m : k = p.1 ∨ k ∈ r.map (·.1) := List.mem_cons.mp m
    obtain ⟨h1, h2⟩ := List.nodup_cons.mp h
    by_cases e : p.1 = k
    · subst e
      rw [dropK_pos rfl, dropK_no h1]
      all_goals rfl
    · have m' : k ∈ r.map (·.1) := m.resolve_left fun z => e z.symm
      have q := dropK_len h2 m'
      rw [dropK_neg e, List.length_cons, List.length_cons]
      omega
end
end L2
namespace PySem
open AutoSeq1 (wpAny_loadPart')
open Sem (wp)
/-! ### t * n of a tuple -/
theorem noFill_tuple_mul : fillsNumberSlot (.type "tuple") "mul" = pure false :=
  fillsNumberSlot_seq (id := "tuple.__mul__") (r := some (.builtin "tuple.__rmul__")) F.slot_tuple_mul.lookup (by decide +kernel) F.slot_tuple_rmul.lookup (by decide +kernel)
theorem repeat_tuple : seqRepeat? (.type "tuple") = pure (some (.builtin "tuple.__mul__")) := by
  unfold seqRepeat?
  rw [seqSlot_of (T := "tuple") (name := "__mul__") (id := "tuple.__mul__") F.slot_tuple_mul.lookup (by decide +kernel), seqSlot_of (T := "tuple") (name := "__rmul__") (id := "tuple.__rmul__") F.slot_tuple_rmul.lookup (by decide +kernel)]
  rfl
theorem int_rmul_tuple (a : Int) (t : Tok) (l : Addr) (items : Array Value) (n : Nat) (dd : Option Addr) (sl : Array (Option Value)) :
    Meets (Builtin.«int.__rmul__» ⟨[.int a t, .ref l], []⟩) (fun _ R s => s.heap.get? l = some { cls := .type "tuple", dict := dd, data := .seq items n, slots := sl } ∧ R (.ok (.ret Value.notImplemented)) s) :=
  .of_wp fun prog w A R s h => by obtain ⟨hp, g, d, tk, os⟩ := s; obtain ⟨hl, h⟩ := h; wp_walk; exact ⟨_, rfl, h⟩
theorem tuple_mul0 (l : Addr) (items : Array Value) (n : Nat) (dd : Option Addr) (sl : Array (Option Value)) (x : Int) (u : Tok) (hi : items.isEmpty = false) (h0 : -(2 ^ 63) ≤ x) (h1 : x ≤ 0) :
    Meets (Builtin.«tuple.__mul__» ⟨[.ref l, .int x u], []⟩) (fun _ R s => s.heap.get? l = some { cls := .type "tuple", dict := dd, data := .seq items n, slots := sl } ∧ R (.ok (.ret (Value.ref s.heap.objs.size))) { s with heap := s.heap.push { cls := Value.type "tuple", data := Data.seq #[] }, toks := s.toks }) :=
  .of_wp fun prog w A R s h => by
    obtain ⟨hp, g, d, tk, os⟩ := s; obtain ⟨hl, h⟩ := h
    have f1 := AutoSeq1.idx_int
    have c1 : ¬ (decide (x < -2 ^ 63) || decide (x ≥ 2 ^ 63)) = true := by simp; omega
    have c2 : ¬ (items.isEmpty || x == 1) = true := by rw [hi]; simp; omega
    have c3 : (decide (x ≤ 0) || items.isEmpty) = true := by simp [h1]
    wp_walk using wpAny_loadPart' hl
    refine wpAny_ite_split (fun hh => absurd hh c1) (fun _ => ?_)
    wp_walk using wpAny_loadPart' hl
    refine wpAny_ite_split (fun hh => absurd hh c2) (fun _ => ?_)
    wp_walk using wpAny_loadPart' hl
    exact ⟨_, rfl, h⟩
theorem tuple_mul1 (l : Addr) (items : Array Value) (n : Nat) (dd : Option Addr) (sl : Array (Option Value)) (x : Int) (u : Tok) (hx : x = 1) :
    Meets (Builtin.«tuple.__mul__» ⟨[.ref l, .int x u], []⟩) (fun _ R s => s.heap.get? l = some { cls := .type "tuple", dict := dd, data := .seq items n, slots := sl } ∧ R (.ok (.ret (Value.ref l))) s) :=
  .of_wp fun prog w A R s h => by
    obtain ⟨hp, g, d, tk, os⟩ := s; obtain ⟨hl, h⟩ := h
    have f1 := AutoSeq1.idx_int
    have c1 : ¬ (decide (x < -2 ^ 63) || decide (x ≥ 2 ^ 63)) = true := by simp; omega
    have c2 : (items.isEmpty || x == 1) = true := by simp [hx]
    wp_walk using wpAny_loadPart' hl
    exact ⟨_, rfl, h⟩
theorem tuple_mul2 (l : Addr) (items : Array Value) (n : Nat) (dd : Option Addr) (sl : Array (Option Value)) (x : Int) (u : Tok) (hi : items.isEmpty = false) (h0 : 2 ≤ x) (h1 : x < 1000) (h2 : items.size ≤ 1000) :
    Meets (Builtin.«tuple.__mul__» ⟨[.ref l, .int x u], []⟩) (fun _ R s => s.heap.get? l = some { cls := .type "tuple", dict := dd, data := .seq items n, slots := sl } ∧ R (.ok (.ret (Value.ref s.heap.objs.size))) { s with heap := s.heap.push { cls := Value.type "tuple", data := Data.seq (List.foldl (fun x1 x2 => x1 ++ x2) #[] (List.replicate x.toNat items)) }, toks := s.toks }) :=
  .of_wp fun prog w A R s h => by
    obtain ⟨hp, g, d, tk, os⟩ := s; obtain ⟨hl, h⟩ := h
    have f1 := AutoSeq1.idx_int
    have c1 : ¬ (decide (x < -2 ^ 63) || decide (x ≥ 2 ^ 63)) = true := by simp; omega
    have c2 : ¬ (items.isEmpty || x == 1) = true := by rw [hi]; simp; omega
    have c3 : ¬ (decide (x ≤ 0) || items.isEmpty) = true := by rw [hi]; simp; omega
    have hb : (items.size : Int) * x ≤ 1000000 := by
      have := Int.mul_le_mul (show (items.size : Int) ≤ 1000 by omega) (show x ≤ 1000 by omega) (by omega) (by omega)
      omega
    have c4 : ¬ (items.size : Int) * x > (2 ^ 63 - 1) / 8 := by omega
    have c5 : ¬ Builtin.Tuple.tupleTooMany (↑items.size * x) = true := by
      unfold Builtin.Tuple.tupleTooMany
      rw [sizeLine_eq]
      simp
      omega
    have hsz : (List.foldl (fun x1 x2 => x1 ++ x2) #[] (List.replicate x.toNat items)).size ≤ sizeLine := by
      rw [AutoListH.size_joined, sizeLine_eq]
      have e : ((x.toNat * items.size : Nat) : Int) = (items.size : Int) * x := by
        rw [Int.natCast_mul, Int.toNat_of_nonneg (by omega), Int.mul_comm]
      simp only [Array.size_empty, Nat.zero_add]
      omega
    wp_walk using wpAny_loadPart' hl
    refine wpAny_ite_split (fun hh => absurd hh c1) (fun _ => ?_)
    wp_walk using wpAny_loadPart' hl
    refine wpAny_ite_split (fun hh => absurd hh c2) (fun _ => ?_)
    wp_walk using wpAny_loadPart' hl
    refine wpAny_ite_split (fun hh => absurd hh c3) (fun _ => ?_)
    wp_walk using wpAny_loadPart' hl
    refine wpAny_ite_split (fun hh => absurd hh c4) (fun _ => ?_)
    wp_walk using wpAny_loadPart' hl
    all_goals first | exact ⟨_, rfl, h⟩ | (refine wpAny_ite_false (decide_eq_false (Nat.not_lt.mpr hsz)) ?_; wp_walk; exact ⟨_, rfl, h⟩)
end PySem
namespace L2
open PySem PySem.Spec PyProof.Rows
/-! ### a list comprehension of one clause without tests; no exception leaves it -/
section
variable {prog : Program} {w : World} {A : Around} {R : Result → Shared → Prop} {s : Shared}
theorem compLoop_any {elt target iter : Expr} {scope : Scope} {pos : Pos} {it acc : Value} {env : Env} (I : Nat → Shared → Prop)
    (turn : ∀ n s, I n s → wpAny (model prog w) A (pyNext it) (fun r s₁ => match r with
      | none => R (.ok .next) s₁
      | some v => wpAny (model prog w) A (letOwnedTupleGo target it v) (fun _ s₁' => wpAny (model prog w) A (assign target env v) (fun _ s₂ => wpAny (model prog w) A (eval elt env) (fun x s₃ =>
          wpAny (model prog w) A (call (.builtin "list.append") [acc, x]) (fun _ s₄ => ∃ m, m < n ∧ I m s₄) (fun _ _ => False) s₃) (fun _ _ => False) s₂) (fun _ _ => False) s₁') (fun _ _ => False) s₁) (fun _ _ => False) s)
    (n : Nat) (h : I n s) :
    codeAny (model prog w) A (.compLoop (.ListComp elt [⟨target, iter, [], 0⟩] scope pos) 0 it acc env) R s := by
  refine codeAny_loop rfl I (fun n s hI => ?_) n h
  show wpAny _ _ ((compTurn (.ListComp elt [⟨target, iter, [], 0⟩] scope pos) 0 it acc env).onRaise (fun x => do noteFrame x env; theTreesLotGoes x)) _ _ s
  refine wpAny_noted ?_
  rw [compTurn_list1]
  refine wpAny_bind (wpAny_standAt (wpAny_bind (wpAny_mono (turn n s hI) (fun r s₁ h₁ => ?_) fun _ _ h' => h'.elim)))
  cases r with
  | none => exact wpAny_pure h₁
  | some v =>
    refine wpAny_bind (wpAny_mono h₁ (fun _ s₁' h₁' => ?_) fun _ _ h' => h'.elim)
    exact wpAny_bind (wpAny_mono h₁' (fun _ s₂ h₂ => wpAny_bind (wpAny_bind (wpAny_mono h₂ (fun x s₃ h₃ => wpAny_bind (wpAny_mono h₃
      (fun _ s₄ h₄ => wpAny_pure (wpAny_pure ⟨rfl, h₄⟩)) fun _ _ h' => h'.elim)) fun _ _ h' => h'.elim))) fun _ _ h' => h'.elim)
end

theorem lookup_relabel_free {env : Env} (hk : env.scope.kind = .function) : ∀ {names : List (Str × NameKind)} {x : Str}, names.lookup x = some .free → env.kindOf x = some .cell →
    (names.map fun (n, k) => if (k == NameKind.free && env.scope.kind == .function && env.kindOf n == some .cell) then (n, NameKind.cell) else (n, k)).lookup x = some .cell
  | [], _, h, _ => by simp at h
  | (n, k) :: r, x, h, hc => by
    have ih := @lookup_relabel_free env hk r x
    show List.lookup x ((if (k == NameKind.free && env.scope.kind == .function && env.kindOf n == some .cell) = true then (n, NameKind.cell) else (n, k)) :: _) = _
    cases hx : x == n with
    | true =>
      have e : x = n := eq_of_beq hx
      subst e
      simp only [List.lookup_cons, hx] at h
      cases h
      rw [if_pos (by rw [hk, hc]; rfl)]
      simp [List.lookup_cons]
    | false =>
      simp only [List.lookup_cons, hx] at h
      by_cases hcc : (k == NameKind.free && env.scope.kind == .function && env.kindOf n == some .cell) = true
      · rw [if_pos hcc]; simp only [List.lookup_cons, hx]; exact ih h hc
      · rw [if_neg hcc]; simp only [List.lookup_cons, hx]; exact ih h hc
theorem lookup_relabel_inv {env : Env} : ∀ {names : List (Str × NameKind)} {x : Str}, ((names.map fun (n, k) => if (k == NameKind.free && env.scope.kind == .function && env.kindOf n == some .cell) then (n, NameKind.cell) else (n, k)).lookup x = some .cell ∨
    (names.map fun (n, k) => if (k == NameKind.free && env.scope.kind == .function && env.kindOf n == some .cell) then (n, NameKind.cell) else (n, k)).lookup x = some .free) → names.lookup x = some .free ∨ names.lookup x = some .cell
  | [], _, h => by simp at h
  | (n, k) :: r, x, h => by
    have ih := @lookup_relabel_inv env r x
    replace h : List.lookup x ((if (k == NameKind.free && env.scope.kind == .function && env.kindOf n == some .cell) = true then (n, NameKind.cell) else (n, k)) :: _) = _ ∨ List.lookup x ((if (k == NameKind.free && env.scope.kind == .function && env.kindOf n == some .cell) = true then (n, NameKind.cell) else (n, k)) :: _) = _ := h
    cases hx : x == n with
    | true =>
      simp only [List.lookup_cons, hx]
      by_cases hcc : (k == NameKind.free && env.scope.kind == .function && env.kindOf n == some .cell) = true
      · have : k = .free := by
          have := (Bool.and_eq_true _ _ ▸ (Bool.and_eq_true _ _ ▸ hcc).1).1
          exact eq_of_beq this
        exact .inl (by rw [this])
      · rw [if_neg hcc] at h
        simp only [List.lookup_cons, hx] at h
        rcases h with h | h
        · exact .inr h
        · exact .inl h
    | false =>
      simp only [List.lookup_cons, hx]
      by_cases hcc : (k == NameKind.free && env.scope.kind == .function && env.kindOf n == some .cell) = true
      · rw [if_pos hcc] at h; simp only [List.lookup_cons, hx] at h; exact ih h
      · rw [if_neg hcc] at h; simp only [List.lookup_cons, hx] at h; exact ih h

theorem lt_le_ne {a b c : Nat} (h1 : a < b) (h2 : b ≤ c) : a ≠ c := Nat.ne_of_lt (Nat.lt_of_lt_of_le h1 h2)
/-- the context of a comprehension's block -/
abbrev cxComp (X : Cx) (Nc : List Str) (scope : Scope) (cl : List (Str × Addr)) (C : Addr) (s2 : Shared) (H2 : Hp) (fp : List Addr) : Cx :=
  { prog := X.prog, w := X.w, K := X.K, mg := X.mg, base := X.base, A := X.A, N := Nc, s₀ := s2, H₀ := H2, env := compEnvC scope cl C X.env, outer := X.stack, stack := X.stack, ex := fp, fn := fun _ => false, calm := X.calm, pn := [], xe := fun _ _ => False }
/-- its names: own ones, then those taken from outside, each with its slot there -/
abbrev capN (own : List Str) (cap : List (Str × Nat)) : List Str := own ++ cap.map (·.1)
def capSt (no : Nat) (cap : List (Str × Nat)) (σ : St) : St := List.replicate no none ++ cap.map fun p => (σ[p.2]?).join
structure CompScope (X : Cx) (scope : Scope) (cap : List (Str × Nat)) (cl : List (Str × Addr)) : Prop where
  clos : closureFor scope X.env = pure cl
  kind : scope.kind = .function
  nocell : ∀ y ∈ scope.names, y.2 ≠ .cell
  names : ∀ y ∈ scope.names, y.2 = .local → scope.names.lookup y.1 = some .local
  sub : ∀ x c, cl.lookup x = some c → X.env.cells.lookup x = some c
  has : ∀ x, scope.names.lookup x = some .free → ∃ c, cl.lookup x = some c
  cap : ∀ p ∈ cap, X.N[p.2]? = some p.1 ∧ scope.names.lookup p.1 = some .free ∧ X.env.scope.names.lookup p.1 = some .cell

/-- a comprehension over J into the list at D -/
def CompW (J : It) (D : Addr) (g : TG) (te : TE) (Q : VK) (σ : St) (H : Hp) : Prop := ∃ W : Nat → Nat → St → Hp → Prop,
  (∃ m, W 0 m σ H) ∧ ∀ i m σc H2, W i m σc H2 →
    (J.stop i H2 ∧ Q (.ref D) H2) ∨ (J.go i H2 ∧ ∀ x H3, J.yld i H2 x H3 → g x σc H3 fun σ4 H4 => te σ4 H4 fun y H5 => ∃ ys, H5 D = some (.lst ys) ∧ ys.length < sizeLine ∧ ∃ m', m' < m ∧ W (i + 1) m' σ4 (upd H5 D (.lst (ys ++ [y]))))
def tComp (no : Nat) (cap : List (Str × Nat)) (wi : TI) (g : TG) (te : TE) : TE := fun σ H Q => wi σ H fun J H1 => ∀ D, H1 D = none → CompW J D g te Q (capSt no cap σ) (upd H1 D (.lst []))

section
variable {X : Cx} {pins : List (Addr × Obj)} {σ : St} {s2 : Shared} {H2 : Hp}
theorem capSt_get {no : Nat} {cap : List (Str × Nat)} {own : List Str} (hno : own.length = no) {i : Nat} {x : Str} {v : V} (h1 : (capN own cap)[i]? = some x) (h2 : (capSt no cap σ)[i]? = some (some v)) :
    ∃ p ∈ cap, p.1 = x ∧ σ[p.2]? = some (some v) := by
  subst hno
  unfold capSt at h2
  by_cases hi : i < own.length
  · rw [List.getElem?_append_left (by simpa using hi), List.getElem?_replicate] at h2
    rw [if_pos hi] at h2
    cases h2
  · rw [List.getElem?_append_right (by simpa using hi)] at h2
    unfold capN at h1
    rw [List.getElem?_append_right (by simpa using hi)] at h1
    rw [List.length_replicate, List.getElem?_map] at h2
    rw [List.getElem?_map] at h1
    cases e : cap[i - own.length]? with
    | none => rw [e] at h1; cases h1
    | some p =>
      rw [e] at h1 h2
      refine ⟨p, List.mem_of_getElem? e, Option.some.inj h1, ?_⟩
      have q : (σ[p.2]?).join = some v := Option.some.inj h2
      cases e2 : σ[p.2]? with
      | none => rw [e2] at q; cases q
      | some o => rw [e2] at q; exact congrArg some q

theorem comp_block {elt iter tg : Expr} {scope : Scope} {own : List Str} {cap : List (Str × Nat)} {cl : List (Str × Addr)} {pos : Pos} {J : It} {fp : List Addr} {it : Addr} {tn : Nat → Heap → Prop} {g : TG} {te : TE} {Q : VK}
    (S : CompScope X scope cap cl) (hc : X.calm = true) (I : Inv X pins σ H2 s2) (T : Turn X.prog X.w X.K tg J fp it tn) (st : tn 0 s2.heap) (hf : ∀ b ∈ fp, FpOk X pins H2 b)
    (hg : ∀ C s2 H2 fp, PG (cxComp X (capN own cap) scope cl C s2 H2 fp) tg g) (he : ∀ C s2 H2 fp, PE (cxComp X (capN own cap) scope cl C s2 H2 fp) elt te)
    (W : Nat → Nat → St → Hp → Prop) (w0 : ∃ m, W 0 m (capSt own.length cap σ) (upd H2 s2.heap.objs.size (.lst [])))
    (turn : ∀ i m σc H3, W i m σc H3 → (J.stop i H3 ∧ Q (.ref s2.heap.objs.size) H3) ∨ (J.go i H3 ∧ ∀ x H4, J.yld i H3 x H4 → g x σc H4 fun σ5 H5 => te σ5 H5 fun y H6 => ∃ ys, H6 s2.heap.objs.size = some (.lst ys) ∧ ys.length < sizeLine ∧ ∃ m', m' < m ∧ W (i + 1) m' σ5 (upd H6 s2.heap.objs.size (.lst (ys ++ [y])))))
    {RR : Value → Addr → Result → Shared → Prop}
    (hRR : ∀ C H' s' m, s2.heap.objs.size ≤ C → s'.heap.Ns C m → H' C = none → Inv X pins σ H' s' → (∀ h', Heap.SameBut C s'.heap h' → Inv X pins σ H' { s' with heap := h' }) → Q (.ref s2.heap.objs.size) H' → RR (.ref s2.heap.objs.size) C (.ok .next) s')
    {E : Value → Shared → Prop} :
    wpAny (model X.prog X.w) X.A (newList []) (fun acc s₃ => wpAny (model X.prog X.w) X.A (newFunctionEnv scope X.env.globals cl [] X.env.qual none .none (some X.env)) (fun cenv s₄ =>
      codeAny (model X.prog X.w) X.A (.compStart (.ListComp elt [⟨tg, iter, [], 0⟩] scope pos) 0 (.ref it) acc { cenv with scope := relabel scope X.env }) (RR acc cenv.locals) s₄) E s₃) E s2 := by
  refine wpAny_newObj_type (wpAny_newFunctionEnv S.nocell (by intro y hy; simp at hy) (fun h₁ hns₁ hsb₁ => ?_) S.kind)
  dsimp only at hns₁ hsb₁ ⊢
  generalize hH2 : s2.heap.push { cls := .type "list", dict := none, data := .seq ([] : List Value).toArray } = G2 at hns₁ hsb₁ ⊢
  have hC : G2.objs.size = s2.heap.objs.size + 1 := by rw [← hH2, Heap.size_push]
  have hDC : s2.heap.objs.size ≠ G2.objs.size := by rw [hC]; exact Nat.ne_of_lt (Nat.lt_succ_self _)
  have hCle : s2.heap.objs.size ≤ G2.objs.size := by rw [hC]; exact Nat.le_succ _
  have below : ∀ b, b < s2.heap.objs.size → b ≠ G2.objs.size ∧ b ≠ s2.heap.objs.size := fun b hb => ⟨by rw [hC]; exact Nat.ne_of_lt (Nat.lt_succ_of_lt hb), Nat.ne_of_lt hb⟩
  have old : ∀ b o, s2.heap.get? b = some o → h₁.get? b = some o := fun b o e => hsb₁.extBut b o (below b (Heap.lt_size e)).1 (Heap.get?_push_of_some _ (hH2 ▸ Heap.get?_push_of_some _ e))
  have hacc : h₁.get? s2.heap.objs.size = some { cls := .type "list", dict := none, data := .seq ([] : List Value).toArray } := hsb₁.extBut _ _ hDC (Heap.get?_push_of_some _ (hH2 ▸ Heap.get?_push_size _ rfl))
  have hfps : ∀ b ∈ fp, b < s2.heap.objs.size := fun b hb => by
    obtain ⟨o, e, _⟩ := T.obj _ _ st b hb
    exact Heap.lt_size e
  have hfree : ∀ b, s2.heap.objs.size ≤ b → H2 b = none := fun b hb => I.hok.fresh hb
  generalize hX : cxComp X (capN own cap) scope cl G2.objs.size s2 H2 fp = X'
  have hOk : X'.Ok := by
    subst hX
    refine ⟨I.ok.mod, S.kind, I.ok.glob, I.ok.blt, hCle, fun x y c e1 e2 => I.ok.inj x y c (S.sub x c e1) (S.sub y c e2), fun x hx => ?_, fun x c z => absurd (show false = true from z) Bool.false_ne_true, I.ok.hd, I.ok.frames, .inl rfl,
      fun b hb => ⟨(below b (hfps b hb)).1, fun x c e => (hf b hb).2.2.2.2.1 x c (S.sub x c e)⟩, I.bs, Nat.le_trans I.ok.bsz I.sz, fun b o e hb => ?_, fun b hb z => ?_, I.stack, I.stkFree⟩
    · rcases lookup_relabel_inv (env := X.env) (names := scope.names) (x := x) hx with h | h
      · exact S.has x h
      · exact absurd rfl (S.nocell _ (PySem.mem_of_lookup h))
    · rcases (hf b hb).2.2.2.1 with z | z
      · exact I.ok.noex b o e z
      · exact absurd (Nat.lt_of_lt_of_le (Heap.lt_size e) (Nat.le_trans I.ok.bsz z)) (Nat.lt_irrefl _)
    · rcases List.mem_cons.mp (I.stkSub b z) with z | z
      · exact (hf b hb).2.1 z
      · exact (hf b hb).2.2.1 z
  have hI0 : Inv X' [] (capSt own.length cap σ) (upd H2 s2.heap.objs.size (.lst [])) { s2 with heap := h₁, toks := s2.toks + ([] : List (Str × Value)).length } := by
    subst hX
    refine ⟨hOk, rfl, I.bare, Un.laid old (Nat.le_refl _) (hfree _ (Nat.le_refl _)), ⟨_, hns₁, fun i x v e1 e2 e3 => ?_⟩, fun x c e => ?_, ?_, fun x c e => ?_, fun p hp => absurd (show p ∈ ([] : List (Addr × Obj)) from hp) (by simp), ?_, ?_⟩
    · obtain ⟨p, hp, rfl, hσ⟩ := capSt_get rfl e1 e2
      obtain ⟨c1, c2, c3⟩ := S.cap p hp
      obtain ⟨m, hn, hl⟩ := I.loc
      obtain ⟨u, r, l⟩ := hl p.2 p.1 v c1 hσ (.inr (.inl c3))
      refine ⟨u, r, .inr ⟨.inl (lookup_relabel_free I.ok.kind c2 c3), ?_⟩⟩
      obtain ⟨c, hcl⟩ := S.has _ c2
      refine ⟨c, hcl, ?_⟩
      rcases l with ⟨k, _⟩ | ⟨_, c', e, z⟩
      · have k' : X.env.scope.names.lookup p.1 = some .local := k
        rw [c3] at k'; cases k'
      · have := S.sub _ _ hcl
        rw [e] at this; cases this
        obtain ⟨o, ho, hd⟩ := z
        exact ⟨o, old _ _ ho, hd⟩
    · obtain ⟨v, o, ho, hd⟩ := I.cell x c (S.sub x c e)
      exact ⟨v, o, old _ _ ho, hd⟩
    · show upd H2 s2.heap.objs.size (.lst []) G2.objs.size = none
      rw [upd_ne (Ne.symm hDC)]
      exact hfree _ hCle
    · have e' := S.sub x c e
      obtain ⟨v, o, ho, hd⟩ := I.cell x c e'
      rw [upd_ne (below c (Heap.lt_size ho)).2]
      exact I.freeC x c e'
    · exact I.hok.laid old (Nat.le_refl _) ⟨Nat.zero_le _, [], _, .nil, hacc⟩
    · show (capSt own.length cap σ).length = (capN own cap).length
      unfold capSt capN
      simp
  have hP : X'.prog = X.prog := by subst hX; rfl
  have hw : X'.w = X.w := by subst hX; rfl
  have hK : X'.K = X.K := by subst hX; rfl
  have hA : X'.A = X.A := by subst hX; rfl
  have hcalm : X'.calm = true := by subst hX; exact hc
  have hxe : X'.xe = fun _ _ => False := by subst hX; rfl
  have henv : X'.env = compEnvC scope cl G2.objs.size X.env := by subst hX; rfl
  have hbase : ∀ {σ' H' s'}, Inv X' [] σ' H' s' → Un (frs X.stack) fp H2 H' s2.heap s'.heap ∧ s'.os = s2.os := fun {σ' H' s'} J => by subst hX; exact ⟨J.base, J.os⟩
  have hg' : PG X' tg g := by subst hX; exact hg _ _ _ _
  have he' : PE X' elt te := by subst hX; exact he _ _ _ _
  have stat : ∀ {H' : Hp}, (∀ b ∈ fp, H' b = none) → ∀ b ∈ fp, FpOk X' [] H' b := fun {H'} hn b hb => by
    subst hX
    refine ⟨hn b hb, (below b (hfps b hb)).1, fun z => ?_, .inl hb, fun x c e => (hf b hb).2.2.2.2.1 x c (S.sub x c e), fun p hp => absurd (show p ∈ ([] : List (Addr × Obj)) from hp) (by simp)⟩
    rcases List.mem_cons.mp (I.stkSub b z) with z | z
    · exact (hf b hb).2.1 z
    · exact (hf b hb).2.2.1 z
  -- back to the body around
  have back : ∀ {σ' H' s'}, Inv X' [] σ' H' s' → Q (.ref s2.heap.objs.size) H' → RR (.ref s2.heap.objs.size) G2.objs.size (.ok .next) s' := fun {σ' H' s'} J q => by
    obtain ⟨u, ho⟩ := hbase J
    have hcf : ∀ b ∈ fp, (b ∈ X.ex ∨ X.s₀.heap.objs.size ≤ b) ∧ b ≠ X.env.locals ∧ (∀ x c, X.env.cells.lookup x = some c → c ≠ b) ∧ ∀ p ∈ X.pn ++ pins, p.1 ≠ b := fun b hb => by
      obtain ⟨f0, f1, f2, f3, f4, f5⟩ := hf b hb
      exact ⟨f3, f1, f4, f5⟩
    have hCn : H' G2.objs.size = none := by have := J.free; rw [henv] at this; exact this
    have hok' : HOk X.prog X.w H' s'.heap := by have := J.hok; rw [hP, hw] at this; exact this
    obtain ⟨m, hm, _⟩ := J.loc
    rw [henv] at hm
    refine hRR _ H' s' m hCle hm hCn (I.call' ho u hok' J.bare hcf) (fun h' hs => ?_) q
    have kn : ∀ b o, s2.heap.get? b = some o → h'.get? b = s'.heap.get? b := fun b o e => hs.2 b (below b (Heap.lt_size e)).1
    refine I.call' (s' := { s' with heap := h' }) ho ⟨fun b o e n hb hx => (kn b o e).trans (u.keep b o e n hb hx), fun b o e n hb hx => ?_, u.free, fun b o e hx => ?_, u.tups, u.frzs, u.tbls⟩ (fun b ob e => ?_) J.bare hcf
    · obtain ⟨sl, e1⟩ := u.slot b o e n hb hx
      exact ⟨sl, (kn b o e).trans e1⟩
    · obtain ⟨o', e1⟩ := u.there b o e hx
      exact ⟨o', (kn b o e).trans e1⟩
    · refine (hok' b ob e).stay (fun c w' hc q => (hs.2 c ?_).trans q) (fun _ q => q) fun _ _ q => q
      rintro rfl
      rcases hc with rfl | hc
      · rw [hCn] at e; cases e
      · rw [hCn] at hc; cases hc
  have loop : ∀ s₃ : Shared, s₃ = { s2 with heap := h₁, toks := s2.toks + ([] : List (Str × Value)).length } →
      codeAny (model X.prog X.w) X.A (.compLoop (.ListComp elt [⟨tg, iter, [], 0⟩] scope pos) 0 (.ref it) (.ref s2.heap.objs.size) (compEnvC scope cl G2.objs.size X.env))
        (RR (.ref s2.heap.objs.size) G2.objs.size) s₃ := by
    rintro s₃ rfl
    obtain ⟨m0, w0⟩ := w0
    refine compLoop_any (fun n s' => ∃ i σ' H', Inv X' [] σ' H' s' ∧ tn i s'.heap ∧ (∀ b ∈ fp, H' b = none) ∧ W i n σ' H') ?_ m0
      ⟨0, _, _, hI0, T.keep _ _ _ st fun b hb o e => old b o e, fun b hb => ?_, w0⟩
    · rintro n s3 ⟨i, σ3, H3, I3, st3, fr3, w3⟩
      rcases turn i n σ3 H3 w3 with ⟨stop, qn⟩ | ⟨go, step⟩
      · have d := T.done X' hP hw hK hcalm i [] s3 σ3 H3 (fun _ _ => False) I3 (stat fr3) st3 stop
        rw [hA] at d
        refine thn d fun r s4 ⟨hr, I4⟩ => ?_
        subst hr
        exact back I4 qn
      · have d := T.item X' hP hw hK hcalm i [] s3 σ3 H3 (fun _ _ => False) I3 (stat fr3) st3 go
        rw [hA] at d
        refine thn d fun r s4 ⟨u, hr, h4⟩ => ?_
        subst hr
        refine thn h4 fun _ s5 ⟨x, H5, I5, r5, y5, st5, fr5⟩ => ?_
        have I5' := I5.pinned (stat fr5) (T.obj _ _ st5)
        have d2 := hg' _ s5 σ3 H5 x u _ I5' r5 (step x H5 y5)
        rw [hP, hw, hA, hxe, henv] at d2
        refine thn d2 fun _ s6 ⟨σ6, H6, I6, q6⟩ => ?_
        have d3 := he' _ s6 σ6 H6 _ I6 q6
        rw [hP, hw, hA, hxe, henv] at d3
        refine thn d3 fun y7 s7 ⟨v7, H7, I7, r7, ys, e7, l7, m', hm, w7⟩ => ?_
        have d4 := mt_append (X := X') _ s7 σ6 H7 (.ref s2.heap.objs.size) [v7] (.ref s2.heap.objs.size) [y7] (fun _ H8 => W (i + 1) m' σ6 H8) I7 rfl (.cons r7 .nil) ⟨_, ys, v7, rfl, rfl, e7, l7, w7⟩
        rw [hP, hw, hA, hxe] at d4
        refine thn d4 fun _ s8 ⟨v8, H8, I8, _, w8⟩ => ?_
        refine ⟨m', hm, i + 1, σ6, H8, I8.unpinned, T.keep _ _ _ st5 fun b hb o e => (I8.pin (b, o) (List.mem_append_right _ (List.mem_append_right _ (mem_pinsAt hb e)))).1, fun b hb => ?_, w8⟩
        obtain ⟨o, e, d⟩ := T.obj _ _ st5 b hb
        exact (I8.pin (b, o) (List.mem_append_right _ (List.mem_append_right _ (mem_pinsAt hb e)))).2.1
    · rw [upd_ne (below b (hfps b hb)).2]
      exact (hf b hb).1
  exact codeAny_compStart_list (loop _ rfl) (T.self _ 0 _ _ _ (T.keep _ _ _ st fun b hb o e => old b o e) (loop _ rfl))

/-- [elt for tg in iter] -/
theorem pe_comp {elt iter tg : Expr} {scope : Scope} {own : List Str} {cap : List (Str × Nat)} {cl : List (Str × Addr)} {pos : Pos} {wi : TI} {g : TG} {te : TE}
    (S : CompScope X scope cap cl) (hc : X.calm = true) (hi : PI X tg iter wi)
    (hg : ∀ C s2 H2 fp, PG (cxComp X (capN own cap) scope cl C s2 H2 fp) tg g) (he : ∀ C s2 H2 fp, PE (cxComp X (capN own cap) scope cl C s2 H2 fp) elt te)
    (hs : ∀ x, foldedSetIterable iter X.env x = pure x := by intro _; rfl) : PE X (.ListComp elt [⟨tg, iter, [], 0⟩] scope pos) (tComp own.length cap wi g te) := by
  intro pins s σ H Q I h
  rw [eval_ListComp]
  refine wpAny_comprehension_free (use := none) rfl hs S.clos S.kind S.names (thn (hi pins s σ H _ I h) fun v s1 h1 => thn h1 fun itv s2 h2 => ?_)
  obtain ⟨it, fp, tn, J, H2, e, I2, T, st2, f2, rd⟩ := h2
  subst e
  obtain ⟨W, w0, turn⟩ := rd _ (I2.hok.fresh (Nat.le_refl _))
  exact comp_block (RR := fun acc C => compPost (model X.prog X.w) X.A X.xe none (EP X pins σ Q) acc C) S hc I2 T st2 f2 hg he W w0 turn
    fun C H' s' m _ hm _ _ hback q => ⟨m, hm, fun h' hs' => ⟨.ref s2.heap.objs.size, H', hback h' hs', rfl, q⟩⟩
/-- name = [elt for tg in iter], the name a plain local one that the block doesn't have -/
theorem ps_setComp {i : Nat} {x : Str} {elt iter tg : Expr} {scope : Scope} {own : List Str} {cap : List (Str × Nat)} {cl : List (Str × Addr)} {pos spos py : Pos} {wi : TI} {g : TG} {te : TE}
    (hN : X.N.Nodup) (hi' : X.N[i]? = some x) (hx : Loc X.env.scope x) (S : CompScope X scope cap cl) (hc : X.calm = true) (hi : PI X tg iter wi)
    (hg : ∀ C s2 H2 fp, PG (cxComp X (capN own cap) scope cl C s2 H2 fp) tg g) (he : ∀ C s2 H2 fp, PE (cxComp X (capN own cap) scope cl C s2 H2 fp) elt te)
    (hsw : swapsWith (.ListComp elt [⟨tg, iter, [], 0⟩] scope pos) (some (.Name x py)) spos.line X.env = pure true := by rfl)
    (hs : ∀ x, foldedSetIterable iter X.env x = pure x := by intro _; rfl) (hf : X.fn x = true ∨ X.env.scope.names.lookup x = some .local := by first | exact .inl rfl | exact .inr rfl | assumption) :
    PS X (.Assign [.Name x py] (.ListComp elt [⟨tg, iter, [], 0⟩] scope pos) spos) (tAsg (tComp own.length cap wi g te) (gName i)) := by
  intro pins s σ H D I h
  rw [exec_Assign_Name_used _ _ _ _ hsw]
  refine wpAny_bind (wpAny_standAt (wpAny_bind ?_))
  show wpAny _ X.A (do let _ ← comprehension (.ListComp elt [⟨tg, iter, [], 0⟩] scope pos) scope X.env _ (newList []) false (eval iter X.env) (some (assign (.Name x py) X.env))) _ _ s
  refine wpAny_bind (wpAny_mono (wpAny_comprehension_free (use := some (assign (.Name x py) X.env)) (Q := fun _ s' => SP X pins D .next s') rfl hs S.clos S.kind S.names
    (thn (hi pins s σ H _ I h) fun v s1 h1 => thn h1 fun itv s2 h2 => ?_)) (fun _ s' hq => wpAny_pure (wpAny_pure hq)) fun _ _ e => e)
  obtain ⟨it, fp, tn, J, H2, e, I2, T, st2, f2, rd⟩ := h2
  subst e
  obtain ⟨W, w0, turn⟩ := rd _ (I2.hok.fresh (Nat.le_refl _))
  refine comp_block (Q := fun x H1 => gName i x σ H1 D.nx) (RR := fun acc C => compPost (model X.prog X.w) X.A X.xe (some (assign (.Name x py) X.env)) (fun _ s' => SP X pins D .next s') acc C) S hc I2 T st2 f2 hg he W w0 turn
    fun C H' s' m hCle hm hCn I' hback q => ?_
  refine wpAny_assign_Name (store_ok2 (v := .ref s2.heap.objs.size) I' hN hi' hx rfl (fun s'' I'' ⟨a, hsa, ha⟩ => ?_) hf)
  have hCa : C ≠ a := by
    rcases ha with z | z
    · rw [z]
      exact Ne.symm (lt_le_ne I2.lt hCle)
    · obtain ⟨v, q'⟩ := I2.cell x a z
      exact Ne.symm (lt_le_ne q'.lt hCle)
  refine ⟨m, hm.sameBut hsa hCa, fun h' hs' => ⟨_, H', ?_, q⟩⟩
  -- only the block's own names change
  have hC0 : X.s₀.heap.objs.size ≤ C := Nat.le_trans I2.sz hCle
  have hnp : ∀ p ∈ X.pn ++ pins, p.1 ≠ C := fun p hp => lt_le_ne (Heap.lt_size (I2.pin p hp).1) hCle
  have hcl : ∀ y c, X.env.cells.lookup y = some c → c ≠ C := fun y c e => by
    obtain ⟨v, q'⟩ := I2.cell y c e
    exact lt_le_ne q'.lt hCle
  have hL : C ≠ X.env.locals := Ne.symm (lt_le_ne I2.lt hCle)
  exact I''.turned (t' := s''.toks) (it := C) (fun b o hb e => (hs'.2 b hb).trans e) hCn hL (.inr hC0) hcl hnp
end
/-! ### [elt for tg in iter if c] -/
section
variable {prog : Program} {w : World} {A : Around} {R : Result → Shared → Prop} {s : Shared}
theorem compLoopF_any {elt target iter c : Expr} {scope : Scope} {pos : Pos} {it acc : Value} {env : Env} (I : Nat → Shared → Prop)
    (turn : ∀ n s, I n s → wpAny (model prog w) A (pyNext it) (fun r s₁ => match r with
      | none => R (.ok .next) s₁
      | some v => wpAny (model prog w) A (letOwnedTupleGo target it v) (fun _ s₁' => wpAny (model prog w) A (assign target env v) (fun _ s₂ => wpAny (model prog w) A (isTrue c env (eval c env)) (fun ok s₂' => if ok = true then wpAny (model prog w) A (eval elt env) (fun x s₃ =>
          wpAny (model prog w) A (call (.builtin "list.append") [acc, x]) (fun _ s₄ => ∃ m, m < n ∧ I m s₄) (fun _ _ => False) s₃) (fun _ _ => False) s₂' else ∃ m, m < n ∧ I m s₂') (fun _ _ => False) s₂) (fun _ _ => False) s₁') (fun _ _ => False) s₁) (fun _ _ => False) s)
    (n : Nat) (h : I n s) :
    codeAny (model prog w) A (.compLoop (.ListComp elt [⟨target, iter, [c], 0⟩] scope pos) 0 it acc env) R s := by
  refine codeAny_loop rfl I (fun n s hI => ?_) n h
  show wpAny _ _ ((compTurn (.ListComp elt [⟨target, iter, [c], 0⟩] scope pos) 0 it acc env).onRaise (fun x => do noteFrame x env; theTreesLotGoes x)) _ _ s
  refine wpAny_noted ?_
  rw [compTurn_list]
  refine wpAny_bind (wpAny_standAt (wpAny_bind (wpAny_mono (turn n s hI) (fun r s₁ h₁ => ?_) fun _ _ h' => h'.elim)))
  cases r with
  | none => exact wpAny_pure h₁
  | some v =>
    refine wpAny_bind (wpAny_mono h₁ (fun _ s₁' h₁' => ?_) fun _ _ h' => h'.elim)
    refine wpAny_bind (wpAny_mono h₁' (fun _ s₂ h₂ => ?_) fun _ _ h' => h'.elim)
    refine wpAny_bind (wpAny_tests_one (wpAny_mono h₂ (fun okb s₃ h₃ => ?_) fun _ _ h' => h'.elim))
    cases okb with
    | false => exact wpAny_pure ⟨rfl, h₃⟩
    | true => exact wpAny_bind (wpAny_bind (wpAny_mono h₃ (fun x s₄ h₄ => wpAny_bind (wpAny_mono h₄ (fun _ s₅ h₅ => wpAny_pure (wpAny_pure ⟨rfl, h₅⟩)) fun _ _ h' => h'.elim)) fun _ _ h' => h'.elim))
end
/-- a comprehension over J into the list at D -/
def CompWF (J : It) (D : Addr) (g : TG) (tc : TT) (te : TE) (Q : VK) (σ : St) (H : Hp) : Prop := ∃ W : Nat → Nat → St → Hp → Prop,
  (∃ m, W 0 m σ H) ∧ ∀ i m σc H2, W i m σc H2 →
    (J.stop i H2 ∧ Q (.ref D) H2) ∨ (J.go i H2 ∧ ∀ x H3, J.yld i H2 x H3 → g x σc H3 fun σ4 H4 => tc σ4 H4 fun ok H4' => if ok = true then te σ4 H4' fun y H5 => ∃ ys, H5 D = some (.lst ys) ∧ ys.length < sizeLine ∧ ∃ m', m' < m ∧ W (i + 1) m' σ4 (upd H5 D (.lst (ys ++ [y]))) else ∃ m', m' < m ∧ W (i + 1) m' σ4 H4')
def tCompF (no : Nat) (cap : List (Str × Nat)) (wi : TI) (g : TG) (tc : TT) (te : TE) : TE := fun σ H Q => wi σ H fun J H1 => ∀ D, H1 D = none → CompWF J D g tc te Q (capSt no cap σ) (upd H1 D (.lst []))

section
variable {X : Cx} {pins : List (Addr × Obj)} {σ : St} {s2 : Shared} {H2 : Hp}
theorem comp_blockF {elt iter tg ci : Expr} {scope : Scope} {own : List Str} {cap : List (Str × Nat)} {cl : List (Str × Addr)} {pos : Pos} {J : It} {fp : List Addr} {it : Addr} {tn : Nat → Heap → Prop} {g : TG} {tc : TT} {te : TE} {Q : VK}
    (S : CompScope X scope cap cl) (hc : X.calm = true) (I : Inv X pins σ H2 s2) (T : Turn X.prog X.w X.K tg J fp it tn) (st : tn 0 s2.heap) (hf : ∀ b ∈ fp, FpOk X pins H2 b)
    (hg : ∀ C s2 H2 fp, PG (cxComp X (capN own cap) scope cl C s2 H2 fp) tg g) (htc : ∀ C s2 H2 fp, PT (cxComp X (capN own cap) scope cl C s2 H2 fp) ci tc) (he : ∀ C s2 H2 fp, PE (cxComp X (capN own cap) scope cl C s2 H2 fp) elt te)
    (W : Nat → Nat → St → Hp → Prop) (w0 : ∃ m, W 0 m (capSt own.length cap σ) (upd H2 s2.heap.objs.size (.lst [])))
    (turn : ∀ i m σc H3, W i m σc H3 → (J.stop i H3 ∧ Q (.ref s2.heap.objs.size) H3) ∨ (J.go i H3 ∧ ∀ x H4, J.yld i H3 x H4 → g x σc H4 fun σ5 H5 => tc σ5 H5 fun ok H5' => if ok = true then te σ5 H5' fun y H6 => ∃ ys, H6 s2.heap.objs.size = some (.lst ys) ∧ ys.length < sizeLine ∧ ∃ m', m' < m ∧ W (i + 1) m' σ5 (upd H6 s2.heap.objs.size (.lst (ys ++ [y]))) else ∃ m', m' < m ∧ W (i + 1) m' σ5 H5'))
    {RR : Value → Addr → Result → Shared → Prop}
    (hRR : ∀ C H' s' m, s2.heap.objs.size ≤ C → s'.heap.Ns C m → H' C = none → Inv X pins σ H' s' → (∀ h', Heap.SameBut C s'.heap h' → Inv X pins σ H' { s' with heap := h' }) → Q (.ref s2.heap.objs.size) H' → RR (.ref s2.heap.objs.size) C (.ok .next) s')
    {E : Value → Shared → Prop} :
    wpAny (model X.prog X.w) X.A (newList []) (fun acc s₃ => wpAny (model X.prog X.w) X.A (newFunctionEnv scope X.env.globals cl [] X.env.qual none .none (some X.env)) (fun cenv s₄ =>
      codeAny (model X.prog X.w) X.A (.compStart (.ListComp elt [⟨tg, iter, [ci], 0⟩] scope pos) 0 (.ref it) acc { cenv with scope := relabel scope X.env }) (RR acc cenv.locals) s₄) E s₃) E s2 := by
  refine wpAny_newObj_type (wpAny_newFunctionEnv S.nocell (by intro y hy; simp at hy) (fun h₁ hns₁ hsb₁ => ?_) S.kind)
  dsimp only at hns₁ hsb₁ ⊢
  generalize hH2 : s2.heap.push { cls := .type "list", dict := none, data := .seq ([] : List Value).toArray } = G2 at hns₁ hsb₁ ⊢
  have hC : G2.objs.size = s2.heap.objs.size + 1 := by rw [← hH2, Heap.size_push]
  have hDC : s2.heap.objs.size ≠ G2.objs.size := by rw [hC]; exact Nat.ne_of_lt (Nat.lt_succ_self _)
  have hCle : s2.heap.objs.size ≤ G2.objs.size := by rw [hC]; exact Nat.le_succ _
  have below : ∀ b, b < s2.heap.objs.size → b ≠ G2.objs.size ∧ b ≠ s2.heap.objs.size := fun b hb => ⟨by rw [hC]; exact Nat.ne_of_lt (Nat.lt_succ_of_lt hb), Nat.ne_of_lt hb⟩
  have old : ∀ b o, s2.heap.get? b = some o → h₁.get? b = some o := fun b o e => hsb₁.extBut b o (below b (Heap.lt_size e)).1 (Heap.get?_push_of_some _ (hH2 ▸ Heap.get?_push_of_some _ e))
  have hacc : h₁.get? s2.heap.objs.size = some { cls := .type "list", dict := none, data := .seq ([] : List Value).toArray } := hsb₁.extBut _ _ hDC (Heap.get?_push_of_some _ (hH2 ▸ Heap.get?_push_size _ rfl))
  have hfps : ∀ b ∈ fp, b < s2.heap.objs.size := fun b hb => by
    obtain ⟨o, e, _⟩ := T.obj _ _ st b hb
    exact Heap.lt_size e
  have hfree : ∀ b, s2.heap.objs.size ≤ b → H2 b = none := fun b hb => I.hok.fresh hb
  generalize hX : cxComp X (capN own cap) scope cl G2.objs.size s2 H2 fp = X'
  have hOk : X'.Ok := by
    subst hX
    refine ⟨I.ok.mod, S.kind, I.ok.glob, I.ok.blt, hCle, fun x y c e1 e2 => I.ok.inj x y c (S.sub x c e1) (S.sub y c e2), fun x hx => ?_, fun x c z => absurd (show false = true from z) Bool.false_ne_true, I.ok.hd, I.ok.frames, .inl rfl,
      fun b hb => ⟨(below b (hfps b hb)).1, fun x c e => (hf b hb).2.2.2.2.1 x c (S.sub x c e)⟩, I.bs, Nat.le_trans I.ok.bsz I.sz, fun b o e hb => ?_, fun b hb z => ?_, I.stack, I.stkFree⟩
    · rcases lookup_relabel_inv (env := X.env) (names := scope.names) (x := x) hx with h | h
      · exact S.has x h
      · exact absurd rfl (S.nocell _ (PySem.mem_of_lookup h))
    · rcases (hf b hb).2.2.2.1 with z | z
      · exact I.ok.noex b o e z
      · exact absurd (Nat.lt_of_lt_of_le (Heap.lt_size e) (Nat.le_trans I.ok.bsz z)) (Nat.lt_irrefl _)
    · rcases List.mem_cons.mp (I.stkSub b z) with z | z
      · exact (hf b hb).2.1 z
      · exact (hf b hb).2.2.1 z
  have hI0 : Inv X' [] (capSt own.length cap σ) (upd H2 s2.heap.objs.size (.lst [])) { s2 with heap := h₁, toks := s2.toks + ([] : List (Str × Value)).length } := by
    subst hX
    refine ⟨hOk, rfl, I.bare, Un.laid old (Nat.le_refl _) (hfree _ (Nat.le_refl _)), ⟨_, hns₁, fun i x v e1 e2 e3 => ?_⟩, fun x c e => ?_, ?_, fun x c e => ?_, fun p hp => absurd (show p ∈ ([] : List (Addr × Obj)) from hp) (by simp), ?_, ?_⟩
    · obtain ⟨p, hp, rfl, hσ⟩ := capSt_get rfl e1 e2
      obtain ⟨c1, c2, c3⟩ := S.cap p hp
      obtain ⟨m, hn, hl⟩ := I.loc
      obtain ⟨u, r, l⟩ := hl p.2 p.1 v c1 hσ (.inr (.inl c3))
      refine ⟨u, r, .inr ⟨.inl (lookup_relabel_free I.ok.kind c2 c3), ?_⟩⟩
      obtain ⟨c, hcl⟩ := S.has _ c2
      refine ⟨c, hcl, ?_⟩
      rcases l with ⟨k, _⟩ | ⟨_, c', e, z⟩
      · have k' : X.env.scope.names.lookup p.1 = some .local := k
        rw [c3] at k'; cases k'
      · have := S.sub _ _ hcl
        rw [e] at this; cases this
        obtain ⟨o, ho, hd⟩ := z
        exact ⟨o, old _ _ ho, hd⟩
    · obtain ⟨v, o, ho, hd⟩ := I.cell x c (S.sub x c e)
      exact ⟨v, o, old _ _ ho, hd⟩
    · show upd H2 s2.heap.objs.size (.lst []) G2.objs.size = none
      rw [upd_ne (Ne.symm hDC)]
      exact hfree _ hCle
    · have e' := S.sub x c e
      obtain ⟨v, o, ho, hd⟩ := I.cell x c e'
      rw [upd_ne (below c (Heap.lt_size ho)).2]
      exact I.freeC x c e'
    · exact I.hok.laid old (Nat.le_refl _) ⟨Nat.zero_le _, [], _, .nil, hacc⟩
    · show (capSt own.length cap σ).length = (capN own cap).length
      unfold capSt capN
      simp
  have hP : X'.prog = X.prog := by subst hX; rfl
  have hw : X'.w = X.w := by subst hX; rfl
  have hK : X'.K = X.K := by subst hX; rfl
  have hA : X'.A = X.A := by subst hX; rfl
  have hcalm : X'.calm = true := by subst hX; exact hc
  have hxe : X'.xe = fun _ _ => False := by subst hX; rfl
  have henv : X'.env = compEnvC scope cl G2.objs.size X.env := by subst hX; rfl
  have hbase : ∀ {σ' H' s'}, Inv X' [] σ' H' s' → Un (frs X.stack) fp H2 H' s2.heap s'.heap ∧ s'.os = s2.os := fun {σ' H' s'} J => by subst hX; exact ⟨J.base, J.os⟩
  have hg' : PG X' tg g := by subst hX; exact hg _ _ _ _
  have he' : PE X' elt te := by subst hX; exact he _ _ _ _
  have htc' : PT X' ci tc := by subst hX; exact htc _ _ _ _
  have stat : ∀ {H' : Hp}, (∀ b ∈ fp, H' b = none) → ∀ b ∈ fp, FpOk X' [] H' b := fun {H'} hn b hb => by
    subst hX
    refine ⟨hn b hb, (below b (hfps b hb)).1, fun z => ?_, .inl hb, fun x c e => (hf b hb).2.2.2.2.1 x c (S.sub x c e), fun p hp => absurd (show p ∈ ([] : List (Addr × Obj)) from hp) (by simp)⟩
    rcases List.mem_cons.mp (I.stkSub b z) with z | z
    · exact (hf b hb).2.1 z
    · exact (hf b hb).2.2.1 z
  -- back to the body around
  have back : ∀ {σ' H' s'}, Inv X' [] σ' H' s' → Q (.ref s2.heap.objs.size) H' → RR (.ref s2.heap.objs.size) G2.objs.size (.ok .next) s' := fun {σ' H' s'} J q => by
    obtain ⟨u, ho⟩ := hbase J
    have hcf : ∀ b ∈ fp, (b ∈ X.ex ∨ X.s₀.heap.objs.size ≤ b) ∧ b ≠ X.env.locals ∧ (∀ x c, X.env.cells.lookup x = some c → c ≠ b) ∧ ∀ p ∈ X.pn ++ pins, p.1 ≠ b := fun b hb => by
      obtain ⟨f0, f1, f2, f3, f4, f5⟩ := hf b hb
      exact ⟨f3, f1, f4, f5⟩
    have hCn : H' G2.objs.size = none := by have := J.free; rw [henv] at this; exact this
    have hok' : HOk X.prog X.w H' s'.heap := by have := J.hok; rw [hP, hw] at this; exact this
    obtain ⟨m, hm, _⟩ := J.loc
    rw [henv] at hm
    refine hRR _ H' s' m hCle hm hCn (I.call' ho u hok' J.bare hcf) (fun h' hs => ?_) q
    have kn : ∀ b o, s2.heap.get? b = some o → h'.get? b = s'.heap.get? b := fun b o e => hs.2 b (below b (Heap.lt_size e)).1
    refine I.call' (s' := { s' with heap := h' }) ho ⟨fun b o e n hb hx => (kn b o e).trans (u.keep b o e n hb hx), fun b o e n hb hx => ?_, u.free, fun b o e hx => ?_, u.tups, u.frzs, u.tbls⟩ (fun b ob e => ?_) J.bare hcf
    · obtain ⟨sl, e1⟩ := u.slot b o e n hb hx
      exact ⟨sl, (kn b o e).trans e1⟩
    · obtain ⟨o', e1⟩ := u.there b o e hx
      exact ⟨o', (kn b o e).trans e1⟩
    · refine (hok' b ob e).stay (fun c w' hc q => (hs.2 c ?_).trans q) (fun _ q => q) fun _ _ q => q
      rintro rfl
      rcases hc with rfl | hc
      · rw [hCn] at e; cases e
      · rw [hCn] at hc; cases hc
  have loop : ∀ s₃ : Shared, s₃ = { s2 with heap := h₁, toks := s2.toks + ([] : List (Str × Value)).length } →
      codeAny (model X.prog X.w) X.A (.compLoop (.ListComp elt [⟨tg, iter, [ci], 0⟩] scope pos) 0 (.ref it) (.ref s2.heap.objs.size) (compEnvC scope cl G2.objs.size X.env))
        (RR (.ref s2.heap.objs.size) G2.objs.size) s₃ := by
    rintro s₃ rfl
    obtain ⟨m0, w0⟩ := w0
    refine compLoopF_any (fun n s' => ∃ i σ' H', Inv X' [] σ' H' s' ∧ tn i s'.heap ∧ (∀ b ∈ fp, H' b = none) ∧ W i n σ' H') ?_ m0
      ⟨0, _, _, hI0, T.keep _ _ _ st fun b hb o e => old b o e, fun b hb => ?_, w0⟩
    · rintro n s3 ⟨i, σ3, H3, I3, st3, fr3, w3⟩
      rcases turn i n σ3 H3 w3 with ⟨stop, qn⟩ | ⟨go, step⟩
      · have d := T.done X' hP hw hK hcalm i [] s3 σ3 H3 (fun _ _ => False) I3 (stat fr3) st3 stop
        rw [hA] at d
        refine thn d fun r s4 ⟨hr, I4⟩ => ?_
        subst hr
        exact back I4 qn
      · have d := T.item X' hP hw hK hcalm i [] s3 σ3 H3 (fun _ _ => False) I3 (stat fr3) st3 go
        rw [hA] at d
        refine thn d fun r s4 ⟨u, hr, h4⟩ => ?_
        subst hr
        refine thn h4 fun _ s5 ⟨x, H5, I5, r5, y5, st5, fr5⟩ => ?_
        have I5' := I5.pinned (stat fr5) (T.obj _ _ st5)
        have d2 := hg' _ s5 σ3 H5 x u _ I5' r5 (step x H5 y5)
        rw [hP, hw, hA, hxe, henv] at d2
        refine thn d2 fun _ s6 ⟨σ6, H6, I6, q6⟩ => ?_
        have dt := htc' _ s6 σ6 H6 _ I6 q6
        rw [hP, hw, hA, hxe, henv] at dt
        refine thn dt fun okb s6' ⟨H6', I6', q6'⟩ => ?_
        cases okb with
        | false =>
          obtain ⟨m', hm, w7⟩ := q6'
          refine ⟨m', hm, i + 1, σ6, H6', I6'.unpinned, T.keep _ _ _ st5 fun b hb o e => (I6'.pin (b, o) (List.mem_append_right _ (List.mem_append_right _ (mem_pinsAt hb e)))).1, fun b hb => ?_, w7⟩
          obtain ⟨o, e, d⟩ := T.obj _ _ st5 b hb
          exact (I6'.pin (b, o) (List.mem_append_right _ (List.mem_append_right _ (mem_pinsAt hb e)))).2.1
        | true =>
        have d3 := he' _ s6' σ6 H6' _ I6' q6'
        rw [hP, hw, hA, hxe, henv] at d3
        refine thn d3 fun y7 s7 ⟨v7, H7, I7, r7, ys, e7, l7, m', hm, w7⟩ => ?_
        have d4 := mt_append (X := X') _ s7 σ6 H7 (.ref s2.heap.objs.size) [v7] (.ref s2.heap.objs.size) [y7] (fun _ H8 => W (i + 1) m' σ6 H8) I7 rfl (.cons r7 .nil) ⟨_, ys, v7, rfl, rfl, e7, l7, w7⟩
        rw [hP, hw, hA, hxe] at d4
        refine thn d4 fun _ s8 ⟨v8, H8, I8, _, w8⟩ => ?_
        refine ⟨m', hm, i + 1, σ6, H8, I8.unpinned, T.keep _ _ _ st5 fun b hb o e => (I8.pin (b, o) (List.mem_append_right _ (List.mem_append_right _ (mem_pinsAt hb e)))).1, fun b hb => ?_, w8⟩
        obtain ⟨o, e, d⟩ := T.obj _ _ st5 b hb
        exact (I8.pin (b, o) (List.mem_append_right _ (List.mem_append_right _ (mem_pinsAt hb e)))).2.1
    · rw [upd_ne (below b (hfps b hb)).2]
      exact (hf b hb).1
  exact codeAny_compStart_list (loop _ rfl) (T.self _ 0 _ _ _ (T.keep _ _ _ st fun b hb o e => old b o e) (loop _ rfl))

/-- [elt for tg in iter] -/
theorem pe_compF {elt iter tg ci : Expr} {scope : Scope} {own : List Str} {cap : List (Str × Nat)} {cl : List (Str × Addr)} {pos : Pos} {wi : TI} {g : TG} {tc : TT} {te : TE}
    (S : CompScope X scope cap cl) (hc : X.calm = true) (hi : PI X tg iter wi)
    (hg : ∀ C s2 H2 fp, PG (cxComp X (capN own cap) scope cl C s2 H2 fp) tg g) (htc : ∀ C s2 H2 fp, PT (cxComp X (capN own cap) scope cl C s2 H2 fp) ci tc) (he : ∀ C s2 H2 fp, PE (cxComp X (capN own cap) scope cl C s2 H2 fp) elt te)
    (hs : ∀ x, foldedSetIterable iter X.env x = pure x := by intro _; rfl) : PE X (.ListComp elt [⟨tg, iter, [ci], 0⟩] scope pos) (tCompF own.length cap wi g tc te) := by
  intro pins s σ H Q I h
  rw [eval_ListComp]
  refine wpAny_comprehension_free (use := none) rfl hs S.clos S.kind S.names (thn (hi pins s σ H _ I h) fun v s1 h1 => thn h1 fun itv s2 h2 => ?_)
  obtain ⟨it, fp, tn, J, H2, e, I2, T, st2, f2, rd⟩ := h2
  subst e
  obtain ⟨W, w0, turn⟩ := rd _ (I2.hok.fresh (Nat.le_refl _))
  exact comp_blockF (RR := fun acc C => compPost (model X.prog X.w) X.A X.xe none (EP X pins σ Q) acc C) S hc I2 T st2 f2 hg htc he W w0 turn
    fun C H' s' m _ hm _ _ hback q => ⟨m, hm, fun h' hs' => ⟨.ref s2.heap.objs.size, H', hback h' hs', rfl, q⟩⟩
/-- name = [elt for tg in iter], the name a plain local one that the block doesn't have -/
theorem ps_setCompF {i : Nat} {x : Str} {elt iter tg ci : Expr} {scope : Scope} {own : List Str} {cap : List (Str × Nat)} {cl : List (Str × Addr)} {pos spos py : Pos} {wi : TI} {g : TG} {tc : TT} {te : TE}
    (hN : X.N.Nodup) (hi' : X.N[i]? = some x) (hx : Loc X.env.scope x) (S : CompScope X scope cap cl) (hc : X.calm = true) (hi : PI X tg iter wi)
    (hg : ∀ C s2 H2 fp, PG (cxComp X (capN own cap) scope cl C s2 H2 fp) tg g) (htc : ∀ C s2 H2 fp, PT (cxComp X (capN own cap) scope cl C s2 H2 fp) ci tc) (he : ∀ C s2 H2 fp, PE (cxComp X (capN own cap) scope cl C s2 H2 fp) elt te)
    (hsw : swapsWith (.ListComp elt [⟨tg, iter, [ci], 0⟩] scope pos) (some (.Name x py)) spos.line X.env = pure true := by rfl)
    (hs : ∀ x, foldedSetIterable iter X.env x = pure x := by intro _; rfl) (hf : X.fn x = true ∨ X.env.scope.names.lookup x = some .local := by first | exact .inl rfl | exact .inr rfl | assumption) :
    PS X (.Assign [.Name x py] (.ListComp elt [⟨tg, iter, [ci], 0⟩] scope pos) spos) (tAsg (tCompF own.length cap wi g tc te) (gName i)) := by
  intro pins s σ H D I h
  rw [exec_Assign_Name_used _ _ _ _ hsw]
  refine wpAny_bind (wpAny_standAt (wpAny_bind ?_))
  show wpAny _ X.A (do let _ ← comprehension (.ListComp elt [⟨tg, iter, [ci], 0⟩] scope pos) scope X.env _ (newList []) false (eval iter X.env) (some (assign (.Name x py) X.env))) _ _ s
  refine wpAny_bind (wpAny_mono (wpAny_comprehension_free (use := some (assign (.Name x py) X.env)) (Q := fun _ s' => SP X pins D .next s') rfl hs S.clos S.kind S.names
    (thn (hi pins s σ H _ I h) fun v s1 h1 => thn h1 fun itv s2 h2 => ?_)) (fun _ s' hq => wpAny_pure (wpAny_pure hq)) fun _ _ e => e)
  obtain ⟨it, fp, tn, J, H2, e, I2, T, st2, f2, rd⟩ := h2
  subst e
  obtain ⟨W, w0, turn⟩ := rd _ (I2.hok.fresh (Nat.le_refl _))
  refine comp_blockF (Q := fun x H1 => gName i x σ H1 D.nx) (RR := fun acc C => compPost (model X.prog X.w) X.A X.xe (some (assign (.Name x py) X.env)) (fun _ s' => SP X pins D .next s') acc C) S hc I2 T st2 f2 hg htc he W w0 turn
    fun C H' s' m hCle hm hCn I' hback q => ?_
  refine wpAny_assign_Name (store_ok2 (v := .ref s2.heap.objs.size) I' hN hi' hx rfl (fun s'' I'' ⟨a, hsa, ha⟩ => ?_) hf)
  have hCa : C ≠ a := by
    rcases ha with z | z
    · rw [z]
      exact Ne.symm (lt_le_ne I2.lt hCle)
    · obtain ⟨v, q'⟩ := I2.cell x a z
      exact Ne.symm (lt_le_ne q'.lt hCle)
  refine ⟨m, hm.sameBut hsa hCa, fun h' hs' => ⟨_, H', ?_, q⟩⟩
  -- only the block's own names change
  have hC0 : X.s₀.heap.objs.size ≤ C := Nat.le_trans I2.sz hCle
  have hnp : ∀ p ∈ X.pn ++ pins, p.1 ≠ C := fun p hp => lt_le_ne (Heap.lt_size (I2.pin p hp).1) hCle
  have hcl : ∀ y c, X.env.cells.lookup y = some c → c ≠ C := fun y c e => by
    obtain ⟨v, q'⟩ := I2.cell y c e
    exact lt_le_ne q'.lt hCle
  have hL : C ≠ X.env.locals := Ne.symm (lt_le_ne I2.lt hCle)
  exact I''.turned (t' := s''.toks) (it := C) (fun b o hb e => (hs'.2 b hb).trans e) hCn hL (.inr hC0) hcl hnp
end
/-! ### enumerate of a list, walked by pairs -/
def Ite (K : PySem.W.Frag) (a : Addr) : It :=
  ⟨fun i H => ∃ xs x, SqL K H a xs ∧ xs[i]? = some x, fun i H y H' => ∃ p x, H p = none ∧ y = .ref p ∧ H' = upd H p (.tup [.int i, x]) ∧ ∀ xs, SqL K H a xs → xs[i]? = some x, fun i H => ∃ xs, SqL K H a xs ∧ xs.length ≤ i⟩
theorem turn_enum {P : Program} {w : World} {K : PySem.W.Frag} {es : List Expr} {k : Nat} {pos : Pos} (a e it : Addr) (hei : e ≠ it) :
    Turn P w K (.Tuple es k pos) (Ite K a) [e, it] e (fun i h => (∃ old, IsEnum h e it ((i : Nat) : Int) old) ∧ h.IsListIter it a i) where
  mem := by simp
  obj := fun i h st b hb => by
    obtain ⟨⟨old, he⟩, ⟨o, e1, c, d⟩⟩ := st
    rcases List.mem_cons.mp hb with rfl | hb
    · exact ⟨_, he, fun v z => by
        have z' : Data.fields _ = Data.cell v := z
        cases z'⟩
    · have e2 : b = it := by simpa using hb
      subst e2
      exact ⟨o, e1, fun v z => by rw [d] at z; cases z⟩
  keep := fun i h h' st k => by
    obtain ⟨⟨old, he⟩, hit⟩ := st
    exact ⟨⟨old, k e (by simp) _ he⟩, hit.at fun o e' => k it (by simp) o e'⟩
  item := by
    intro X hP hw hK hc i pins s σ H E I hf st hg
    subst hP hw hK
    obtain ⟨⟨old, he⟩, hit⟩ := st
    obtain ⟨xs, x, hq, hx⟩ := hg
    obtain ⟨its, rv, p, hz⟩ := I.list hq
    obtain ⟨u, hu, ru⟩ := rv.get hx
    refine wpAny_pyNext_enum_item he hit p.isList (x := u) (by simpa using hu) hei fun h' heo hit' ht hz' hk => ?_
    refine ⟨_, rfl, wpAny_letOwnedTupleGo_enum heo fun h'' he'' hs'' => ?_⟩
    have hT : H s.heap.objs.size = none := I.hok.fresh (Nat.le_refl _)
    have heT : e ≠ s.heap.objs.size := Nat.ne_of_lt (Heap.lt_size he)
    have hfe := hf e (by simp)
    have hfi := hf it (by simp)
    have keep : ∀ b o, b ≠ e → b ≠ it → s.heap.get? b = some o → h''.get? b = some o := fun b o h1 h2 h3 => (hs''.2 b h1).trans (hk b o h1 h2 h3)
    have keepc : ∀ b o, b ∉ [e, it] → s.heap.get? b = some o → h''.get? b = some o := fun b o h1 h3 => keep b o (fun z => h1 (by simp [z])) (fun z => h1 (by simp [z])) h3
    have tup := (hs''.2 _ (Ne.symm heT)).trans ht
    have nf : ∀ b u, H b = some u → b ≠ e ∧ b ≠ it := fun b u q => ⟨fun z => (by rw [z, hfe.1] at q; cases q), fun z => (by rw [z, hfi.1] at q; cases q)⟩
    have nT : ∀ b u, H b = some u → b ≠ s.heap.objs.size := fun b u q => ne_of_none q hT
    have iti : it ≠ s.heap.objs.size := by obtain ⟨o, e1, _⟩ := hit; exact Nat.ne_of_lt (Heap.lt_size e1)
    refine ⟨.ref s.heap.objs.size, upd H s.heap.objs.size (.tup [.int i, x]), ?_, rfl, ⟨_, x, hT, rfl, rfl, fun ys hy => by rw [I.list_inj hy hq]; exact hx⟩, ⟨⟨_, he''⟩, ?_⟩, fun b hb => ?_⟩
    · show Inv X pins σ (upd H s.heap.objs.size (.tup [.int i, x])) { s with heap := h'', gens := s.gens, drawn := s.drawn, toks := s.toks + 1 }
      refine Inv.step (s := s) (h' := h'') (t' := s.toks + 1) (g' := s.gens) (d' := s.drawn) (ch := [e, it]) I (fun b hb => ?_) (fun b o _ _ hc' q _ => keepc b o hc' q) (fun b o _ _ hc' q _ => ⟨o.slots, keepc b o hc' q⟩) (fun b o _ q n => by rw [upd_ne (Nat.ne_of_lt (Heap.lt_size q))]; exact n)
        (fun b o hc' q => ⟨o, keepc b o hc' q⟩) (fun b ys q => by rw [upd_ne (nT b _ q)]; exact q) (fun b o' ys q => by rw [upd_ne (nT b _ q)]; exact q) (fun b ps q => ⟨#[], by rw [upd_ne (nT b _ q), q]; simp⟩) (fun m hm => ?_) (fun b ob q => ?_) I.bare
      · rcases List.mem_cons.mp hb with rfl | hb
        · exact ⟨hfe.2.2.2.1, hfe.2.1, hfe.2.2.2.2.1, hfe.2.2.2.2.2⟩
        · have e2 : b = it := by simpa using hb
          subst e2
          exact ⟨hfi.2.2.2.1, hfi.2.1, hfi.2.2.2.2.1, hfi.2.2.2.2.2⟩
      · obtain ⟨o, es, ep, ho, r⟩ := hm
        exact ⟨o, es, ep, keep _ o (Ne.symm hfe.2.1) (Ne.symm hfi.2.1) ho, r⟩
      · by_cases hb : b = s.heap.objs.size
        · subst hb
          rw [upd_same] at q
          cases q
          exact ⟨show 2 ≤ sizeLine by decide, [.int i s.toks, u], .cons ⟨_, rfl⟩ (.cons ru .nil), ⟨_, tup, rfl, _, rfl⟩⟩
        · rw [upd_ne hb] at q
          refine (I.hok b ob q).stay (fun c w' hc' q' => ?_) (fun c q' => by rw [upd_ne (nT c _ q')]; exact q') (fun c ys q' => by rw [upd_ne (nT c _ q')]; exact q')
          have hne : c ≠ e ∧ c ≠ it := by
            rcases hc' with rfl | hc'
            · exact nf _ _ q
            · exact nf _ _ hc'
          exact keep c w' hne.1 hne.2 q'
    · exact hit'.at fun o e' => (hs''.2 it (Ne.symm hei)).trans e'
    · rcases List.mem_cons.mp hb with rfl | hb
      · rw [upd_ne heT]; exact hfe.1
      · have e2 : b = it := by simpa using hb
        subst e2
        rw [upd_ne iti]; exact hfi.1
  done := by
    intro X hP hw hK hc i pins s σ H E I hf st hg
    subst hP hw hK
    obtain ⟨⟨old, he⟩, hit⟩ := st
    obtain ⟨xs, hq, hx⟩ := hg
    obtain ⟨its, rv, p, hz⟩ := I.list hq
    obtain ⟨f0, f1, f2, f3, f4, f5⟩ := hf it (by simp)
    have hl := rv.length
    exact wpAny_pyNext_enum_end (I.ok.hd hc) he hit p.isList (by simp; omega) fun h' eb => ⟨rfl, I.turned (t' := s.toks) (fun b o hb q => eb b o hb q) f0 f1 f3 f4 f5⟩
  self := fun _ _ _ _ _ st h => by
    obtain ⟨⟨old, he⟩, hit⟩ := st
    exact wpAny_pyIter_enum he h
section
variable {X : Cx}
def iEnum (K : PySem.W.Frag) (ta : TA) : TI := fun σ H R => ta σ H fun vs H1 => ∃ a, vs = [.ref a] ∧ (∃ xs, SqL K H1 a xs) ∧ R (Ite K a) H1
theorem pi_enum {es : List Expr} {k : Nat} {pos' : Pos} {a : Expr} {ta : TA} {p pos : Pos} (hg : Gl X "enumerate") (hm : X.mg "enumerate" = none) (ha : PA X [a] ta) (hs : starEach [a] X.env = [(false, eval a X.env)] := by rfl) :
    PI X (.Tuple es k pos') (.Call (.Name "enumerate" p) [a] [] pos) (iEnum X.K ta) := by
  intro pins s σ H R I h
  refine Call_ (ld_blt I hg hm boot_enumerate (PyProof.Rows.callWith_type1 (thn (ha pos pins s σ H _ I h) fun us s1 ⟨vs, H1, I1, r1, q1⟩ => ?_) hs rfl))
  obtain ⟨l, e, ⟨xs, hq⟩, q⟩ := q1
  subst e
  cases r1 with
  | cons r rr =>
    cases rr
    cases r
    obtain ⟨its, rv, pl, hz⟩ := I1.list hq
    refine call_enumerate_list pl.isList fun h' he hit hz' hk => wpAny_pyIter_enum he ?_
    have I2 : Inv X pins σ H1 { s1 with heap := h' } := I1.kept (t' := s1.toks) fun b o e => hk b o e
    have hne : s1.heap.objs.size + 1 ≠ s1.heap.objs.size := Nat.succ_ne_self _
    refine ⟨s1.heap.objs.size + 1, [s1.heap.objs.size + 1, s1.heap.objs.size], _, _, H1, rfl, I2, turn_enum l _ _ hne, ⟨⟨_, he⟩, hit⟩, fun b hb => ?_, q⟩
    rcases List.mem_cons.mp hb with rfl | hb
    · exact I1.fpOk (Nat.le_succ _) (I1.hok.fresh (Nat.le_succ _))
    · have e2 : b = s1.heap.objs.size := by simpa using hb
      subst e2
      exact I1.fpOk (Nat.le_refl _) (I1.hok.fresh (Nat.le_refl _))
end
/-- (a, b) = a pair -/
abbrev gPair (K : PySem.W.Frag) (ni nx : Nat) : TG := gTup K 2 (gCons (gName ni) (gCons (gName nx) gNil))
/-- over enumerate of a list that the body leaves as it is -/
theorem for_enum {K : PySem.W.Frag} {a : Addr} {xs : List V} {ni nx : Nat} {tb : TS} {D : Ends} {σ : St} {H : Hp} (Pv : Nat → St → Hp → Prop) (h0 : Pv 0 σ H) (hl : ∀ i σ H, i ≤ xs.length → Pv i σ H → SqL K H a xs)
    (hs : ∀ i x σ H p, xs[i]? = some x → Pv i σ H → H p = none → tb { D with nx := Pv (i + 1), ct := Pv (i + 1), bk := D.nx } ((σ.set ni (some (.int i))).set nx (some x)) (upd H p (.tup [.int i, x]))) (hd : ∀ σ H, Pv xs.length σ H → D.nx σ H) :
    ∃ W : Nat → Nat → St → Hp → Prop, (∃ m, W 0 m σ H) ∧ ∀ i m σ H, W i m σ H →
      ((Ite K a).stop i H ∧ D.nx σ H) ∨ ((Ite K a).go i H ∧ ∃ N : St → Hp → Prop, (∀ σ' H', N σ' H' → ∃ m', m' < m ∧ W (i + 1) m' σ' H') ∧ ∀ x H', (Ite K a).yld i H x H' → gPair K ni nx x σ H' fun σ2 H2 => tb { D with nx := N, ct := N, bk := D.nx } σ2 H2) := by
  refine ⟨fun i m σ H => m = xs.length - i ∧ i ≤ xs.length ∧ Pv i σ H, ⟨xs.length, by simp, Nat.zero_le _, h0⟩, ?_⟩
  rintro i m σ H ⟨rfl, hi, p⟩
  have q := hl i σ H hi p
  by_cases hlt : i < xs.length
  · refine .inr ⟨⟨xs, xs[i], q, by simp [hlt]⟩, Pv (i + 1), fun σ' H' p' => ⟨xs.length - (i + 1), by omega, rfl, hlt, p'⟩, fun y H' yl => ?_⟩
    obtain ⟨pp, x, hn, rfl, rfl, hx⟩ := yl
    exact ⟨pp, [.int i, x], rfl, SqT.of upd_same, rfl, _, _, rfl, _, _, rfl, rfl, hs i x σ _ pp (hx xs q) p hn⟩
  · have e : i = xs.length := by omega
    subst e
    exact .inl ⟨⟨xs, q, Nat.le_refl _⟩, hd σ H p⟩
/-! ### isinstance(x, T), T a built-in type -/
section
variable {X : Cx}
theorem call_isinst : CallR X (.builtin "isinstance") (fun xs H Q => ∃ x n t b, xs = [x, .ty n] ∧ TyOf X.K H x t ∧ PySem.W.kitOne X.K t (.type n) = some b ∧ Q (.bl b) H) := by
  intro pins s σ H xs us Q I r h
  obtain ⟨x, n, t, b, rfl, ty, e, q⟩ := h
  obtain ⟨u, w', rfl, ru, rw'⟩ := vals2 r
  cases rw'
  exact isinst_ok I ru ty e fun tk => ⟨.bl b, H, I.tok tk, rfl, q⟩
/-- () + t is t -/
theorem op_catT0 : OpR X (binaryOp .Add) (fun x y H Q => ∃ a b ys, x = .ref a ∧ y = .ref b ∧ SqT X.K H a [] ∧ SqT X.K H b ys ∧ Q (.ref b) H) := by
  intro pins s σ H x y v u Q I rx ry h
  obtain ⟨a, b, ys, rfl, rfl, ha, hb, q⟩ := h
  cases rx
  cases ry
  obtain ⟨its, r1, p1, _⟩ := I.tuple ha
  obtain ⟨its2, r2, p2, _⟩ := I.tuple hb
  cases r1
  obtain ⟨⟨cls, dd, data, sl⟩, ho, hc, n, hd⟩ := id p1
  obtain ⟨⟨cls2, dd2, data2, sl2⟩, ho2, hc2, n2, hd2⟩ := id p2
  simp only at hc hd hc2 hd2
  subst hc hd hc2 hd2
  exact concat_meets ⟨_, ho, rfl⟩ ⟨_, ho2, rfl⟩ noFill_tuple_add seq_tuple_add PySem.F.slot_tuple_add PySem.F.entry_tuple_add (PySem.F.args_tuple_add_2 _ _)
      (tuple_addW0 a b _ _ n n2 dd dd2 sl sl2 (by simp)) ⟨ho, ho2, ⟨.ref b, H, I, rfl, q⟩⟩
/-- t * n, n from 0 to below 1000 -/
theorem op_repT : OpR X (binaryOp .Mult) (fun x y H Q => ∃ l k xs, x = .ref l ∧ y = .int k ∧ SqT X.K H l xs ∧ xs ≠ [] ∧ 0 ≤ k ∧ k < 1000 ∧ xs.length ≤ 1000 ∧
    (k = 1 → Q (.ref l) H) ∧ (k ≠ 1 → ∀ p, H p = none → Q (.ref p) (upd H p (.tup (List.replicate k.toNat xs).flatten)))) := by
  intro pins s σ H x y v u Q I rx ry h
  obtain ⟨l, k, xs, rfl, rfl, ha, hx, h0, h1, hz, q1, q2⟩ := h
  cases rx
  obtain ⟨t, rfl⟩ := ry
  obtain ⟨its, r, p, _⟩ := I.tuple ha
  obtain ⟨⟨cls, dd, data, sl⟩, ho, hc, n, hd⟩ := id p
  simp only at hc hd
  subst hc hd
  have hl := r.length
  have hne : its.toArray.isEmpty = false := by
    cases its with
    | nil => cases r; exact absurd rfl hx
    | cons a b => simp
  refine wpAny_binaryOp_repeat_ref (T := "tuple") (U := "int") (by decide) ⟨_, ho, rfl⟩ (fun s' => typeIs_int s' k t) noFill_tuple_mul F.fills_int_mul F.slot_int_rmul repeat_tuple F.slot_int_index.lookup
    (call_meets F.slot_int_rmul (typeIs_int s k t) F.entry_int_rmul (F.args_int_rmul_2 _ _) (int_rmul_tuple k t l its.toArray n dd sl) ⟨ho, rfl, ⟨_, ho, rfl⟩, ?_⟩)
  by_cases hk1 : k = 1
  · exact call_meets F.slot_tuple_mul ⟨_, ho, rfl⟩ F.entry_tuple_mul (F.args_tuple_mul_2 _ _) (tuple_mul1 l its.toArray n dd sl k t hk1) ⟨ho, ⟨.ref l, H, I, rfl, q1 hk1⟩⟩
  · by_cases hk0 : k = 0
    · subst hk0
      refine call_meets F.slot_tuple_mul ⟨_, ho, rfl⟩ F.entry_tuple_mul (F.args_tuple_mul_2 _ _) (tuple_mul0 l its.toArray n dd sl 0 t hne (by decide) (by decide)) ⟨ho, ?_⟩
      exact ⟨.ref s.heap.objs.size, _, I.laid (t' := s.toks) (o := .tup []) (fun b ob q => Heap.get?_push_of_some _ q) (Nat.le_refl _) ⟨Nat.zero_le _, [], .nil, IsTup.new _ _⟩, rfl, q2 hk1 _ (I.hok.fresh (Nat.le_refl _))⟩
    · refine call_meets F.slot_tuple_mul ⟨_, ho, rfl⟩ F.entry_tuple_mul (F.args_tuple_mul_2 _ _) (tuple_mul2 l its.toArray n dd sl k t hne (by omega) h1 (by rw [List.size_toArray, ← hl]; exact hz)) ⟨ho, ?_⟩
      have f0 : List.foldl (fun x1 x2 => x1 ++ x2) #[] (List.replicate k.toNat its.toArray) = (List.replicate k.toNat its).flatten.toArray := by
        have := foldl_rep its k.toNat []
        rw [List.nil_append] at this
        exact this
      rw [f0]
      refine ⟨.ref s.heap.objs.size, _, I.laid (t' := s.toks) (o := .tup (List.replicate k.toNat xs).flatten) (fun b ob q => Heap.get?_push_of_some _ q) (Nat.le_refl _) ⟨?_, _, r.rep k.toNat, IsTup.new _ _⟩, rfl, q2 hk1 _ (I.hok.fresh (Nat.le_refl _))⟩
      rw [len_rep]
      have h2 : (1000000 : Nat) ≤ sizeLine := by decide
      have h3 : k.toNat * xs.length ≤ 1000 * 1000 := Nat.mul_le_mul (by omega) hz
      omega
end
/-! ### == and != of tuples and lists whose items are flat or tuples of flat ones -/
def eqVs : List V → List V → Bool
  | [], [] => true
  | x :: l, y :: m => eqV x y && eqVs l m
  | _, _ => false
theorem eqV_refl {x : V} (h : flatV x = true) : eqV x x = true := by
  cases x <;> first | rfl | exact beq_self_eq_true _ | (exact absurd (show false = true from h) Bool.false_ne_true)
theorem eqVs_refl : ∀ {l : List V}, l.all flatV = true → eqVs l l = true
  | [], _ => rfl
  | x :: l, h => by
    rw [List.all_cons, Bool.and_eq_true] at h
    show (eqV x x && eqVs l l) = true
    rw [eqV_refl h.1, eqVs_refl h.2]
    rfl
theorem all_range_succ (e : Nat → Bool) (n : Nat) : (List.range (n + 1)).all e = (e 0 && (List.range n).all fun j => e (j + 1)) := by
  rw [List.range_succ_eq_map, List.all_cons, List.all_map]
  rfl
theorem eqVs_range : ∀ (l m : List V) (e : Nat → Bool), (∀ j (h1 : j < l.length) (h2 : j < m.length), e j = eqV l[j] m[j]) →
    ((List.range (min l.length m.length)).all e && l.length == m.length) = eqVs l m
  | [], [], _, _ => rfl
  | [], _ :: _, _, _ => by simp [eqVs]
  | _ :: _, [], _, _ => by simp [eqVs]
  | x :: l, y :: m, e, h => by
    have ih := eqVs_range l m (fun j => e (j + 1)) fun j h1 h2 => h (j + 1) (by simpa using h1) (by simpa using h2)
    have h0 := h 0 (by simp) (by simp)
    have hmin : min (x :: l).length (y :: m).length = min l.length m.length + 1 := by
      rw [List.length_cons, List.length_cons]
      omega
    rw [hmin, all_range_succ, h0]
    show (eqV x y && _ && (l.length + 1 == m.length + 1)) = (eqV x y && eqVs l m)
    rw [← ih, Bool.and_assoc]
    congr 2
    rw [Bool.eq_iff_iff]
    simp
inductive F1 where
  | fl (x : V)
  | tp (l : List V)
def Den1 (K : PySem.W.Frag) (H : Hp) (v : V) : F1 → Prop
  | .fl x => v = x ∧ flatV x = true
  | .tp l => ∃ a, v = .ref a ∧ SqT K H a l ∧ l.all flatV = true
def F1.eq : F1 → F1 → Bool
  | .fl x, .fl y => eqV x y
  | .tp l, .tp m => eqVs l m
  | _, _ => false
def eqFs : List F1 → List F1 → Bool
  | [], [] => true
  | x :: l, y :: m => x.eq y && eqFs l m
  | _, _ => false
theorem eqFs_range : ∀ (l m : List F1) (e : Nat → Bool), (∀ j (h1 : j < l.length) (h2 : j < m.length), e j = l[j].eq m[j]) →
    ((List.range (min l.length m.length)).all e && l.length == m.length) = eqFs l m
  | [], [], _, _ => rfl
  | [], _ :: _, _, _ => by simp [eqFs]
  | _ :: _, [], _, _ => by simp [eqFs]
  | x :: l, y :: m, e, h => by
    have ih := eqFs_range l m (fun j => e (j + 1)) fun j h1 h2 => h (j + 1) (by simpa using h1) (by simpa using h2)
    have h0 := h 0 (by simp) (by simp)
    have hmin : min (x :: l).length (y :: m).length = min l.length m.length + 1 := by
      rw [List.length_cons, List.length_cons]
      omega
    rw [hmin, all_range_succ, h0]
    show (x.eq y && _ && (l.length + 1 == m.length + 1)) = (x.eq y && eqFs l m)
    rw [← ih, Bool.and_assoc]
    congr 2
    rw [Bool.eq_iff_iff]
    simp
theorem Paired.at {α β : Type} {F : α → β → Prop} : ∀ {l₁ : List α} {l₂ : List β}, Paired F l₁ l₂ → ∀ j (h1 : j < l₁.length) (h2 : j < l₂.length), F l₁[j] l₂[j]
  | _, _, .nil, j, h1, _ => absurd h1 (Nat.not_lt_zero j)
  | _, _, .cons h _, 0, _, _ => h
  | _, _, .cons _ t, j + 1, h1, h2 => Paired.at t j (by simpa using h1) (by simpa using h2)
section
variable {X : Cx} {pins : List (Addr × Obj)} {σ : St} {H : Hp} {s : Shared} {A : Around}
theorem eqAt_tup {a b : Addr} {l m : List V} (I : Inv X pins σ H s) (ha : SqT X.K H a l) (hb : SqT X.K H b m) (fl : l.all flatV = true) (fm : m.all flatV = true) (hu : A.units < cLine) : SeqAt.EqAt A s (.ref a) (.ref b) (eqVs l m) := by
  by_cases hab : a = b
  · subst hab
    rw [I.tuple_inj hb ha, eqVs_refl fl]
    exact SeqAt.EqAt.same _
  · obtain ⟨its, r1, p1, _⟩ := I.tuple ha
    obtain ⟨its2, r2, p2, _⟩ := I.tuple hb
    have h1 := r1.length
    have h2 := r2.length
    have key := SeqAt.RcAt.tuples (A := A) (s := s) (l := a) (b := b) (items := its.toArray) (items2 := its2.toArray) (e := fun j => eqV (l.getD j .non) (m.getD j .non)) p1 p2 hu fun j g1 g2 => by
      have g1' : j < l.length := by rw [h1]; simpa using g1
      have g2' : j < m.length := by rw [h2]; simpa using g2
      have e1 : l.getD j .non = l[j] := by simp [g1']
      have e2 : m.getD j .non = m[j] := by simp [g2']
      rw [e1, e2]
      have w1 := Paired.at r1 j g1' (by simpa using g1)
      have w2 := Paired.at r2 j g2' (by simpa using g2)
      exact eqAt_V (by simpa using w1) (by simpa using w2) (List.all_eq_true.mp fl _ (List.getElem_mem g1')) (List.all_eq_true.mp fm _ (List.getElem_mem g2'))
    have e3 : ((List.range (min its.toArray.size its2.toArray.size)).all (fun j => eqV (l.getD j .non) (m.getD j .non)) && its.toArray.size == its2.toArray.size) = eqVs l m := by
      rw [List.size_toArray, List.size_toArray, ← h1, ← h2]
      exact eqVs_range l m _ fun j g1 g2 => by simp [g1, g2]
    rw [e3] at key
    exact SeqAt.EqAt.of_refs hab key
theorem eqAt_1 {v v' : V} {u u' : Value} {f f' : F1} (I : Inv X pins σ H s) (r : RelV v u) (r' : RelV v' u') (d : Den1 X.K H v f) (d' : Den1 X.K H v' f') (hu : A.units < cLine) : SeqAt.EqAt A s u u' (f.eq f') := by
  cases f with
  | fl x =>
    obtain ⟨rfl, fx⟩ := d
    cases f' with
    | fl y =>
      obtain ⟨rfl, fy⟩ := d'
      exact eqAt_V r r' fx fy
    | tp m =>
      obtain ⟨b, rfl, hb, fm⟩ := d'
      cases r'
      obtain ⟨its2, r2, p2, _⟩ := I.tuple hb
      cases v with
      | non => cases r; exact SeqAt.EqAt.none_tuple p2 hu
      | bl c => cases r; exact SeqAt.EqAt.bool_tuple c p2 hu
      | int c => obtain ⟨t, rfl⟩ := r; exact SeqAt.EqAt.int_tuple c t p2 hu
      | str c => obtain ⟨t, rfl⟩ := r; exact SeqAt.EqAt.str_tuple c t p2 hu
      | _ => exact absurd (show false = true from fx) Bool.false_ne_true
  | tp l =>
    obtain ⟨a, rfl, ha, fl⟩ := d
    cases r
    cases f' with
    | fl y =>
      obtain ⟨rfl, fy⟩ := d'
      obtain ⟨its, r1, p1, _⟩ := I.tuple ha
      cases v' with
      | non => cases r'; exact SeqAt.EqAt.tuple_none p1 hu
      | bl c => cases r'; exact SeqAt.EqAt.tuple_bool c p1 hu
      | int c => obtain ⟨t, rfl⟩ := r'; exact SeqAt.EqAt.tuple_int c t p1 hu
      | str c => obtain ⟨t, rfl⟩ := r'; exact SeqAt.EqAt.tuple_str c t p1 hu
      | _ => exact absurd (show false = true from fy) Bool.false_ne_true
    | tp m =>
      obtain ⟨b, rfl, hb, fm⟩ := d'
      cases r'
      exact eqAt_tup I ha hb fl fm hu
abbrev Den1s (K : PySem.W.Frag) (H : Hp) : List V → List F1 → Prop := Paired (Den1 K H)
theorem eq_items {xs ys : List V} {fs gs : List F1} {its its2 : List Value} (I : Inv X pins σ H s) (r1 : Vals xs its) (r2 : Vals ys its2) (d1 : Den1s X.K H xs fs) (d2 : Den1s X.K H ys gs) (hu : A.units < cLine) :
    ∃ e : Nat → Bool, (∀ j (h1 : j < its.toArray.size) (h2 : j < its2.toArray.size), SeqAt.EqAt A s its.toArray[j] its2.toArray[j] (e j)) ∧
      ((List.range (min its.toArray.size its2.toArray.size)).all e && its.toArray.size == its2.toArray.size) = eqFs fs gs := by
  have h1 := r1.length
  have h2 := r2.length
  have k1 := Paired.length d1
  have k2 := Paired.length d2
  refine ⟨fun j => (fs.getD j (.tp [])).eq (gs.getD j (.tp [])), fun j g1 g2 => ?_, ?_⟩
  · have g1' : j < xs.length := by rw [h1]; simpa using g1
    have g2' : j < ys.length := by rw [h2]; simpa using g2
    have e1 : fs.getD j (.tp []) = fs[j]'(by omega) := by simp [show j < fs.length by omega]
    have e2 : gs.getD j (.tp []) = gs[j]'(by omega) := by simp [show j < gs.length by omega]
    show SeqAt.EqAt A s its.toArray[j] its2.toArray[j] ((fs.getD j (.tp [])).eq (gs.getD j (.tp [])))
    rw [e1, e2]
    have w1 := Paired.at r1 j g1' (by simpa using g1)
    have w2 := Paired.at r2 j g2' (by simpa using g2)
    exact eqAt_1 I (by simpa using w1) (by simpa using w2) (Paired.at d1 j g1' (by omega)) (Paired.at d2 j g2' (by omega)) hu
  · rw [List.size_toArray, List.size_toArray, ← h1, ← h2, k1, k2]
    exact eqFs_range fs gs _ fun j g1 g2 => by simp [g1, g2]
/-- both tuples, or both lists -/
def SqB (K : PySem.W.Frag) (H : Hp) (a b : Addr) (xs ys : List V) : Prop := (SqT K H a xs ∧ SqT K H b ys) ∨ (SqL K H a xs ∧ SqL K H b ys)
def rEq2 (K : PySem.W.Frag) (neg : Bool) : R2 := fun x y H Q => ∃ a b xs ys fs gs, x = .ref a ∧ y = .ref b ∧ SqB K H a b xs ys ∧ Den1s K H xs fs ∧ Den1s K H ys gs ∧ Q (.bl (if neg then !eqFs fs gs else eqFs fs gs)) H
theorem op_eq2 (hu : X.A.units + 1 < cLine) : OpR X (compareOp .Eq) (rEq2 X.K false) := by
  intro pins s σ H x y v u Q I rx ry h
  obtain ⟨a, b, xs, ys, fs, gs, rfl, rfl, hq, d1, d2, q⟩ := h
  cases rx
  cases ry
  rcases hq with ⟨ha, hb⟩ | ⟨ha, hb⟩
  · obtain ⟨its, r1, p1, _⟩ := I.tuple ha
    obtain ⟨its2, r2, p2, _⟩ := I.tuple hb
    obtain ⟨e, he, ee⟩ := eq_items (A := X.A.in1) I r1 r2 d1 d2 (by first | exact Nat.lt_of_succ_lt hu | exact hu)
    refine SeqAt.eq_tupleAt p1 p2 (Nat.lt_of_succ_lt hu) he ⟨.bl _, H, I, rfl, ?_⟩
    rw [ee]
    exact q
  · obtain ⟨its, r1, p1, _⟩ := I.list ha
    obtain ⟨its2, r2, p2, _⟩ := I.list hb
    obtain ⟨e, he, ee⟩ := eq_items (A := X.A.in1) I r1 r2 d1 d2 (by first | exact Nat.lt_of_succ_lt hu | exact hu)
    by_cases hz : its.toArray.size = its2.toArray.size
    · refine SeqAt.eq_listAt p1.isList p2.isList hz (Nat.lt_of_succ_lt hu) he ⟨.bl _, H, I, rfl, ?_⟩
      rw [← hz, Nat.min_self, beq_self_eq_true, Bool.and_true] at ee
      rw [ee]
      exact q
    · refine SeqAt.eq_list_lengthsAt p1.isList p2.isList (by simpa using hz) (Nat.lt_of_succ_lt hu) ⟨.bl _, H, I, rfl, ?_⟩
      have hb' : (its.toArray.size == its2.toArray.size) = false := by simpa using hz
      rw [hb', Bool.and_false] at ee
      rw [ee]
      exact q
theorem op_ne2 (hu : X.A.units + 1 < cLine) : OpR X (compareOp .NotEq) (rEq2 X.K true) := by
  intro pins s σ H x y v u Q I rx ry h
  obtain ⟨a, b, xs, ys, fs, gs, rfl, rfl, hq, d1, d2, q⟩ := h
  cases rx
  cases ry
  rcases hq with ⟨ha, hb⟩ | ⟨ha, hb⟩
  · obtain ⟨its, r1, p1, _⟩ := I.tuple ha
    obtain ⟨its2, r2, p2, _⟩ := I.tuple hb
    obtain ⟨e, he, ee⟩ := eq_items (A := X.A.in1) I r1 r2 d1 d2 (by first | exact Nat.lt_of_succ_lt hu | exact hu)
    refine SeqAt.RcNeAt.tuples p1 p2 (Nat.lt_of_succ_lt hu) he _ _ _ _ ⟨.bl _, H, I, rfl, ?_⟩
    rw [ee]
    exact q
  · obtain ⟨its, r1, p1, _⟩ := I.list ha
    obtain ⟨its2, r2, p2, _⟩ := I.list hb
    obtain ⟨e, he, ee⟩ := eq_items (A := X.A.in1) I r1 r2 d1 d2 (by first | exact Nat.lt_of_succ_lt hu | exact hu)
    by_cases hz : its.toArray.size = its2.toArray.size
    · refine SeqAt.RcNeAt.lists p1.isList p2.isList hz (Nat.lt_of_succ_lt hu) he _ _ _ _ ⟨.bl _, H, I, rfl, ?_⟩
      rw [← hz, Nat.min_self, beq_self_eq_true, Bool.and_true] at ee
      rw [ee]
      exact q
    · refine SeqAt.RcNeAt.lists_lengths p1.isList p2.isList (by simpa using hz) (Nat.lt_of_succ_lt hu) _ _ _ _ ⟨.bl _, H, I, rfl, ?_⟩
      have hb' : (its.toArray.size == its2.toArray.size) = false := by simpa using hz
      rw [hb', Bool.and_false] at ee
      rw [← ee] at q
      exact q
/-- flat lists of ints (as tuples or lists) -/
theorem den_ints {K : PySem.W.Frag} {H : Hp} : ∀ ns : List Int, Den1s K H (ns.map V.int) (ns.map fun n => F1.fl (.int n))
  | [] => .nil
  | n :: ns => .cons ⟨rfl, rfl⟩ (den_ints ns)
theorem eqFs_ints : ∀ ns ms : List Int, eqFs (ns.map fun n => F1.fl (.int n)) (ms.map fun n => F1.fl (.int n)) = decide (ns = ms)
  | [], [] => rfl
  | [], _ :: _ => rfl
  | _ :: _, [] => rfl
  | n :: ns, m :: ms => by
    show ((n == m) && eqFs _ _) = _
    rw [eqFs_ints ns ms, Bool.eq_iff_iff]
    simp
theorem flat_ints (ns : List Int) : (ns.map V.int).all flatV = true := by
  rw [List.all_map, List.all_eq_true]
  intro n _
  rfl
theorem eqVs_ints : ∀ ns ms : List Int, eqVs (ns.map V.int) (ms.map V.int) = decide (ns = ms)
  | [], [] => rfl
  | [], _ :: _ => rfl
  | _ :: _, [] => rfl
  | n :: ns, m :: ms => by
    show ((n == m) && eqVs _ _) = _
    rw [eqVs_ints ns ms, Bool.eq_iff_iff]
    simp
/-- a tuple of ints in a list of such -/
def Pts (K : PySem.W.Frag) (H : Hp) : List V → List (List Int) → Prop := Paired fun v l => ∃ a, v = .ref a ∧ SqT K H a (l.map V.int)
open Classical in
theorem op_notInP (hu : X.A.units + 1 < cLine) : OpR X (compareOp .NotIn) (fun x y H Q => ∃ b t p xs ls, x = .ref b ∧ SqT X.K H b (t.map V.int) ∧ y = .ref p ∧ SqL X.K H p xs ∧ Pts X.K H xs ls ∧ Q (.bl (!decide (t ∈ ls))) H) := by
  intro pins s σ H x y v u Q I rx ry h
  obtain ⟨b, t, p, xs, ls, rfl, ht, rfl, hq, hp, q⟩ := h
  cases rx
  cases ry
  obtain ⟨its, r, pl, hz⟩ := I.list hq
  have hinj : ∀ {ns ms : List Int}, ns.map V.int = ms.map V.int → ns = ms := fun {ns ms} e => by
    have := eqVs_ints ns ms
    rw [e, eqVs_refl (flat_ints ms)] at this
    exact of_decide_eq_true this.symm
  let e : Value → Bool := fun u => match u with
    | .ref a => decide (SqT X.K H a (t.map V.int))
    | _ => false
  have key : ∀ {xs : List V} {us : List Value} {ls : List (List Int)}, Vals xs us → Pts X.K H xs ls → (∀ w ∈ us, SeqAt.EqAt X.A.in1 s w (.ref b) (e w)) ∧ us.any e = decide (t ∈ ls) := by
    intro xs us ls r hp
    induction hp generalizing us with
    | nil => cases r; exact ⟨fun w hw => (by cases hw), by simp⟩
    | @cons x0 l0 xs0 ls0 h0 _ ih =>
      cases r with
      | cons r0 rr =>
        obtain ⟨ih1, ih2⟩ := ih rr
        obtain ⟨a, rfl, ha⟩ := h0
        cases r0
        have e1 : e (.ref a) = decide (l0 = t) := by
          show decide (SqT X.K H a (t.map V.int)) = decide (l0 = t)
          rw [decide_eq_decide]
          exact ⟨fun z => hinj (I.tuple_inj ha z), fun z => z ▸ ha⟩
        refine ⟨fun w hw => ?_, ?_⟩
        · rcases List.mem_cons.mp hw with rfl | hw
          · rw [e1, ← eqVs_ints]
            exact eqAt_tup I ha ht (flat_ints _) (flat_ints _) (by first | exact Nat.lt_of_succ_lt hu | exact hu)
          · exact ih1 w hw
        · rw [List.any_cons, ih2, e1, Bool.eq_iff_iff]
          simp only [Bool.or_eq_true, decide_eq_true_eq, List.mem_cons]
          exact ⟨fun z => z.elim (fun z => .inl z.symm) .inr, fun z => z.elim (fun z => .inl z.symm) .inr⟩
  obtain ⟨k1, k2⟩ := key r hp
  refine SeqAt.notIn_listAt e pl.isList (fun w hw => k1 w (by simpa using hw)) ⟨.bl _, H, I, rfl, ?_⟩
  rw [show its.toArray.any e = its.any e by simp, k2]
  exact q
end
/-! ### comprehensions in use -/
theorem clos_loop (env : Env) : ∀ (names : List (Str × NameKind)) (acc : List (Str × Addr)), (∀ y ∈ names, y.2 = .free → ∃ c, env.cells.lookup y.1 = some c) → (∀ x c, acc.lookup x = some c → env.cells.lookup x = some c) →
    ∃ cl, (forIn names acc (fun (x : Str × NameKind) (cs : List (Str × Addr)) => (if (x.2 == NameKind.free) = true then (do let a ← cellOf env x.1; pure (ForInStep.yield ((x.1, a) :: cs)) : Sem _) else pure (ForInStep.yield cs))) : Sem (List (Str × Addr))) = pure cl ∧
      (∀ x c, cl.lookup x = some c → env.cells.lookup x = some c) ∧ (∀ x, (∃ c, acc.lookup x = some c) ∨ (x, NameKind.free) ∈ names → ∃ c, cl.lookup x = some c)
  | [], acc, _, h2 => ⟨acc, rfl, h2, fun x hx => hx.elim id fun z => (by cases z)⟩
  | (n, k) :: r, acc, h1, h2 => by
    by_cases hk : k = .free
    · subst hk
      obtain ⟨c, hc⟩ := h1 (n, .free) List.mem_cons_self rfl
      obtain ⟨cl, e, a, b⟩ := clos_loop env r ((n, c) :: acc) (fun y hy => h1 y (List.mem_cons_of_mem _ hy)) (fun x c' hx => by
        cases hxn : x == n with
        | true =>
          simp only [List.lookup_cons, hxn] at hx
          have : x = n := eq_of_beq hxn
          subst this
          cases hx
          exact hc
        | false =>
          simp only [List.lookup_cons, hxn] at hx
          exact h2 x c' hx)
      refine ⟨cl, ?_, a, fun x hx => b x ?_⟩
      · rw [← e, List.forIn_cons]
        have ec : cellOf env n = pure c := by unfold cellOf; rw [hc]
        simp only [beq_self_eq_true, if_true, ec]
        rfl
      · rcases hx with ⟨c', hx⟩ | hx
        · refine .inl ?_
          cases hxn : x == n with
          | true => exact ⟨c, by simp only [List.lookup_cons, hxn]⟩
          | false => exact ⟨c', by simp only [List.lookup_cons, hxn]; exact hx⟩
        · rcases List.mem_cons.mp hx with z | z
          · cases z
            exact .inl ⟨c, by simp [List.lookup_cons]⟩
          · exact .inr z
    · obtain ⟨cl, e, a, b⟩ := clos_loop env r acc (fun y hy => h1 y (List.mem_cons_of_mem _ hy)) h2
      refine ⟨cl, ?_, a, fun x hx => b x ?_⟩
      · rw [← e, List.forIn_cons]
        have hb : (k == NameKind.free) = false := by simpa using hk
        simp only [hb, Bool.false_eq_true, if_false]
        rfl
      · rcases hx with hx | hx
        · exact .inl hx
        · rcases List.mem_cons.mp hx with z | z
          · cases z
            exact absurd rfl hk
          · exact .inr z
theorem comp_scope {X : Cx} {scope : Scope} {cap : List (Str × Nat)} (hcell : ∀ x, X.env.scope.names.lookup x = some .cell → ∃ c, X.env.cells.lookup x = some c) (kind : scope.kind = .function) (nocell : ∀ y ∈ scope.names, y.2 ≠ .cell)
    (names : ∀ y ∈ scope.names, y.2 = .local → scope.names.lookup y.1 = some .local) (free : ∀ y ∈ scope.names, y.2 = .free → X.env.scope.names.lookup y.1 = some .cell)
    (hcap : ∀ p ∈ cap, X.N[p.2]? = some p.1 ∧ scope.names.lookup p.1 = some .free ∧ X.env.scope.names.lookup p.1 = some .cell) : ∃ cl, CompScope X scope cap cl := by
  obtain ⟨cl, e, a, b⟩ := clos_loop X.env scope.names [] (fun y hy hf => hcell _ (free y hy hf)) (fun x c h => by simp at h)
  refine ⟨cl, ?_, kind, nocell, names, a, fun x hx => b x (.inr (PySem.mem_of_lookup hx)), hcap⟩
  unfold closureFor
  refine Eq.trans ?_ e
  simp only [bind_pure]
/-- a turn's end in a comprehension over n items -/
abbrev CTurn (n : Nat) (D : Addr) (Pv : Nat → List V → St → Hp → Prop) (i : Nat) (σ : St) (y : V) (H5 : Hp) : Prop :=
  ∃ ys, H5 D = some (.lst ys) ∧ ys.length < sizeLine ∧ ∃ m', m' < n - i ∧ m' = n - (i + 1) ∧ i + 1 ≤ n ∧ ∃ acc, Pv (i + 1) acc σ (upd H5 D (.lst (ys ++ [y])))
theorem cturn {n : Nat} {D : Addr} {Pv : Nat → List V → St → Hp → Prop} {i : Nat} {σ : St} {y : V} {H5 : Hp} {acc : List V} (h1 : H5 D = some (.lst acc)) (h2 : acc.length < sizeLine) (hi : i < n) (h3 : Pv (i + 1) (acc ++ [y]) σ (upd H5 D (.lst (acc ++ [y])))) : CTurn n D Pv i σ y H5 :=
  ⟨acc, h1, h2, n - (i + 1), by omega, rfl, hi, acc ++ [y], h3⟩
/-- over a list that the block leaves as it is -/
theorem comp_list {K : PySem.W.Frag} {a D : Addr} {xs : List V} {ni : Nat} {te : TE} {Q : VK} {σ : St} {H : Hp} (Pv : Nat → List V → St → Hp → Prop) (h0 : Pv 0 [] σ H) (hl : ∀ i acc σ H, i ≤ xs.length → Pv i acc σ H → SqL K H a xs)
    (hs : ∀ i x acc σ H, i < xs.length → xs[i]? = some x → Pv i acc σ H → te (σ.set ni (some x)) H fun y H5 => CTurn xs.length D Pv i (σ.set ni (some x)) y H5) (hd : ∀ acc σ H, Pv xs.length acc σ H → Q (.ref D) H) :
    CompW (Itl K a) D (gName ni) te Q σ H := by
  refine ⟨fun i m σ H => m = xs.length - i ∧ i ≤ xs.length ∧ ∃ acc, Pv i acc σ H, ⟨xs.length, by simp, Nat.zero_le _, [], h0⟩, ?_⟩
  rintro i m σ H ⟨rfl, hi, acc, p⟩
  have q := hl i acc σ H hi p
  by_cases hlt : i < xs.length
  · refine .inr ⟨⟨xs, xs[i], q, by simp [hlt]⟩, fun x H' y => ?_⟩
    obtain ⟨e, y⟩ := y
    subst e
    exact hs i x acc σ _ hlt (y xs q) p
  · have e : i = xs.length := by omega
    subst e
    exact .inl ⟨⟨xs, q, Nat.le_refl _⟩, hd acc σ H p⟩
/-- over a tuple -/
theorem comp_tup {K : PySem.W.Frag} {a D : Addr} {xs : List V} {ni : Nat} {te : TE} {Q : VK} {σ : St} {H : Hp} (Pv : Nat → List V → St → Hp → Prop) (h0 : Pv 0 [] σ H) (hl : ∀ i acc σ H, i ≤ xs.length → Pv i acc σ H → SqT K H a xs)
    (hs : ∀ i x acc σ H, i < xs.length → xs[i]? = some x → Pv i acc σ H → te (σ.set ni (some x)) H fun y H5 => CTurn xs.length D Pv i (σ.set ni (some x)) y H5) (hd : ∀ acc σ H, Pv xs.length acc σ H → Q (.ref D) H) :
    CompW (Itt K a) D (gName ni) te Q σ H := by
  refine ⟨fun i m σ H => m = xs.length - i ∧ i ≤ xs.length ∧ ∃ acc, Pv i acc σ H, ⟨xs.length, by simp, Nat.zero_le _, [], h0⟩, ?_⟩
  rintro i m σ H ⟨rfl, hi, acc, p⟩
  have q := hl i acc σ H hi p
  by_cases hlt : i < xs.length
  · refine .inr ⟨⟨xs, xs[i], q, by simp [hlt]⟩, fun x H' y => ?_⟩
    obtain ⟨e, y⟩ := y
    subst e
    exact hs i x acc σ _ hlt (y xs q) p
  · have e : i = xs.length := by omega
    subst e
    exact .inl ⟨⟨xs, q, Nat.le_refl _⟩, hd acc σ H p⟩
/-! ### sorted, min, index, set, list of a dict; comprehensions over range -/
section
variable {X : Cx}
theorem valsOfInts : ∀ {us : List Value} {ns : List Int}, IntsAre us ns → Vals (ns.map V.int) us
  | _, _, .nil => .nil
  | _, _, .cons i t r => .cons ⟨t, rfl⟩ (valsOfInts r)
theorem Paired.get2 {α β : Type} {F : α → β → Prop} : ∀ {l₁ : List α} {l₂ : List β}, Paired F l₁ l₂ → ∀ {i : Nat} {y : β}, l₂[i]? = some y → ∃ x, l₁[i]? = some x ∧ F x y
  | _, _, .nil, i, _, h => by simp at h
  | _, _, .cons h _, 0, _, e => by simp at e; subst e; exact ⟨_, rfl, h⟩
  | _, _, .cons _ t, i + 1, y, e => by
    obtain ⟨x, h1, h2⟩ := Paired.get2 t (i := i) (y := y) (by simpa using e)
    exact ⟨x, by simpa using h1, h2⟩
theorem kV_rel {P : Program} {w : World} : ∀ {k : Key} {u : Value}, (mixKind P w).is k u = true → RelV (kV k) u
  | .inl i, u, h => by
    obtain ⟨t, e⟩ := Value.isInt_shape (k := i) (v := u) h
    exact ⟨t, e⟩
  | .inr x, u, h => by
    obtain ⟨t, e⟩ := Value.isStrOf_shape (x := x) (v := u) h
    exact ⟨t, e⟩
theorem vals_get : ∀ {xs : List V} {us : List Value}, xs.length = us.length → (∀ (j : Nat) x u, xs[j]? = some x → us[j]? = some u → RelV x u) → Vals xs us
  | [], [], _, _ => .nil
  | [], _ :: _, h, _ => by simp at h
  | _ :: _, [], h, _ => by simp at h
  | x :: xs, u :: us, h, f => .cons (f 0 x u rfl rfl) (vals_get (by simpa using h) fun j x' u' h1 h2 => f (j + 1) x' u' (by simpa using h1) (by simpa using h2))
def rSorted (K : PySem.W.Frag) : List V → Hp → VK → Prop := fun xs H Q => ∃ (p : Addr) (ns : List Int), xs = [.ref p] ∧ SqL K H p (ns.map V.int) ∧ ns.length < 64 ∧ ∀ ms : List Int, ms.Perm ns → ms.Pairwise (· ≤ ·) → ∀ l, H l = none → Q (.ref l) (upd H l (.lst (ms.map V.int)))
theorem call_sorted : CallR X (.builtin "sorted") (rSorted X.K) := by
  intro pins s σ H xs us Q I r h
  obtain ⟨p, ns, rfl, hq, h64, q⟩ := h
  obtain ⟨u, rfl, ru⟩ := vals1 r
  cases ru
  obtain ⟨its, rv, pl, hz⟩ := I.list hq
  have hl := rv.length
  rw [List.length_map] at hl
  refine sorted_ints pl.isList (intsAre_of rv) (by omega) fun out ms hi hp ho => ?_
  obtain ⟨e, he⟩ := sortedAll_at s.heap its out
  refine ⟨.ref (s.heap.objs.size + 1), _, I.laid (t' := s.toks) (o := .lst (ms.map V.int)) (fun b o q => sortedAll_old q) (Nat.le_succ _) ?_, rfl, q ms hp ho _ (I.hok.fresh (Nat.le_succ _))⟩
  refine ⟨?_, out.toList, e, valsOfInts hi, by simpa using he⟩
  rw [List.length_map, hp.length_eq]
  have : (64 : Nat) ≤ sizeLine := by decide
  omega
def rMin (K : PySem.W.Frag) : List V → Hp → VK → Prop := fun xs H Q => ∃ (p : Addr) (ns : List Int), xs = [.ref p] ∧ SqL K H p (ns.map V.int) ∧ ns ≠ [] ∧ ∀ m : Int, m ∈ ns → (∀ a ∈ ns, m ≤ a) → Q (.int m) H
theorem call_min (hc : X.calm = true) : CallR X (.builtin "min") (rMin X.K) := by
  intro pins s σ H xs us Q I r h
  obtain ⟨p, ns, rfl, hq, hne, q⟩ := h
  obtain ⟨u, rfl, ru⟩ := vals1 r
  cases ru
  obtain ⟨its, rv, pl, hz⟩ := I.list hq
  have hi : IntsAre its ns := intsAre_of rv
  obtain ⟨ys, e⟩ := hi.allInts.items
  have hns : ns = ys.toList.map (·.1) := by
    rw [← hi.numsOf, ← nums_intItems, ← e]
  have hsz : 0 < ys.size := by
    have h3 : 0 < ns.length := List.length_pos_iff.mpr hne
    rw [hns, List.length_map, Array.length_toList] at h3; exact h3
  have hl := pl.isList
  rw [e] at hl
  refine min_intList (I.ok.hd hc) hl hsz fun v h' tk hv hk => ?_
  obtain ⟨t, rfl⟩ := intItems_at hv
  obtain ⟨h1, h2⟩ := argBest_lt (numAt ys) (ys.size - 1)
  refine ⟨.int _, H, I.kept (t' := tk) hk, ⟨t, rfl⟩, q _ ?_ fun a ha => ?_⟩
  · rw [hns, numAt_eq]; exact getD_mem (by rw [List.length_map, Array.length_toList]; omega)
  · rw [hns] at ha
    obtain ⟨j, hj, rfl⟩ := mem_getD ha
    rw [List.length_map, Array.length_toList] at hj
    rw [← numAt_eq]; exact h2 j (by omega)
def rIndex (K : PySem.W.Frag) : V → List V → Hp → VK → Prop := fun x vs H Q => ∃ (l : Addr) (ns : List Int) (k : Int), x = .ref l ∧ vs = [.int k] ∧ SqL K H l (ns.map V.int) ∧ k ∈ ns ∧ Q (.int (ns.idxOf k : Nat)) H
theorem mt_index : MtM X "list.index" (rIndex X.K) := by
  intro pins s σ H x vs v us Q I rx rv h
  obtain ⟨l, ns, k, rfl, rfl, hq, hk, q⟩ := h
  cases rx
  obtain ⟨u, rfl, t, rfl⟩ := rv.one
  obtain ⟨its, rv', pl, hz⟩ := I.list hq
  have hi : IntsAre its ns := intsAre_of rv'
  have hlen := hi.length
  obtain ⟨⟨cls, dd, data, sl⟩, ho, hc, n, hd⟩ := pl.isList
  simp only at hc hd
  subst hc hd
  have hj : ns.idxOf k < ns.length := List.idxOf_lt_length_iff.mpr hk
  have hs : sizeLine = 16777216 := sizeLine_eq
  rw [List.length_map] at hz
  refine call_meets PySem.F.slot_list_index ⟨_, ho, rfl⟩ PySem.F.entry_list_index (PySem.F.args_list_index_2 _ _)
    (SeqAt.list_indexAt l its.toArray n dd sl (.int k t) (PyProof.Rows.isInt k) (ns.idxOf k) (by simpa [hlen] using hj) (by omega) ?_ ?_) ⟨ho, fun y hy => (eq_isInt k t hi y (by simpa using hy)).at _ _, ⟨.int _, H, I.tok _, ⟨_, rfl⟩, q⟩⟩
  · show PyProof.Rows.isInt k its[ns.idxOf k] = true
    rw [isInt_at k hi _ (by omega) hj]
    simpa using List.getElem_idxOf hj
  · intro j hjs hlt
    show PyProof.Rows.isInt k its[j] = false
    rw [isInt_at k hi j (by simpa using hjs) (by omega)]
    exact ne_of_lt_idxOf hlt _
theorem firstMet_nodup (ns : List Int) (hn : ns.Nodup) : ∀ i, i ≤ ns.length → firstMet (fun i => ns.getD i 0) i = ns.take i
  | 0, _ => by simp [firstMet_zero]
  | i + 1, h => by
    have hi : i < ns.length := h
    rw [firstMet_succ, firstMet_nodup ns hn i (by omega), List.take_succ]
    have e : ns.getD i 0 = ns[i] := by simp [hi]
    rw [e]
    have e2 : ns[i]? = some ns[i] := by simp [hi]
    rw [e2]
    unfold step_dedup
    rw [if_neg]
    · rfl
    · intro z
      rw [List.any_eq_true] at z
      obtain ⟨x, hx, hx2⟩ := z
      have : x = ns[i] := by simpa using hx2
      subst this
      obtain ⟨j, hj, hj2⟩ := List.mem_take_iff_getElem.mp hx
      have hjl : j < ns.length := by omega
      have hp := List.pairwise_iff_getElem.mp hn j i hjl hi (by omega)
      exact hp hj2
def rSet (K : PySem.W.Frag) : List V → Hp → VK → Prop := fun xs H Q => ∃ (p : Addr) (ns : List Int), xs = [.ref p] ∧ SqL K H p (ns.map V.int) ∧ ns.length < 1000 ∧ ∀ (l : Addr) (S : Int → Bool) (n : Nat), H l = none → n ≤ ns.length → (ns.Nodup → n = ns.length) → Q (.ref l) (upd H l (.set S n))
theorem call_set (hc : X.calm = true) : CallR X (.type "set") (rSet X.K) := by
  intro pins s σ H xs us Q I r h
  obtain ⟨p, ns, rfl, hq, hln, q⟩ := h
  obtain ⟨u, rfl, ru⟩ := vals1 r
  cases ru
  obtain ⟨its, rv, pl, hz⟩ := I.list hq
  have hi : IntsAre its ns := intsAre_of rv
  have hlen := hi.length
  refine call_set_list (items := its.toArray) (ns := ns) (I.ok.hd hc) pl.isList (by simpa using hi) (by unfold scanBound; rw [List.size_toArray]; omega) fun h' tk hS hk => ?_
  refine ⟨.ref s.heap.objs.size, _, I.laid (t' := tk) (o := .set _ _) (fun b o e => hk b o (Heap.lt_size e) e) (Nat.le_refl _) hS, rfl, q _ _ _ (I.hok.fresh (Nat.le_refl _)) ?_ fun hn => ?_⟩
  · have := firstMet_length_le (fun i => ns.getD i 0) its.toArray.size
    rw [List.size_toArray] at this ⊢
    omega
  · rw [List.size_toArray, hlen, firstMet_nodup ns hn _ (Nat.le_refl _), List.take_length]
theorem call_lenS : CallR X (.builtin "len") (fun xs H Q => ∃ a S n, xs = [V.ref a] ∧ H a = some (.set S n) ∧ n < 1000 ∧ Q (.int n) H) := by
  intro pins s σ H xs us Q I r h
  obtain ⟨a, S, n, rfl, ha, hn, q⟩ := h
  obtain ⟨u, rfl, ru⟩ := vals1 r
  cases ru
  have hS : s.heap.SetOf (intKind X.prog X.w) a S n := I.hok a _ ha
  obtain ⟨o, ho, hso⟩ := hS.objOf
  obtain ⟨hex, es, ep, t, hd, _, _, hn', hf⟩ := hso
  subst hn'
  exact call_len_set ho hex hd hf (by omega) ⟨.int es.size, H, I.tok _, ⟨_, rfl⟩, q⟩
def rListD : List V → Hp → VK → Prop := fun xs H Q => ∃ (p : Addr) (kvs : List (Key × V)), xs = [.ref p] ∧ H p = some (.dK kvs) ∧ ∀ l, H l = none → Q (.ref l) (upd H l (.lst (kvs.map fun kv => kV kv.1)))
theorem call_listD (hc : X.calm = true) : CallR X (.type "list") rListD := by
  intro pins s σ H xs us Q I r h
  obtain ⟨p, kvs, rfl, ha, q⟩ := h
  obtain ⟨u, rfl, ru⟩ := vals1 r
  cases ru
  obtain ⟨hz, lo, vs, kv, hD⟩ := dk_of I.hok ha
  obtain ⟨ep, hat⟩ := hD.dictAt
  have hlen : kvs.length = vs.length := kv.length
  refine PySem.W.kdl_call (PySem.W.kdl_dict (knd := mixKind X.prog X.w) (kvs := vs) (ep := ep) lo) (I.ok.hd hc) hat (by omega) fun h' tk acc' c' hk hS hacc => ?_
  refine ⟨.ref s.heap.objs.size, _, I.laid (t' := tk) (o := .lst (kvs.map fun kv => kV kv.1)) hk (Nat.le_refl _) ⟨by rw [List.length_map]; exact hz, acc'.toList, c', ?_, by simpa using hS⟩, rfl, q _ (I.hok.fresh (Nat.le_refl _))⟩
  refine vals_get (by rw [List.length_map, Array.length_toList]; exact hlen.trans hacc.1.symm) fun j x u h1 h2 => ?_
  obtain ⟨k, y, h3, h4⟩ := hacc.2 j u (by rw [← Array.getElem?_toList]; exact h2)
  have h5 := (L2.Paired.get2 kv h3)
  obtain ⟨⟨k', y'⟩, h6, h7, _⟩ := h5
  rw [List.getElem?_map, h6] at h1
  cases h1
  have e : k' = k := h7
  subst e
  exact kV_rel h4
abbrev CStep (n : Nat) (Pv : Nat → List V → St → Hp → Prop) (i : Nat) (σ : St) (H5 : Hp) : Prop := ∃ m', m' < n - i ∧ m' = n - (i + 1) ∧ i + 1 ≤ n ∧ ∃ acc, Pv (i + 1) acc σ H5
theorem cstep {n : Nat} {Pv : Nat → List V → St → Hp → Prop} {i : Nat} {σ : St} {H5 : Hp} {acc : List V} (hi : i < n) (h3 : Pv (i + 1) acc σ H5) : CStep n Pv i σ H5 := ⟨n - (i + 1), by omega, rfl, hi, acc, h3⟩
theorem comp_range {lo : Int} {n : Nat} {D : Addr} {ni : Nat} {te : TE} {Q : VK} {σ : St} {H : Hp} (Pv : Nat → List V → St → Hp → Prop) (h0 : Pv 0 [] σ H)
    (hs : ∀ i acc σ H, i < n → Pv i acc σ H → te (σ.set ni (some (.int (lo + i)))) H fun y H5 => CTurn n D Pv i (σ.set ni (some (.int (lo + i)))) y H5) (hd : ∀ acc σ H, Pv n acc σ H → Q (.ref D) H) :
    CompW (Itr lo n) D (gName ni) te Q σ H := by
  refine ⟨fun i m σ H => m = n - i ∧ i ≤ n ∧ ∃ acc, Pv i acc σ H, ⟨n, by simp, Nat.zero_le _, [], h0⟩, ?_⟩
  rintro i m σ H ⟨rfl, hi, acc, p⟩
  by_cases hlt : i < n
  · refine .inr ⟨hlt, fun x H' y => ?_⟩
    obtain ⟨e, y⟩ := y
    subst e y
    exact hs i acc σ _ hlt p
  · have e : i = n := by omega
    subst e
    exact .inl ⟨Nat.le_refl _, hd acc σ H p⟩
theorem compF_range {lo : Int} {n : Nat} {D : Addr} {ni : Nat} {tc : TT} {te : TE} {Q : VK} {σ : St} {H : Hp} (Pv : Nat → List V → St → Hp → Prop) (h0 : Pv 0 [] σ H)
    (hs : ∀ i acc σ H, i < n → Pv i acc σ H → tc (σ.set ni (some (.int (lo + i)))) H fun ok H4 => if ok = true then te (σ.set ni (some (.int (lo + i)))) H4 fun y H5 => CTurn n D Pv i (σ.set ni (some (.int (lo + i)))) y H5 else CStep n Pv i (σ.set ni (some (.int (lo + i)))) H4) (hd : ∀ acc σ H, Pv n acc σ H → Q (.ref D) H) :
    CompWF (Itr lo n) D (gName ni) tc te Q σ H := by
  refine ⟨fun i m σ H => m = n - i ∧ i ≤ n ∧ ∃ acc, Pv i acc σ H, ⟨n, by simp, Nat.zero_le _, [], h0⟩, ?_⟩
  rintro i m σ H ⟨rfl, hi, acc, p⟩
  by_cases hlt : i < n
  · refine .inr ⟨hlt, fun x H' y => ?_⟩
    obtain ⟨e, y⟩ := y
    subst e y
    exact hs i acc σ _ hlt p
  · have e : i = n := by omega
    subst e
    exact .inl ⟨Nat.le_refl _, hd acc σ H p⟩
theorem comp_listG {K : PySem.W.Frag} {a D : Addr} {xs : List V} {g : TG} {te : TE} {Q : VK} {σ : St} {H : Hp} (Pv : Nat → List V → St → Hp → Prop) (h0 : Pv 0 [] σ H) (hl : ∀ i acc σ H, i ≤ xs.length → Pv i acc σ H → SqL K H a xs)
    (hs : ∀ i x acc σ H, i < xs.length → xs[i]? = some x → Pv i acc σ H → g x σ H fun σ4 H4 => te σ4 H4 fun y H5 => CTurn xs.length D Pv i σ4 y H5) (hd : ∀ acc σ H, Pv xs.length acc σ H → Q (.ref D) H) :
    CompW (Itl K a) D g te Q σ H := by
  refine ⟨fun i m σ H => m = xs.length - i ∧ i ≤ xs.length ∧ ∃ acc, Pv i acc σ H, ⟨xs.length, by simp, Nat.zero_le _, [], h0⟩, ?_⟩
  rintro i m σ H ⟨rfl, hi, acc, p⟩
  have q := hl i acc σ H hi p
  by_cases hlt : i < xs.length
  · refine .inr ⟨⟨xs, xs[i], q, by simp [hlt]⟩, fun x H' y => ?_⟩
    obtain ⟨e, y⟩ := y
    subst e
    exact hs i x acc σ _ hlt (y xs q) p
  · have e : i = xs.length := by omega
    subst e
    exact .inl ⟨⟨xs, q, Nat.le_refl _⟩, hd acc σ H p⟩
end
/-! ### sum, list(range), max and min of a tuple, sorted of a dict, == of lists of lists, [.. for .. in a list if ..] -/
section
variable {X : Cx}
theorem preSum_sum (f : Nat → Int) (ns : List Int) (h : ∀ j, j < ns.length → f j = ns.getD j 0) : ∀ n, n ≤ ns.length → preSum f n = (ns.take n).sum
  | 0, _ => by simp [preSum]
  | n + 1, hn => by
    show preSum f n + f n = _
    rw [preSum_sum f ns h n (by omega), h n hn, List.take_succ]
    have e : ns[n]? = some (ns.getD n 0) := by simp [show n < ns.length from hn]
    rw [e, List.sum_append]
    simp
theorem take_sum_le : ∀ (ns : List Int) (b : Int), (∀ n ∈ ns, 0 ≤ n ∧ n ≤ b) → 0 ≤ b → ∀ j, 0 ≤ (ns.take j).sum ∧ (ns.take j).sum ≤ ns.length * b
  | [], b, _, hb, j => by simp
  | n :: ns, b, h, hb, 0 => by
    simp
    exact Int.mul_nonneg (by omega) hb
  | n :: ns, b, h, hb, j + 1 => by
    have ih := take_sum_le ns b (fun m hm => h m (List.mem_cons_of_mem _ hm)) hb j
    have hn := h n List.mem_cons_self
    rw [List.take_succ_cons, List.sum_cons, List.length_cons]
    have : ((ns.length + 1 : Nat) : Int) * b = ns.length * b + b := by rw [Int.natCast_add, Int.add_mul]; simp
    rw [this]
    omega
def rSum (K : PySem.W.Frag) : List V → Hp → VK → Prop := fun xs H Q => ∃ (p : Addr) (ns : List Int), xs = [.ref p] ∧ SqL K H p (ns.map V.int) ∧ ns.length ≤ 1000 ∧ (∀ n ∈ ns, 0 ≤ n ∧ n ≤ 1000) ∧ Q (.int ns.sum) H
theorem call_sum (hc : X.calm = true) : CallR X (.builtin "sum") (rSum X.K) := by
  intro pins s σ H xs us Q I r h
  obtain ⟨p, ns, rfl, hq, hln, hb, q⟩ := h
  obtain ⟨u, rfl, ru⟩ := vals1 r
  cases ru
  obtain ⟨its, rv, pl, hz⟩ := I.list hq
  have hi : IntsAre its ns := intsAre_of rv
  obtain ⟨ys, e⟩ := hi.allInts.items
  have hns : ns = ys.toList.map (·.1) := by
    rw [← hi.numsOf, ← nums_intItems, ← e]
  have hsz : ys.size = ns.length := by rw [hns, List.length_map, Array.length_toList]
  have hl := pl.isList
  rw [e] at hl
  have hat : ∀ j, j < ns.length → numAt ys j = ns.getD j 0 := fun j hj => by
    rw [numAt_eq, hns]
  have hps : ∀ n, n ≤ ns.length → preSum (numAt ys) n = (ns.take n).sum := preSum_sum _ _ hat
  have hsum := take_sum_le ns 1000 hb (by decide)
  have hbig : (ns.length : Int) * 1000 ≤ 1000000 := by omega
  refine sum_intList (I.ok.hd hc) hl (fun j hj => ⟨?_, ?_⟩) fun h' tk t' hk => ?_
  · have hj' : j < ns.length := by omega
    rw [hat j hj']
    have := hb (ns.getD j 0) (by simp [hj'])
    exact ⟨by omega, by omega⟩
  · rw [hps (j + 1) (by omega)]
    have := hsum (j + 1)
    exact ⟨by omega, by omega⟩
  · refine ⟨.int _, H, I.kept (t' := tk) hk, ⟨t', rfl⟩, ?_⟩
    rw [hsz, hps _ (Nat.le_refl _), List.take_length]
    exact q
theorem call_rangeO : CallR X (.type "range") (fun xs H Q => ∃ n : Nat, xs = [.int (n : Int)] ∧ ∀ r, H r = none → Q (.ref r) (upd H r (.rng 0 n))) := by
  intro pins s σ H xs us Q I r h
  obtain ⟨n, rfl, q⟩ := h
  obtain ⟨u, rfl, t, rfl⟩ := vals1 r
  refine call_range_1 ⟨.ref s.heap.objs.size, _, I.laid (t' := s.toks + 1 + 1) (o := .rng 0 n) (fun b o e => Heap.get?_push_of_some _ e) (Nat.le_refl _) ?_, rfl, q _ (I.hok.fresh (Nat.le_refl _))⟩
  exact ⟨_, _, _, Heap.get?_push_size _ rfl⟩
theorem call_listR (hc : X.calm = true) : CallR X (.type "list") (fun xs H Q => ∃ (p : Addr) (n : Nat), xs = [.ref p] ∧ H p = some (.rng 0 n) ∧ n ≤ 1000 ∧ ∀ l, H l = none → Q (.ref l) (upd H l (.lst ((List.range n).map fun k : Nat => V.int (k : Int))))) := by
  intro pins s σ H xs us Q I r h
  obtain ⟨p, n, rfl, ha, hn, q⟩ := h
  obtain ⟨u, rfl, ru⟩ := vals1 r
  cases ru
  obtain ⟨t, u, v, e⟩ := I.hok p _ ha
  have hrs : Builtin.Range.rangeSize 0 (n : Int) 1 = n := by rw [rangeSize_one]; split <;> omega
  refine call_list_range (I.ok.hd hc) e (small_one (by omega) (by omega) (by omega) (by omega)) hrs (by omega) fun h' tk acc' c' hk hS hacc => ?_
  have hs : sizeLine = 16777216 := sizeLine_eq
  refine ⟨.ref s.heap.objs.size, _, I.laid (t' := tk) (o := .lst ((List.range n).map fun k : Nat => V.int (k : Int))) hk (Nat.le_refl _) ⟨by rw [List.length_map, List.length_range]; omega, acc'.toList, c', ?_, by simpa using hS⟩, rfl, q _ (I.hok.fresh (Nat.le_refl _))⟩
  refine vals_get (by rw [List.length_map, List.length_range, Array.length_toList]; exact hacc.1.symm) fun j x u h1 h2 => ?_
  obtain ⟨t2, rfl⟩ := hacc.2 j u (by rw [← Array.getElem?_toList]; exact h2)
  have hj : j < n := by
    have := (List.getElem?_eq_some_iff.mp h1).1
    simpa using this
  rw [List.getElem?_map, List.getElem?_range hj] at h1
  cases h1
  exact ⟨t2, by congr 1; omega⟩
theorem iter_intTup {prog : Program} {w : World} {A : Around} {E : Value → Shared → Prop} {s : Shared} {l : Addr} {xs : Array (Int × Tok)} {Q : Value → Shared → Prop} (hl : s.heap.IsTuple l (intItems xs))
    (h : ∀ s₂ : Shared, s₂ = { s with heap := s.heap.push { cls := .type "tuple_iterator", data := .fields #[.ref l, .int 0 0] } } →
      (s₂.heap.IsTupleIter s.heap.objs.size l 0 ∧ s₂.heap.IsTuple l (intItems xs)) → (∀ b ∈ [s.heap.objs.size, l], b < s₂.heap.objs.size) → l ≠ s.heap.objs.size → Q (.ref s.heap.objs.size) s₂) :
    wpAny (model prog w) A (pyIter (.ref l)) Q E s := by
  have hlt : l < s.heap.objs.size := by obtain ⟨_, e, _⟩ := hl; exact Heap.lt_size e
  refine wpAny_pyIter_tuple hl (h _ rfl ⟨⟨_, Heap.get?_push_size _ rfl, rfl, rfl⟩, hl.push _⟩ (fun b hb => ?_) (Nat.ne_of_lt hlt))
  show b < (s.heap.push _).objs.size
  rw [Heap.size_push]
  rcases List.mem_cons.mp hb with rfl | hb
  · exact Nat.lt_succ_self _
  · rcases List.mem_cons.mp hb with rfl | hb
    · exact Nat.lt_succ_of_lt hlt
    · cases hb
theorem tup_kept {s : Shared} {l : Addr} {h' : Heap} (hk : ∀ b o, b ∉ [s.heap.objs.size] → (s.heap.push { cls := .type "tuple_iterator", data := .fields #[.ref l, .int 0 0] }).get? b = some o → h'.get? b = some o) :
    ∀ b o, s.heap.get? b = some o → h'.get? b = some o := fun b o e => by
  refine hk b o (fun hm => ?_) (Heap.get?_push_of_some _ e)
  rcases List.mem_cons.mp hm with e1 | hm
  · exact absurd (e1 ▸ Heap.lt_size e) (Nat.lt_irrefl _)
  · cases hm
theorem call_maxT (hc : X.calm = true) : CallR X (.builtin "max") (fun xs H Q => ∃ (p : Addr) (ns : List Int), xs = [.ref p] ∧ SqT X.K H p (ns.map V.int) ∧ ns ≠ [] ∧ ∀ m : Int, m ∈ ns → (∀ a ∈ ns, a ≤ m) → Q (.int m) H) := by
  intro pins s σ H xs us Q I r h
  obtain ⟨p, ns, rfl, hq, hne, q⟩ := h
  obtain ⟨u, rfl, ru⟩ := vals1 r
  cases ru
  obtain ⟨its, rv, pl, hz⟩ := I.tuple hq
  have hi : IntsAre its ns := intsAre_of rv
  obtain ⟨ys, e⟩ := hi.allInts.items
  have hns : ns = ys.toList.map (·.1) := by rw [← hi.numsOf, ← nums_intItems, ← e]
  have hsz : 0 < ys.size := by
    have h3 : 0 < ns.length := List.length_pos_iff.mpr hne
    rw [hns, List.length_map, Array.length_toList] at h3; exact h3
  have hl : s.heap.IsTuple p its.toArray := pl
  rw [e] at hl
  refine call_max_walk (iter_intTup hl fun s₂ e2 st hfp hlI => ?_)
  subst e2
  refine ⟨_, _, _, _, _, _, _, rfl, Walks.tuple (A := X.A.in1) (I.ok.hd hc) _ p hlI (intItems ys), st, hfp, by simpa [intItems] using hsz, CmpOf.ints_gt (numAt ys) (fun _ _ => intItems_at), fun v h' tk hP hk => ?_⟩
  have hv : (intItems ys)[argBest (fun i j => decide (numAt ys i > numAt ys j)) (ys.size - 1)]? = some v := by simpa [intItems] using hP
  obtain ⟨t, rfl⟩ := intItems_at hv
  obtain ⟨h1, h2⟩ := argBest_gt (numAt ys) (ys.size - 1)
  refine ⟨.int _, H, I.kept (t' := tk) (tup_kept hk), ⟨t, rfl⟩, q _ ?_ fun a ha => ?_⟩
  · rw [hns, numAt_eq]; exact getD_mem (by rw [List.length_map, Array.length_toList]; omega)
  · rw [hns] at ha
    obtain ⟨j, hj, rfl⟩ := mem_getD ha
    rw [List.length_map, Array.length_toList] at hj
    rw [← numAt_eq]; exact h2 j (by omega)
theorem call_minT (hc : X.calm = true) : CallR X (.builtin "min") (fun xs H Q => ∃ (p : Addr) (ns : List Int), xs = [.ref p] ∧ SqT X.K H p (ns.map V.int) ∧ ns ≠ [] ∧ ∀ m : Int, m ∈ ns → (∀ a ∈ ns, m ≤ a) → Q (.int m) H) := by
  intro pins s σ H xs us Q I r h
  obtain ⟨p, ns, rfl, hq, hne, q⟩ := h
  obtain ⟨u, rfl, ru⟩ := vals1 r
  cases ru
  obtain ⟨its, rv, pl, hz⟩ := I.tuple hq
  have hi : IntsAre its ns := intsAre_of rv
  obtain ⟨ys, e⟩ := hi.allInts.items
  have hns : ns = ys.toList.map (·.1) := by rw [← hi.numsOf, ← nums_intItems, ← e]
  have hsz : 0 < ys.size := by
    have h3 : 0 < ns.length := List.length_pos_iff.mpr hne
    rw [hns, List.length_map, Array.length_toList] at h3; exact h3
  have hl : s.heap.IsTuple p its.toArray := pl
  rw [e] at hl
  refine call_min_walk (iter_intTup hl fun s₂ e2 st hfp hlI => ?_)
  subst e2
  refine ⟨_, _, _, _, _, _, _, rfl, Walks.tuple (A := X.A.in1) (I.ok.hd hc) _ p hlI (intItems ys), st, hfp, by simpa [intItems] using hsz, CmpOf.ints_lt (numAt ys) (fun _ _ => intItems_at), fun v h' tk hP hk => ?_⟩
  have hv : (intItems ys)[argBest (fun i j => decide (numAt ys i < numAt ys j)) (ys.size - 1)]? = some v := by simpa [intItems] using hP
  obtain ⟨t, rfl⟩ := intItems_at hv
  obtain ⟨h1, h2⟩ := argBest_lt (numAt ys) (ys.size - 1)
  refine ⟨.int _, H, I.kept (t' := tk) (tup_kept hk), ⟨t, rfl⟩, q _ ?_ fun a ha => ?_⟩
  · rw [hns, numAt_eq]; exact getD_mem (by rw [List.length_map, Array.length_toList]; omega)
  · rw [hns] at ha
    obtain ⟨j, hj, rfl⟩ := mem_getD ha
    rw [List.length_map, Array.length_toList] at hj
    rw [← numAt_eq]; exact h2 j (by omega)
/-- what is walked is taken into a new list, which lies behind all that was there -/
theorem gather {prog : Program} {w : World} {A : Around} {E : Value → Shared → Prop} {s : Shared} {T : String} {r d : Addr} {n : Nat} {Pj : Nat → Value → Prop} {OK : Heap → Prop} {R : List Value → Shared → Prop} (src : PySem.W.KdlSrc prog w T r d n Pj OK) (calm : A.handled = none) (there : OK s.heap) (fits : n ≤ sizeLine)
    (k : ∀ (g : Heap) (tk : Nat) (acc : Array Value), (∀ b o, s.heap.get? b = some o → g.get? b = some o) → s.heap.objs.size < g.objs.size → ItemsOf Pj acc n → R acc.toList { s with heap := g, toks := tk }) : wpAny (model prog w) A (collect (.ref r)) R E s := by
  have lt := src.there _ there
  unfold collect
  refine wpAny_bind (wpAny_runValue (codeAny_builtin entry_proto_collect' ?_)); rw [Around.under_plainId PySem.F.plain_proto_collect _]
  show wpAny _ A.in1 (newList [] >>= fun l => again (.builtin "list.__iadd__" ⟨[l, .ref r], []⟩)) _ _ s; refine wpAny_bind (wpAny_newObj_type ?_)
  refine wpAny_pure ⟨plainId_quiet PySem.F.plain_list_iadd _, codeAny_builtin entry_list_iadd' ?_⟩; rw [Around.under_plainId PySem.F.plain_list_iadd _]
  have laid : (s.heap.push { cls := .type "list", data := .seq ([] : List Value).toArray }).get? s.heap.objs.size = some { cls := .type "list", data := .seq #[] } := Heap.get?_push_size _ rfl
  show wpAny _ A.in1 (Builtin.List.listExtendWith (.ref s.heap.objs.size) (.ref r) (.ref s.heap.objs.size)) _ _ { s with heap := s.heap.push { cls := .type "list", data := .seq ([] : List Value).toArray } }
  have done : ∀ (g : Heap) (tk : Nat) (acc : Array Value) (c : Nat), (∀ b o, s.heap.get? b = some o → g.get? b = some o) → g.get? s.heap.objs.size = some { cls := .type "list", dict := none, data := .seq acc c, slots := #[] } → ItemsOf Pj acc n → R acc.toList { s with heap := g, toks := tk } := fun g tk acc c hk hS ha => k g tk acc hk (Heap.lt_size hS) ha
  have run := PySem.W.kdl_extend (A := A) (s := { s with heap := s.heap.push { cls := .type "list", data := .seq ([] : List Value).toArray } }) (R := fun (q : Result) (s' : Shared) => ∃ (g : Heap) (tk : Nat) (acc : Array Value) (c : Nat), q = .ok (.ret (.ref s.heap.objs.size)) ∧ s' = { s with heap := g, toks := tk } ∧ (∀ b o, s.heap.get? b = some o → g.get? b = some o) ∧ g.get? s.heap.objs.size = some { cls := .type "list", dict := none, data := .seq acc c, slots := #[] } ∧ ItemsOf Pj acc n)
    src calm (src.keep _ _ there fun b _ o e => Heap.get?_push_of_some _ e) s.heap.objs.size (Nat.ne_of_gt lt.1) (Nat.ne_of_gt lt.2) (.ref s.heap.objs.size) 0 laid (fun g tk acc c hk hS ha => ⟨g, tk, acc, c, rfl, rfl, fun b o e => hk b o (Nat.ne_of_lt (Heap.lt_size e)) (Heap.get?_push_of_some _ e), hS, ha⟩) fits
  refine wpAny_mono run (fun fin s' got => ?_) fun e s' got => by obtain ⟨_, _, _, _, bad, _⟩ := got; cases bad
  cases fin with
  | done f => obtain ⟨g, tk, acc, c, e, rfl, hk, hS, ha⟩ := got; cases e; show wpAny _ A (load s.heap.objs.size >>= _) _ _ _; exact wpAny_bind (wpAny_load hS (wpAny_pure (done g tk acc c hk hS ha)))
  | again c1 => exact ⟨got.1, codeAny_mono got.2 fun q s2 y => by obtain ⟨g, tk, acc, c, rfl, rfl, hk, hS, ha⟩ := y; show wpAny _ A (load s.heap.objs.size >>= _) _ _ _; exact wpAny_bind (wpAny_load hS (wpAny_pure (done g tk acc c hk hS ha)))⟩
theorem call_sortedD (hc : X.calm = true) : CallR X (.builtin "sorted") (fun xs H Q => ∃ (p : Addr) (kvs : List (Key × V)) (ns : List Int), xs = [.ref p] ∧ H p = some (.dK kvs) ∧ (kvs.map fun kv => kV kv.1) = ns.map V.int ∧ ns.length < 64 ∧
    ∀ ms : List Int, ms.Perm ns → ms.Pairwise (· ≤ ·) → ∀ l, H l = none → Q (.ref l) (upd H l (.lst (ms.map V.int)))) := by
  intro pins s σ H xs us Q I r h
  obtain ⟨p, kvs, ns, rfl, ha, hkn, h64, q⟩ := h
  obtain ⟨u, rfl, ru⟩ := vals1 r
  cases ru
  obtain ⟨hz, lo, vs, kv, hD⟩ := dk_of I.hok ha
  obtain ⟨ep, hat⟩ := hD.dictAt
  have hlen : kvs.length = vs.length := kv.length
  refine Calls.call_function_entry kind_sorted plain_sorted entry_sorted (args_sorted1 _) ?_
  unfold Builtin.«sorted»
  refine wpAny_bind (m := checkCount "sorted" 1 1 _) (wpAny_pure ?_)
  refine wpAny_bind (gather (A := X.A.in1) (PySem.W.kdl_dict (knd := mixKind X.prog X.w) (kvs := vs) (ep := ep) lo) (I.ok.hd hc) hat (by omega) fun h' tk acc hk hgt hacc => ?_)
  have hv : Vals (ns.map V.int) acc.toList := by
    rw [← hkn]
    refine vals_get (by rw [List.length_map, Array.length_toList]; exact hlen.trans hacc.1.symm) fun j x u h1 h2 => ?_
    obtain ⟨k, y, h3, h4⟩ := hacc.2 j u (by rw [← Array.getElem?_toList]; exact h2)
    obtain ⟨⟨k', y'⟩, h6, h7, _⟩ := L2.Paired.get2 kv h3
    rw [List.getElem?_map, h6] at h1
    cases h1
    have e : k' = k := h7
    subst e
    exact kV_rel h4
  have hi : IntsAre acc.toList ns := intsAre_of hv
  have hal : acc.toList.length = ns.length := hi.length
  refine wpAny_bind (wpAny_newList ?_ (by have : (64 : Nat) ≤ sizeLine := by decide
                                          omega))
  have hoL : (h'.push (seqObj "list" acc.toList.toArray 0)).get? h'.objs.size = some (seqObj "list" acc.toList.toArray 0) := Heap.get?_push_size _ rfl
  refine wpAny_bind (wpAny_holding (wpAny_call_entry slot_list_sort ⟨_, hoL, rfl⟩ entry_list_sort (list_sort_tree hoL hi (by omega) fun out ms a1 a2 a3 => ⟨_, rfl, ?_⟩) (args_list_sort _)))
  refine wpAny_pure ⟨_, rfl, ?_⟩
  obtain ⟨e, he⟩ := sortedHeap_at (vs := acc.toList) (out := out) hoL
  have hsz : h'.objs.size < (h'.push (seqObj "list" acc.toList.toArray 0)).objs.size := by rw [Heap.size_push]; exact Nat.lt_succ_self _
  have keep : ∀ b o, s.heap.get? b = some o → (sortedHeap (h'.push (seqObj "list" acc.toList.toArray 0)) h'.objs.size acc.toList out).get? b = some o := fun b o eb => by
    have e1 := hk b o eb
    have hlt := Heap.lt_size e1
    rw [sortedHeap_old (Nat.ne_of_lt hlt) (Nat.lt_trans hlt hsz)]
    exact Heap.get?_push_of_some _ e1
  have hge : s.heap.objs.size ≤ h'.objs.size := Nat.le_of_lt hgt
  refine ⟨.ref h'.objs.size, _, I.laid (t' := tk) (o := .lst (ms.map V.int)) keep hge ⟨?_, out.toList, e, valsOfInts a1, by simpa using he⟩, rfl, q ms a2 a3 _ (I.hok.fresh hge)⟩
  rw [List.length_map, a2.length_eq]
  have : (64 : Nat) ≤ sizeLine := by decide
  omega
/-- lists of lists of flat things -/
def DenL (K : PySem.W.Frag) (H : Hp) (v : V) (l : List V) : Prop := ∃ a, v = .ref a ∧ SqL K H a l ∧ l.all flatV = true
def eqLs : List (List V) → List (List V) → Bool
  | [], [] => true
  | x :: l, y :: m => eqVs x y && eqLs l m
  | _, _ => false
theorem eqLs_range : ∀ (l m : List (List V)) (e : Nat → Bool), (∀ j (h1 : j < l.length) (h2 : j < m.length), e j = eqVs l[j] m[j]) →
    ((List.range (min l.length m.length)).all e && l.length == m.length) = eqLs l m
  | [], [], e, _ => rfl
  | [], _ :: _, e, _ => by simp [eqLs]
  | _ :: _, [], e, _ => by simp [eqLs]
  | x :: l, y :: m, e, h => by
    have ih := eqLs_range l m (fun j => e (j + 1)) fun j h1 h2 => h (j + 1) (by simpa using h1) (by simpa using h2)
    have h0 := h 0 (by simp) (by simp)
    rw [List.length_cons, List.length_cons, Nat.add_min_add_right, all_range_succ, h0]
    show (eqVs x y && _ && (l.length + 1 == m.length + 1)) = (eqVs x y && eqLs l m)
    rw [← ih, Bool.and_assoc]
    congr 2
    rw [Bool.eq_iff_iff]
    simp
theorem eqAt_lst {pins : List (Addr × Obj)} {σ : St} {H : Hp} {s : Shared} {A : Around} {a b : Addr} {l m : List V} (I : Inv X pins σ H s) (ha : SqL X.K H a l) (hb : SqL X.K H b m) (fl : l.all flatV = true) (fm : m.all flatV = true) (hu : A.units < cLine) : SeqAt.EqAt A s (.ref a) (.ref b) (eqVs l m) := by
  by_cases hab : a = b
  · subst hab
    rw [I.list_inj hb ha, eqVs_refl fl]
    exact SeqAt.EqAt.same _
  · obtain ⟨its, r1, p1, _⟩ := I.list ha
    obtain ⟨its2, r2, p2, _⟩ := I.list hb
    have h1 := r1.length
    have h2 := r2.length
    have hit : ∀ j (g1 : j < its.toArray.size) (g2 : j < its2.toArray.size), SeqAt.EqAt A.in1 s its.toArray[j] its2.toArray[j] ((fun j => eqV (l.getD j .non) (m.getD j .non)) j) := fun j g1 g2 => by
      have g1' : j < l.length := by rw [h1]; simpa using g1
      have g2' : j < m.length := by rw [h2]; simpa using g2
      have e1 : l.getD j .non = l[j] := by simp [g1']
      have e2 : m.getD j .non = m[j] := by simp [g2']
      show SeqAt.EqAt _ _ _ _ (eqV (l.getD j .non) (m.getD j .non))
      rw [e1, e2]
      have w1 := Paired.at r1 j g1' (by simpa using g1)
      have w2 := Paired.at r2 j g2' (by simpa using g2)
      exact eqAt_V (by simpa using w1) (by simpa using w2) (List.all_eq_true.mp fl _ (List.getElem_mem g1')) (List.all_eq_true.mp fm _ (List.getElem_mem g2'))
    have e3 : ((List.range (min its.toArray.size its2.toArray.size)).all (fun j => eqV (l.getD j .non) (m.getD j .non)) && its.toArray.size == its2.toArray.size) = eqVs l m := by
      rw [List.size_toArray, List.size_toArray, ← h1, ← h2]
      exact eqVs_range l m _ fun j g1 g2 => by simp [g1, g2]
    by_cases hz : its.toArray.size = its2.toArray.size
    · have key := SeqAt.RcAt.lists (A := A) (s := s) p1.isList p2.isList hz hu hit
      rw [← hz, Nat.min_self, beq_self_eq_true, Bool.and_true] at e3
      rw [e3] at key
      exact SeqAt.EqAt.of_refs hab key
    · have key := SeqAt.RcAt.lists_lengths (A := A) (s := s) p1.isList p2.isList (by simpa using hz) hu
      have hb' : (its.toArray.size == its2.toArray.size) = false := by simpa using hz
      rw [hb', Bool.and_false] at e3
      rw [← e3]
      exact SeqAt.EqAt.of_refs hab key
def rEq3 (K : PySem.W.Frag) (neg : Bool) : R2 := fun x y H Q => ∃ a b xs ys fs gs, x = .ref a ∧ y = .ref b ∧ SqL K H a xs ∧ SqL K H b ys ∧ Paired (DenL K H) xs fs ∧ Paired (DenL K H) ys gs ∧ Q (.bl (if neg then !eqLs fs gs else eqLs fs gs)) H
theorem eq_itemsL {pins : List (Addr × Obj)} {σ : St} {H : Hp} {s : Shared} {A : Around} {xs ys : List V} {fs gs : List (List V)} {its its2 : List Value} (I : Inv X pins σ H s) (r1 : Vals xs its) (r2 : Vals ys its2) (d1 : Paired (DenL X.K H) xs fs) (d2 : Paired (DenL X.K H) ys gs) (hu : A.units < cLine) :
    ∃ e : Nat → Bool, (∀ j (h1 : j < its.toArray.size) (h2 : j < its2.toArray.size), SeqAt.EqAt A s its.toArray[j] its2.toArray[j] (e j)) ∧
      ((List.range (min its.toArray.size its2.toArray.size)).all e && its.toArray.size == its2.toArray.size) = eqLs fs gs := by
  have h1 := r1.length
  have h2 := r2.length
  have k1 := Paired.length d1
  have k2 := Paired.length d2
  refine ⟨fun j => eqVs (fs.getD j []) (gs.getD j []), fun j g1 g2 => ?_, ?_⟩
  · have g1' : j < xs.length := by rw [h1]; simpa using g1
    have g2' : j < ys.length := by rw [h2]; simpa using g2
    have e1 : fs.getD j [] = fs[j]'(by omega) := by simp [show j < fs.length by omega]
    have e2 : gs.getD j [] = gs[j]'(by omega) := by simp [show j < gs.length by omega]
    show SeqAt.EqAt A s its.toArray[j] its2.toArray[j] (eqVs (fs.getD j []) (gs.getD j []))
    rw [e1, e2]
    have w1 := Paired.at r1 j g1' (by simpa using g1)
    have w2 := Paired.at r2 j g2' (by simpa using g2)
    obtain ⟨a, ea, ha, fa⟩ := Paired.at d1 j g1' (by omega)
    obtain ⟨b, eb, hb, fb⟩ := Paired.at d2 j g2' (by omega)
    rw [ea] at w1
    rw [eb] at w2
    have w1' : its.toArray[j] = Value.ref a := by
      have z : its[j]'(by simpa using g1) = Value.ref a := w1
      simpa using z
    have w2' : its2.toArray[j] = Value.ref b := by
      have z : its2[j]'(by simpa using g2) = Value.ref b := w2
      simpa using z
    rw [w1', w2']
    exact eqAt_lst I ha hb fa fb hu
  · rw [List.size_toArray, List.size_toArray, ← h1, ← h2, k1, k2]
    exact eqLs_range fs gs _ fun j g1 g2 => by simp [g1, g2]
theorem op_eq3 (hu : X.A.units + 1 < cLine) : OpR X (compareOp .Eq) (rEq3 X.K false) := by
  intro pins s σ H x y v u Q I rx ry h
  obtain ⟨a, b, xs, ys, fs, gs, rfl, rfl, ha, hb, d1, d2, q⟩ := h
  cases rx
  cases ry
  obtain ⟨its, r1, p1, _⟩ := I.list ha
  obtain ⟨its2, r2, p2, _⟩ := I.list hb
  obtain ⟨e, he, ee⟩ := eq_itemsL (A := X.A.in1) I r1 r2 d1 d2 (by first | exact Nat.lt_of_succ_lt hu | exact hu)
  by_cases hz : its.toArray.size = its2.toArray.size
  · refine SeqAt.eq_listAt p1.isList p2.isList hz (Nat.lt_of_succ_lt hu) he ⟨.bl _, H, I, rfl, ?_⟩
    rw [← hz, Nat.min_self, beq_self_eq_true, Bool.and_true] at ee
    rw [ee]
    exact q
  · refine SeqAt.eq_list_lengthsAt p1.isList p2.isList (by simpa using hz) (Nat.lt_of_succ_lt hu) ⟨.bl _, H, I, rfl, ?_⟩
    have hb' : (its.toArray.size == its2.toArray.size) = false := by simpa using hz
    rw [hb', Bool.and_false] at ee
    rw [ee]
    exact q
theorem op_ne3 (hu : X.A.units + 1 < cLine) : OpR X (compareOp .NotEq) (rEq3 X.K true) := by
  intro pins s σ H x y v u Q I rx ry h
  obtain ⟨a, b, xs, ys, fs, gs, rfl, rfl, ha, hb, d1, d2, q⟩ := h
  cases rx
  cases ry
  obtain ⟨its, r1, p1, _⟩ := I.list ha
  obtain ⟨its2, r2, p2, _⟩ := I.list hb
  obtain ⟨e, he, ee⟩ := eq_itemsL (A := X.A.in1) I r1 r2 d1 d2 (by first | exact Nat.lt_of_succ_lt hu | exact hu)
  by_cases hz : its.toArray.size = its2.toArray.size
  · refine SeqAt.RcNeAt.lists p1.isList p2.isList hz (Nat.lt_of_succ_lt hu) he _ _ _ _ ⟨.bl _, H, I, rfl, ?_⟩
    rw [← hz, Nat.min_self, beq_self_eq_true, Bool.and_true] at ee
    rw [ee]
    exact q
  · refine SeqAt.RcNeAt.lists_lengths p1.isList p2.isList (by simpa using hz) (Nat.lt_of_succ_lt hu) _ _ _ _ ⟨.bl _, H, I, rfl, ?_⟩
    have hb' : (its.toArray.size == its2.toArray.size) = false := by simpa using hz
    rw [hb', Bool.and_false] at ee
    rw [← ee] at q
    exact q
theorem compF_listG {K : PySem.W.Frag} {a D : Addr} {xs : List V} {g : TG} {tc : TT} {te : TE} {Q : VK} {σ : St} {H : Hp} (Pv : Nat → List V → St → Hp → Prop) (h0 : Pv 0 [] σ H) (hl : ∀ i acc σ H, i ≤ xs.length → Pv i acc σ H → SqL K H a xs)
    (hs : ∀ i x acc σ H, i < xs.length → xs[i]? = some x → Pv i acc σ H → g x σ H fun σ4 H4 => tc σ4 H4 fun ok H4' => if ok = true then te σ4 H4' fun y H5 => CTurn xs.length D Pv i σ4 y H5 else CStep xs.length Pv i σ4 H4') (hd : ∀ acc σ H, Pv xs.length acc σ H → Q (.ref D) H) :
    CompWF (Itl K a) D g tc te Q σ H := by
  refine ⟨fun i m σ H => m = xs.length - i ∧ i ≤ xs.length ∧ ∃ acc, Pv i acc σ H, ⟨xs.length, by simp, Nat.zero_le _, [], h0⟩, ?_⟩
  rintro i m σ H ⟨rfl, hi, acc, p⟩
  have q := hl i acc σ H hi p
  by_cases hlt : i < xs.length
  · refine .inr ⟨⟨xs, xs[i], q, by simp [hlt]⟩, fun x H' y => ?_⟩
    obtain ⟨e, y⟩ := y
    subst e
    exact hs i x acc σ _ hlt (y xs q) p
  · have e : i = xs.length := by omega
    subst e
    exact .inl ⟨⟨xs, q, Nat.le_refl _⟩, hd acc σ H p⟩
end
end L2
/-! ### the mathematics of rings and waves -/
namespace G4
abbrev Pr := Nat × Nat
inductive Reach (ps : List Pr) : Nat → Nat → Prop
  | one {u v : Nat} : (u, v) ∈ ps → Reach ps u v
  | step {u v w : Nat} : Reach ps u v → (v, w) ∈ ps → Reach ps u w
def Below (n : Nat) (ps : List Pr) : Prop := ∀ p ∈ ps, p.1 < n ∧ p.2 < n
theorem nodup_len : ∀ (n : Nat) (l : List Nat), l.Nodup → (∀ v ∈ l, v < n) → l.length ≤ n
  | 0, l, _, h => by
    cases l with
    | nil => simp
    | cons a l => exact absurd (h a List.mem_cons_self) (Nat.not_lt_zero a)
  | n + 1, l, hn, h => by
    by_cases hm : n ∈ l
    · have ih := nodup_len n (l.erase n) (hn.erase n) fun v hv => by
        have h1 := h v (List.mem_of_mem_erase hv)
        have h2 : v ≠ n := fun e => by
          subst e
          exact (List.Nodup.not_mem_erase hn) hv
        omega
      rw [List.length_erase_of_mem hm] at ih
      have := List.length_pos_of_mem hm
      omega
    · have ih := nodup_len n l hn fun v hv => by
        have h1 := h v hv
        have h2 : v ≠ n := fun e => hm (e ▸ hv)
        omega
      omega
/-- how many pairs of v lead to what isn't done -/
def cntP (ps : List Pr) (D : List Nat) (v : Nat) : Nat := ps.countP fun p => decide (p.1 = v ∧ p.2 ∉ D)
/-- who leans on m -/
def rdOf (ps : List Pr) (m : Nat) : List Nat := (ps.filter fun p => decide (p.2 = m)).map (·.1)
theorem cntP_zero {ps : List Pr} {D : List Nat} {v : Nat} : cntP ps D v = 0 ↔ ∀ m, (v, m) ∈ ps → m ∈ D := by
  unfold cntP
  rw [List.countP_eq_zero]
  constructor
  · intro h m hm
    have := h (v, m) hm
    simp at this
    exact this
  · intro h p hp hd
    have hd' := of_decide_eq_true hd
    exact hd'.2 (h p.2 (by rw [← hd'.1]; exact hp))
theorem cntP_split {D : List Nat} {m : Nat} (hm : m ∉ D) (v : Nat) : ∀ ps : List Pr, cntP ps D v = cntP ps (D ++ [m]) v + (rdOf ps m).count v
  | [] => rfl
  | p :: ps => by
    have ih := cntP_split hm v ps
    unfold cntP rdOf at ih ⊢
    rw [List.countP_cons, List.countP_cons, List.filter_cons]
    by_cases h1 : p.1 = v
    · by_cases h2 : p.2 = m
      · have e1 : decide (p.1 = v ∧ p.2 ∉ D) = true := decide_eq_true ⟨h1, h2 ▸ hm⟩
        have e2 : decide (p.1 = v ∧ p.2 ∉ D ++ [m]) = false := decide_eq_false (fun z => z.2 (by simp [h2]))
        rw [e1, e2, if_pos (decide_eq_true h2), List.map_cons, List.count_cons, ih]
        simp [h1]
        omega
      · have e2 : decide (p.1 = v ∧ p.2 ∉ D ++ [m]) = decide (p.1 = v ∧ p.2 ∉ D) := by simp [h2]
        have e3 : ¬ decide (p.2 = m) = true := by simpa using h2
        rw [e2, if_neg e3, ih]
        omega
    · have e1 : decide (p.1 = v ∧ p.2 ∉ D) = false := decide_eq_false (fun z => h1 z.1)
      have e2 : decide (p.1 = v ∧ p.2 ∉ D ++ [m]) = false := decide_eq_false (fun z => h1 z.1)
      rw [e1, e2]
      by_cases h2 : p.2 = m
      · rw [if_pos (decide_eq_true h2), List.map_cons, List.count_cons, ih]
        simp [h1]
      · have e3 : ¬ decide (p.2 = m) = true := by simpa using h2
        rw [if_neg e3, ih]
        simp
theorem take_count {l : List Nat} {j r : Nat} (h : l[j]? = some r) (v : Nat) : (l.take (j + 1)).count v = (l.take j).count v + if v = r then 1 else 0 := by
  rw [List.take_succ, h, List.count_append]
  show _ + List.count v [r] = _
  rw [List.count_singleton]
  congr 1
  by_cases e : v = r
  · subst e; simp
  · have e' : ¬ r = v := fun z => e z.symm
    simp [e, e']
theorem take_count_le (l : List Nat) (j v : Nat) : (l.take j).count v ≤ l.count v := (List.take_sublist j l).count_le v
/-- counters that go down, and those that came to nought -/
structure Dec (n : Nat) (L0 L : Nat → Nat) (F : List Nat) : Prop where
  le : ∀ v, L v ≤ L0 v
  nd : F.Nodup
  mem : ∀ v, v ∈ F ↔ v < n ∧ L v = 0 ∧ 0 < L0 v
theorem Dec.start {n : Nat} {L0 : Nat → Nat} : Dec n L0 L0 [] := ⟨fun _ => Nat.le_refl _, List.nodup_nil, fun v => ⟨fun h => (by cases h), fun h => (by omega)⟩⟩
def less (L : Nat → Nat) (r : Nat) : Nat → Nat := fun v => if v = r then L r - 1 else L v
theorem Dec.step0 {n : Nat} {L0 L : Nat → Nat} {F : List Nat} {r : Nat} (d : Dec n L0 L F) (hr : r < n) (h1 : L r = 1) : Dec n L0 (less L r) (F ++ [r]) := by
  refine ⟨fun v => ?_, ?_, fun v => ?_⟩
  · unfold less
    split
    · rename_i e; subst e; have := d.le v; omega
    · exact d.le v
  · rw [List.nodup_append]
    refine ⟨d.nd, by simp, fun a ha b hb => ?_⟩
    rw [List.mem_singleton] at hb
    subst hb
    rintro rfl
    have := ((d.mem a).mp ha).2.1
    omega
  · rw [List.mem_append, List.mem_singleton, d.mem]
    unfold less
    by_cases e : v = r
    · subst e
      have := d.le v
      simp [h1]
      omega
    · simp [e]
theorem Dec.step1 {n : Nat} {L0 L : Nat → Nat} {F : List Nat} {r : Nat} (d : Dec n L0 L F) (h1 : 2 ≤ L r) : Dec n L0 (less L r) F := by
  refine ⟨fun v => ?_, d.nd, fun v => ?_⟩
  · unfold less
    split
    · rename_i e; subst e; have := d.le v; omega
    · exact d.le v
  · rw [d.mem]
    unfold less
    by_cases e : v = r
    · subst e
      simp
      omega
    · simp [e]
/-- the turn of made: its readers go down one by one -/
theorem turn_less {ps : List Pr} {D : List Nat} {m j r : Nat} {L : Nat → Nat} (hm : m ∉ D) (hL : ∀ v, L v + ((rdOf ps m).take j).count v = cntP ps D v) (hj : (rdOf ps m)[j]? = some r) :
    0 < L r ∧ ∀ v, less L r v + ((rdOf ps m).take (j + 1)).count v = cntP ps D v := by
  have h0 : 0 < L r := by
    have h1 := hL r
    have h2 := cntP_split hm r ps
    have h3 := take_count hj r
    have h4 := take_count_le (rdOf ps m) (j + 1) r
    rw [if_pos rfl] at h3
    omega
  refine ⟨h0, fun v => ?_⟩
  have h1 := hL v
  have h3 := take_count hj v
  unfold less
  by_cases e : v = r
  · subst e
    rw [if_pos rfl] at h3 ⊢
    omega
  · rw [if_neg e] at h3 ⊢
    omega
structure WavesOk (ps : List Pr) (n : Nat) (ws : List (List Nat)) : Prop where
  below : ∀ v ∈ ws.flatten, v < n
  nodup : ws.flatten.Nodup
  full : ∀ w ∈ ws, w ≠ []
  rise : ∀ w ∈ ws, w.Pairwise (· < ·)
  lean : ∀ (i : Nat) w, ws[i]? = some w → ∀ v ∈ w, ∀ m, (v, m) ∈ ps → m ∈ (ws.take i).flatten
  last : ∀ (i : Nat) w w', ws[i]? = some w → ws[i + 1]? = some w' → ∀ v ∈ w', ∃ m ∈ w, (v, m) ∈ ps
/-- all that can be done is done -/
def Stuck (ps : List Pr) (n : Nat) (ws : List (List Nat)) : Prop := ∀ v, v < n → v ∉ ws.flatten → ∃ m, (v, m) ∈ ps ∧ m ∉ ws.flatten
structure Kahn (ps : List Pr) (n : Nat) (ws : List (List Nat)) (w : List Nat) : Prop where
  ok : WavesOk ps n ws
  wave : ∀ v, v ∈ w ↔ v < n ∧ v ∉ ws.flatten ∧ cntP ps ws.flatten v = 0
  wrise : w.Pairwise (· < ·)
  wlast : ∀ (i : Nat) u, ws[i]? = some u → i + 1 = ws.length → ∀ v ∈ w, ∃ m ∈ u, (v, m) ∈ ps
theorem Kahn.start {ps : List Pr} {n : Nat} {w : List Nat} (h : w = (List.range n).filter fun v => decide (cntP ps [] v = 0)) : Kahn ps n [] w := by
  subst h
  refine ⟨⟨by simp, by simp, by simp, by simp, by simp, by simp⟩, fun v => ?_, ?_, by simp⟩
  · simp [List.mem_filter]
  · exact List.Pairwise.filter _ List.pairwise_lt_range
theorem Kahn.done {ps : List Pr} {n : Nat} {ws : List (List Nat)} (k : Kahn ps n ws []) : Stuck ps n ws := by
  intro v hv hn
  by_cases h : cntP ps ws.flatten v = 0
  · have := (k.wave v).mpr ⟨hv, hn, h⟩
    cases this
  · refine Classical.byContradiction fun hc => h (cntP_zero.mpr fun m hm => ?_)
    exact Classical.byContradiction fun hmd => hc ⟨m, hm, hmd⟩
theorem Kahn.nd {ps : List Pr} {n : Nat} {ws : List (List Nat)} {w : List Nat} (k : Kahn ps n ws w) : (ws ++ [w]).flatten.Nodup ∧ (∀ v ∈ (ws ++ [w]).flatten, v < n) ∧ w.Nodup := by
  have hw : w.Nodup := k.wrise.imp fun h => Nat.ne_of_lt h
  have e : (ws ++ [w]).flatten = ws.flatten ++ w := by simp
  rw [e]
  refine ⟨List.nodup_append.mpr ⟨k.ok.nodup, hw, fun a ha b hb => ?_⟩, fun v hv => ?_, hw⟩
  · rintro rfl
    exact ((k.wave a).mp hb).2.1 ha
  · rcases List.mem_append.mp hv with h | h
    · exact k.ok.below v h
    · exact ((k.wave v).mp h).1
theorem Kahn.step {ps : List Pr} {n : Nat} {ws : List (List Nat)} {w F ms : List Nat} (hb : Below n ps) (k : Kahn ps n ws w) (hw : w ≠ []) (d : Dec n (cntP ps ws.flatten) (cntP ps (ws ++ [w]).flatten) F)
    (hp : ms.Perm F) (ho : ms.Pairwise (· ≤ ·)) : Kahn ps n (ws ++ [w]) ms := by
  have e : (ws ++ [w]).flatten = ws.flatten ++ w := by simp
  have hnd : ms.Nodup := hp.nodup_iff.mpr d.nd
  have hz : ∀ v ∈ ws.flatten ++ w, cntP ps ws.flatten v = 0 := fun v hv => by
    rcases List.mem_append.mp hv with h | h
    · rw [cntP_zero]
      intro m hm
      obtain ⟨u, hu, hvu⟩ := List.mem_flatten.mp h
      obtain ⟨i, hi, rfl⟩ := List.getElem_of_mem hu
      have := k.ok.lean i ws[i] (by simp [hi]) v hvu m hm
      obtain ⟨t, ht, hmt⟩ := List.mem_flatten.mp this
      exact List.mem_flatten.mpr ⟨t, List.mem_of_mem_take ht, hmt⟩
    · exact ((k.wave v).mp h).2.2
  refine ⟨⟨k.nd.2.1, k.nd.1, fun u hu => ?_, fun u hu => ?_, fun i u hu v hv m hm => ?_, fun i u u' hu hu' v hv => ?_⟩, fun v => ?_, ?_, fun i u hu hi v hv => ?_⟩
  · rcases List.mem_append.mp hu with h | h
    · exact k.ok.full u h
    · rw [List.mem_singleton] at h; subst h; exact hw
  · rcases List.mem_append.mp hu with h | h
    · exact k.ok.rise u h
    · rw [List.mem_singleton] at h; subst h; exact k.wrise
  · by_cases hi : i < ws.length
    · rw [List.getElem?_append_left hi] at hu
      have := k.ok.lean i u hu v hv m hm
      rw [List.take_append_of_le_length (by omega)]
      exact this
    · have hil : i = ws.length := by
        have := (List.getElem?_eq_some_iff.mp hu).1
        simp at this
        omega
      subst hil
      rw [List.getElem?_append_right (Nat.le_refl _)] at hu
      simp at hu
      subst hu
      rw [List.take_append_of_le_length (Nat.le_refl _), List.take_length]
      exact cntP_zero.mp ((k.wave v).mp hv).2.2 m hm
  · by_cases hi : i + 1 < ws.length
    · rw [List.getElem?_append_left hi] at hu'
      rw [List.getElem?_append_left (by omega)] at hu
      exact k.ok.last i u u' hu hu' v hv
    · have hil : i + 1 = ws.length := by
        have := (List.getElem?_eq_some_iff.mp hu').1
        simp at this
        omega
      rw [hil, List.getElem?_append_right (Nat.le_refl _)] at hu'
      simp at hu'
      subst hu'
      rw [List.getElem?_append_left (by omega)] at hu
      exact k.wlast i u hu hil v hv
  · rw [hp.mem_iff, d.mem]
    constructor
    · rintro ⟨h1, h2, h3⟩
      refine ⟨h1, fun hv => ?_, h2⟩
      rw [e] at hv
      have := hz v hv
      omega
    · rintro ⟨h1, h2, h3⟩
      refine ⟨h1, h3, Nat.pos_of_ne_zero fun h0 => h2 ?_⟩
      rw [e] at h2 ⊢
      exact List.mem_append_right _ ((k.wave v).mpr ⟨h1, fun z => h2 (List.mem_append_left _ z), h0⟩)
  · have := List.pairwise_and_iff.mpr ⟨ho, hnd⟩
    exact this.imp fun h => Nat.lt_of_le_of_ne h.1 h.2
  · have hil : i = ws.length := by simp at hi; omega
    subst hil
    rw [List.getElem?_append_right (Nat.le_refl _)] at hu
    simp at hu
    subst hu
    have h1 := (d.mem v).mp (hp.mem_iff.mp hv)
    have h2 : ∀ m, (v, m) ∈ ps → m ∈ ws.flatten ++ w := by rw [← e]; exact cntP_zero.mp h1.2.1
    refine Classical.byContradiction fun hc => ?_
    have : cntP ps ws.flatten v = 0 := cntP_zero.mpr fun m hm => by
      rcases List.mem_append.mp (h2 m hm) with z | z
      · exact z
      · exact absurd ⟨m, z, hm⟩ hc
    omega
/-! rings -/
structure IsRing (ps : List Pr) (n : Nat) (rs : List Nat) : Prop where
  full : rs ≠ []
  nodup : rs.Nodup
  below : ∀ v ∈ rs, v < n
  next : ∀ (i : Nat) (h : i < rs.length), (rs[i], rs[(i + 1) % rs.length]'(Nat.mod_lt _ (by omega))) ∈ ps
theorem IsRing.reach {ps : List Pr} {n : Nat} {rs : List Nat} (r : IsRing ps n rs) : ∃ v, Reach ps v v := by
  have h0 : 0 < rs.length := List.length_pos_iff.mpr r.full
  have key : ∀ i (h : i < rs.length), Reach ps rs[0] (rs[(i + 1) % rs.length]'(Nat.mod_lt _ h0)) := by
    intro i
    induction i with
    | zero => intro h; exact .one (r.next 0 h)
    | succ i ih =>
      intro h
      have h1 := ih (by omega)
      have e : (i + 1) % rs.length = i + 1 := Nat.mod_eq_of_lt h
      have h2 := r.next (i + 1) h
      refine .step (v := rs[i + 1]) ?_ h2
      simpa [e] using h1
  have h1 := key (rs.length - 1) (by omega)
  have e : (rs.length - 1 + 1) % rs.length = 0 := by rw [Nat.sub_add_cancel h0, Nat.mod_self]
  refine ⟨rs[0], ?_⟩
  simpa [e] using h1
/-- all are done: nothing goes round -/
theorem WavesOk.noRing {ps : List Pr} {n : Nat} {ws : List (List Nat)} (hb : Below n ps) (k : WavesOk ps n ws) (hall : ∀ p ∈ ps, p.2 ∈ ws.flatten) : ∀ v, ¬ Reach ps v v := by
  -- where v stands
  have key : ∀ i u v, Reach ps u v → (∃ w, ws[i]? = some w ∧ u ∈ w) → v ∈ (ws.take i).flatten := by
    intro i u v h
    induction h with
    | one h => rintro ⟨w, hw, hu⟩; exact k.lean i w hw _ hu _ h
    | step h1 h2 ih =>
      intro hw
      have h3 := ih hw
      obtain ⟨t, ht, hvt⟩ := List.mem_flatten.mp h3
      obtain ⟨j, hj, rfl⟩ := List.getElem_of_mem ht
      rw [List.length_take] at hj
      have h4 : ws[j]? = some ((ws.take i)[j]'(by rw [List.length_take]; exact hj)) := by
        rw [List.getElem_take]
        simp
      have h5 := k.lean j _ h4 _ hvt _ h2
      obtain ⟨t', ht', hvt'⟩ := List.mem_flatten.mp h5
      refine List.mem_flatten.mpr ⟨t', ?_, hvt'⟩
      have : ws.take j = (ws.take i).take j := by rw [List.take_take]; congr 1; omega
      rw [this] at ht'
      exact List.mem_of_mem_take ht'
  intro v h
  have hv : v ∈ ws.flatten := by
    cases h with
    | one h => exact hall _ h
    | step _ h => exact hall _ h
  obtain ⟨w, hw, hvw⟩ := List.mem_flatten.mp hv
  obtain ⟨i, hi, rfl⟩ := List.getElem_of_mem hw
  have h1 := key i v v h ⟨ws[i], by simp [hi], hvw⟩
  have h2 := k.nodup
  have e : ws = ws.take i ++ ws[i] :: ws.drop (i + 1) := by
    rw [List.getElem_cons_drop, List.take_append_drop]
  rw [e, List.flatten_append, List.flatten_cons, List.nodup_append] at h2
  exact h2.2.2 v h1 v (List.mem_append_left _ hvw) rfl
/-- going on: those met, and where one is -/
structure Gone (ps : List Pr) (n : Nat) (on : Nat → Option Nat) (gone : List Nat) (x : Nat) : Prop where
  nodup : gone.Nodup
  keys : ∀ v ∈ gone ++ [x], v < n ∧ ∃ m, on v = some m
  chain : ∀ (i : Nat) u v, (gone ++ [x])[i]? = some u → (gone ++ [x])[i + 1]? = some v → on u = some v
theorem Gone.start {ps : List Pr} {n : Nat} {on : Nat → Option Nat} {x : Nat} (h : x < n ∧ ∃ m, on x = some m) : Gone ps n on [] x :=
  ⟨by simp, by simpa using h, fun i u v h1 h2 => by simp at h2⟩
theorem Gone.step {ps : List Pr} {n : Nat} {on : Nat → Option Nat} {gone : List Nat} {x y : Nat} (g : Gone ps n on gone x) (hx : x ∉ gone) (hy : on x = some y) (hk : y < n ∧ ∃ m, on y = some m) : Gone ps n on (gone ++ [x]) y := by
  refine ⟨List.nodup_append.mpr ⟨g.nodup, by simp, fun a ha b hb => ?_⟩, fun v hv => ?_, fun i u v h1 h2 => ?_⟩
  · rw [List.mem_singleton] at hb; subst hb; rintro rfl; exact hx ha
  · rcases List.mem_append.mp hv with h | h
    · exact g.keys v h
    · rw [List.mem_singleton] at h; subst h; exact hk
  · by_cases hi : i + 1 < (gone ++ [x]).length
    · rw [List.getElem?_append_left hi] at h2
      rw [List.getElem?_append_left (by omega)] at h1
      exact g.chain i u v h1 h2
    · have hil : i + 1 = (gone ++ [x]).length := by
        have := (List.getElem?_eq_some_iff.mp h2).1
        simp at this hi ⊢
        omega
      rw [hil, List.getElem?_append_right (Nat.le_refl _)] at h2
      simp at h2
      subst h2
      have : i = gone.length := by simp at hil; omega
      subst this
      rw [List.getElem?_append_left (by simp), List.getElem?_append_right (Nat.le_refl _)] at h1
      simp at h1
      subst h1
      exact hy
theorem Gone.ring {ps : List Pr} {n : Nat} {on : Nat → Option Nat} {gone : List Nat} {x : Nat} (g : Gone ps n on gone x) (hon : ∀ u v, on u = some v → (u, v) ∈ ps) (hx : x ∈ gone) : IsRing ps n (gone.drop (gone.idxOf x)) := by
  have hj : gone.idxOf x < gone.length := List.idxOf_lt_length_iff.mpr hx
  have hjx : gone[gone.idxOf x] = x := List.getElem_idxOf hj
  refine ⟨?_, g.nodup.sublist (List.drop_sublist _ _), fun v hv => (g.keys v (List.mem_append_left _ (List.mem_of_mem_drop hv))).1, fun i h => ?_⟩
  · intro z
    have := congrArg List.length z
    rw [List.length_drop] at this
    simp at this
    omega
  · apply hon
    have hl : (gone.drop (gone.idxOf x)).length = gone.length - gone.idxOf x := List.length_drop
    have h' := h
    rw [hl] at h'
    refine g.chain (gone.idxOf x + i) _ _ ?_ ?_
    · rw [List.getElem?_append_left (by omega), List.getElem_drop]
      simp
    · by_cases hlast : i + 1 < (gone.drop (gone.idxOf x)).length
      · have e : (i + 1) % (gone.drop (gone.idxOf x)).length = i + 1 := Nat.mod_eq_of_lt hlast
        rw [hl] at hlast
        rw [List.getElem?_append_left (by omega), List.getElem_drop]
        rw [List.getElem?_eq_getElem (by omega)]
        congr 2
        rw [e]
        omega
      · have hil : i + 1 = gone.length - gone.idxOf x := by omega
        have e : (i + 1) % (gone.drop (gone.idxOf x)).length = 0 := by rw [hl, hil, Nat.mod_self]
        have e2 : gone.idxOf x + i + 1 = gone.length := by omega
        rw [e2, List.getElem?_append_right (Nat.le_refl _)]
        simp only [Nat.sub_self, List.getElem?_cons_zero, Option.some.injEq]
        rw [List.getElem_drop]
        simp only [e, Nat.add_zero]
        exact hjx.symm
end G4
/-! ### waves that take in all -/
namespace G4
theorem rise_eq : ∀ (l m : List Nat), l.Pairwise (· < ·) → m.Pairwise (· < ·) → (∀ v, v ∈ l ↔ v ∈ m) → l = m
  | [], [], _, _, _ => rfl
  | [], b :: m, _, _, h => by have := (h b).mpr List.mem_cons_self; cases this
  | a :: l, [], _, _, h => by have := (h a).mp List.mem_cons_self; cases this
  | a :: l, b :: m, hl, hm, h => by
    obtain ⟨l1, l2⟩ := List.pairwise_cons.mp hl
    obtain ⟨m1, m2⟩ := List.pairwise_cons.mp hm
    have e : a = b := by
      have h1 := (h a).mp List.mem_cons_self
      have h2 := (h b).mpr List.mem_cons_self
      rcases List.mem_cons.mp h1 with e | h1
      · exact e
      · rcases List.mem_cons.mp h2 with e | h2
        · exact e.symm
        · have := l1 b h2
          have := m1 a h1
          omega
    subst e
    rw [rise_eq l m l2 m2 fun v => ?_]
    constructor
    · intro hv
      have := l1 v hv
      rcases List.mem_cons.mp ((h v).mp (List.mem_cons_of_mem _ hv)) with e | z
      · omega
      · exact z
    · intro hv
      have := m1 v hv
      rcases List.mem_cons.mp ((h v).mpr (List.mem_cons_of_mem _ hv)) with e | z
      · omega
      · exact z
theorem sort_rise {l m : List Nat} (hp : l.Perm m) (ho : l.Pairwise (· ≤ ·)) (hn : m.Nodup) : l.Pairwise (· < ·) := by
  have hnd : l.Nodup := hp.nodup_iff.mpr hn
  have := List.pairwise_and_iff.mpr ⟨ho, hnd⟩
  exact this.imp fun h => Nat.lt_of_le_of_ne h.1 h.2
theorem nodup_sub : ∀ (l m : List Nat), l.Nodup → (∀ v ∈ l, v ∈ m) → l.length ≤ m.length
  | [], m, _, _ => Nat.zero_le _
  | a :: l, m, hn, h => by
    obtain ⟨h1, h2⟩ := List.nodup_cons.mp hn
    have ha := h a List.mem_cons_self
    have ih := nodup_sub l (m.erase a) h2 fun v hv => by
      have hv' := h v (List.mem_cons_of_mem _ hv)
      have hne : v ≠ a := fun e => h1 (e ▸ hv)
      exact (List.mem_erase_of_ne hne).mpr hv'
    rw [List.length_erase_of_mem ha] at ih
    have := List.length_pos_of_mem ha
    rw [List.length_cons]
    omega
theorem cover {n : Nat} {W : List Nat} (hn : W.Nodup) (hb : ∀ v ∈ W, v < n) (hl : n ≤ W.length) : ∀ v, v < n → v ∈ W := by
  intro v hv
  refine Classical.byContradiction fun hc => ?_
  have := nodup_len n (v :: W) (List.nodup_cons.mpr ⟨hc, hn⟩) fun u hu => by
    rcases List.mem_cons.mp hu with e | e
    · rw [e]; exact hv
    · exact hb u e
  rw [List.length_cons] at this
  omega
theorem missing {n : Nat} {W : List Nat} (hl : W.length < n) : ∃ v, v < n ∧ v ∉ W := by
  refine Classical.byContradiction fun hc => ?_
  have := nodup_sub (List.range n) W List.nodup_range fun v hv => Classical.byContradiction fun hz => hc ⟨v, List.mem_range.mp hv, hz⟩
  rw [List.length_range] at this
  omega
theorem Gone.exists {ps : List Pr} {n : Nat} {on : Nat → Option Nat} (hon : ∀ u v, on u = some v → (u, v) ∈ ps) (hk : ∀ u v, on u = some v → v < n ∧ ∃ m, on v = some m) :
    ∀ (k : Nat) (gone : List Nat) (x : Nat), n - gone.length ≤ k → Gone ps n on gone x → ∃ rs, IsRing ps n rs := by
  intro k
  induction k with
  | zero =>
    intro gone x hle g
    by_cases hx : x ∈ gone
    · exact ⟨_, g.ring hon hx⟩
    · obtain ⟨hxn, m, hm⟩ := g.keys x (by simp)
      have g' := g.step hx hm (hk x m hm)
      have hl := nodup_len n _ g'.nodup fun v hv => (g'.keys v (List.mem_append_left _ hv)).1
      rw [List.length_append] at hl
      simp at hl
      omega
  | succ k ih =>
    intro gone x hle g
    by_cases hx : x ∈ gone
    · exact ⟨_, g.ring hon hx⟩
    · obtain ⟨hxn, m, hm⟩ := g.keys x (by simp)
      exact ih (gone ++ [x]) m (by rw [List.length_append]; simp; omega) (g.step hx hm (hk x m hm))
open Classical in
theorem Stuck.ring {ps : List Pr} {n : Nat} {ws : List (List Nat)} (hb : Below n ps) (st : Stuck ps n ws) {v : Nat} (hv : v < n) (hn : v ∉ ws.flatten) : ∃ rs, IsRing ps n rs := by
  let on : Nat → Option Nat := fun u => if h : u < n ∧ u ∉ ws.flatten then some (Classical.choose (st u h.1 h.2)) else none
  have hon : ∀ u m, on u = some m → (u, m) ∈ ps ∧ m ∉ ws.flatten := fun u m e => by
    by_cases h : u < n ∧ u ∉ ws.flatten
    · have e' : on u = some (Classical.choose (st u h.1 h.2)) := dif_pos h
      rw [e'] at e
      cases e
      exact Classical.choose_spec (st u h.1 h.2)
    · have e' : on u = none := dif_neg h
      rw [e'] at e
      cases e
  have hkey : ∀ u, u < n → u ∉ ws.flatten → u < n ∧ ∃ m, on u = some m := fun u h1 h2 => ⟨h1, _, dif_pos ⟨h1, h2⟩⟩
  refine Gone.exists (on := on) (fun u m e => (hon u m e).1) (fun u m e => ?_) _ [] v (Nat.le_refl _) (Gone.start (hkey v hv hn))
  obtain ⟨h1, h2⟩ := hon u m e
  exact hkey m (hb _ h1).2 h2
/-- the home of each number -/
def Homes (ws : List (List Nat)) (hm : Nat → Nat) : Prop := ∀ (i : Nat) w v, ws[i]? = some w → v ∈ w → hm v = i
structure LeastOk (ps : List Pr) (j : Nat) (hm L : Nat → Nat) : Prop where
  up : ∀ p ∈ ps.take j, hm p.2 + 1 ≤ L p.1
  at_ : ∀ v, L v = 0 ∨ ∃ p ∈ ps.take j, p.1 = v ∧ L v = hm p.2 + 1
theorem LeastOk.start {ps : List Pr} {hm : Nat → Nat} : LeastOk ps 0 hm fun _ => 0 := ⟨fun p h => (by rw [List.take_zero] at h; cases h), fun _ => .inl rfl⟩
theorem LeastOk.step {ps : List Pr} {j : Nat} {hm L : Nat → Nat} {p : Pr} (o : LeastOk ps j hm L) (h : ps[j]? = some p) : LeastOk ps (j + 1) hm fun v => if v = p.1 then max (L p.1) (hm p.2 + 1) else L v := by
  have et : ps.take (j + 1) = ps.take j ++ [p] := by rw [List.take_succ, h]; rfl
  refine ⟨fun q hq => ?_, fun v => ?_⟩
  · rw [et] at hq
    rcases List.mem_append.mp hq with z | z
    · have := o.up q z
      by_cases e : q.1 = p.1
      · rw [if_pos e]; rw [e] at this; omega
      · rw [if_neg e]; exact this
    · have e : q = p := by simpa using z
      subst e
      rw [if_pos rfl]
      omega
  · rw [et]
    by_cases e : v = p.1
    · subst e
      rw [if_pos rfl]
      by_cases hc : L p.1 ≤ hm p.2 + 1
      · exact .inr ⟨p, by simp, rfl, by omega⟩
      · rcases o.at_ p.1 with z | ⟨q, h1, h2, h3⟩
        · omega
        · exact .inr ⟨q, List.mem_append_left _ h1, h2, by omega⟩
    · rw [if_neg e]
      rcases o.at_ v with z | ⟨q, h1, h2, h3⟩
      · exact .inl z
      · exact .inr ⟨q, List.mem_append_left _ h1, h2, h3⟩
theorem LeastOk.end {ps : List Pr} {n : Nat} {ws : List (List Nat)} {hm L : Nat → Nat} (ok : WavesOk ps n ws) (hh : Homes ws hm) (o : LeastOk ps ps.length hm L) {v : Nat} (hv : v ∈ ws.flatten) : hm v = L v := by
  obtain ⟨w, hw, hvw⟩ := List.mem_flatten.mp hv
  obtain ⟨i, hi, rfl⟩ := List.getElem_of_mem hw
  have e1 : ws[i]? = some ws[i] := by simp [hi]
  have ev := hh i _ v e1 hvw
  have less : ∀ m, (v, m) ∈ ps → hm m < i := fun m hmm => by
    have := ok.lean i _ e1 v hvw m hmm
    obtain ⟨t, ht, hmt⟩ := List.mem_flatten.mp this
    obtain ⟨j, hj, e⟩ := List.getElem_of_mem ht
    rw [List.length_take] at hj
    rw [List.getElem_take] at e
    have := hh j t m (by rw [← e]; simp) hmt
    omega
  have ou : ∀ p ∈ ps, hm p.2 + 1 ≤ L p.1 := fun p hp => o.up p (by rw [List.take_length]; exact hp)
  rw [ev]
  rcases o.at_ v with z | ⟨p, h1, h2, h3⟩
  · rw [z]
    cases i with
    | zero => rfl
    | succ k =>
      obtain ⟨m, hm1, hm2⟩ := ok.last k _ _ (show ws[k]? = some (ws[k]'(by omega)) by simp) e1 v hvw
      have h4 := hh k _ m (show ws[k]? = some (ws[k]'(by omega)) by simp) hm1
      have h5 := ou (v, m) hm2
      simp only at h5
      omega
  · rw [List.take_length] at h1
    have h4 := less p.2 (by rw [← h2]; exact h1)
    cases i with
    | zero => omega
    | succ k =>
      obtain ⟨m, hm1, hm2⟩ := ok.last k _ _ (show ws[k]? = some (ws[k]'(by omega)) by simp) e1 v hvw
      have h5 := hh k _ m (show ws[k]? = some (ws[k]'(by omega)) by simp) hm1
      have h6 := ou (v, m) hm2
      simp only at h6
      omega
end G4
namespace K5
open PySem PyProof.Rows L2 G4
/-! ### 1. The text by places -/
def top (i : Nat) : Stmt := PySem.Challenge.pw_slanttiles_k41_waves_of_pieces.main.body.getD i (.Pass ⟨0, 0, 0, 0⟩)
abbrev sAhead : Stmt := top 2
abbrev sRing : Stmt := top 3
abbrev sCell : Stmt := top 5
abbrev sMixed : Stmt := top 6
abbrev sTwice : Stmt := top 7
abbrev sWell : Stmt := top 8
abbrev sDraw : Stmt := top 9
abbrev sPairs : Stmt := top 10
abbrev sComes : Stmt := top 11
abbrev sBack : Stmt := top 12
abbrev sRight : Stmt := top 13
abbrev sOf : Stmt := top 1
abbrev sLaw : Stmt := top 14
/-! ### 2. The data -/
theorem Paired.get {α β : Type} {F : α → β → Prop} : ∀ {l₁ : List α} {l₂ : List β}, Paired F l₁ l₂ → ∀ {i : Nat} {x : α}, l₁[i]? = some x → ∃ y, l₂[i]? = some y ∧ F x y
  | _, _, .nil, i, _, h => by simp at h
  | _, _, .cons h _, 0, _, e => by simp at e; subst e; exact ⟨_, rfl, h⟩
  | _, _, .cons _ t, i + 1, x, e => by
    obtain ⟨y, h1, h2⟩ := Paired.get t (i := i) (x := x) (by simpa using e)
    exact ⟨y, by simpa using h1, h2⟩
theorem Paired.snoc' {α β : Type} {F : α → β → Prop} : ∀ {l₁ : List α} {l₂ : List β} {x : α} {y : β}, Paired F l₁ l₂ → F x y → Paired F (l₁ ++ [x]) (l₂ ++ [y])
  | _, _, _, _, .nil, h => .cons h .nil
  | _, _, _, _, .cons a t, h => .cons a (Paired.snoc' t h)
theorem Paired.app {α β : Type} {F : α → β → Prop} : ∀ {l₁ m₁ : List α} {l₂ m₂ : List β}, Paired F l₁ l₂ → Paired F m₁ m₂ → Paired F (l₁ ++ m₁) (l₂ ++ m₂)
  | _, _, _, _, .nil, h => h
  | _, _, _, _, .cons a t, h => .cons a (Paired.app t h)
theorem Paired.drop' {α β : Type} {F : α → β → Prop} : ∀ {l₁ : List α} {l₂ : List β}, Paired F l₁ l₂ → ∀ i : Nat, Paired F (l₁.drop i) (l₂.drop i)
  | _, _, h, 0 => h
  | _, _, .nil, _ + 1 => .nil
  | _, _, .cons _ t, i + 1 => Paired.drop' t i
theorem Paired.take' {α β : Type} {F : α → β → Prop} : ∀ {l₁ : List α} {l₂ : List β}, Paired F l₁ l₂ → ∀ i : Nat, Paired F (l₁.take i) (l₂.take i)
  | _, _, _, 0 => .nil
  | _, _, .nil, _ + 1 => .nil
  | _, _, .cons a t, i + 1 => .cons a (Paired.take' t i)
abbrev natV (n : Nat) : V := V.int (n : Int)
abbrev nats (l : List Nat) : List V := l.map natV
/-- pairs, as tuples -/
def PrAt (H : Hp) (v : V) (p : Pr) : Prop := ∃ a, v = .ref a ∧ H a = some (.tup [natV p.1, natV p.2])
abbrev PrsAt (H : Hp) : List V → List Pr → Prop := Paired (PrAt H)
def WellAt (H : Hp) (a : Addr) : Prop := ∃ x y z : Int, H a = some (.lst [.int x, .int y, .int z])
/-- all stays but what stands at a -/
def Kp (a : Addr) (H H' : Hp) : Prop := ∀ b o, H b = some o → b ≠ a → H' b = some o
theorem Kp.trans {a : Addr} {H H1 H2 : Hp} (x : Kp a H H1) (y : Kp a H1 H2) : Kp a H H2 := fun b o h n => y b o (x b o h n) n
theorem Kp.same {a : Addr} {H H1 H2 : Hp} (x : Kp a H H1) (y : Same H1 H2) : Kp a H H2 := fun b o h n => y b o (x b o h n)
theorem Kp.of {a : Addr} {H H' : Hp} (x : Same H H') : Kp a H H' := fun b o h _ => x b o h
theorem sameNew {H : Hp} {p : Addr} {o : HO} (h : H p = none) : Same H (upd H p o) := fun b u e => by
  rw [upd_ne (ne_of_none e h)]
  exact e
/-- what is changed was not there -/
theorem sameUpd {H H1 : Hp} {p : Addr} {o : HO} (h : H p = none) (s : Same H H1) : Same H (upd H1 p o) := fun b u e => by
  rw [upd_ne (ne_of_none e h)]
  exact s b u e
theorem kpUpd {H : Hp} {p : Addr} {o : HO} : Kp p H (upd H p o) := fun b u e n => by
  rw [upd_ne n]
  exact e
theorem Kp.tup {a b : Addr} {H H' : Hp} {xs : List V} (k : Kp a H H') (w : WellAt H a) (h : H b = some (.tup xs)) : H' b = some (.tup xs) := by
  obtain ⟨x, y, z, e⟩ := w
  exact k b _ h (ne_of h e (by intro q; cases q))
theorem WellAt.new {H : Hp} {a p : Addr} {o : HO} (h : WellAt H a) (hp : H p = none) : WellAt (upd H p o) a := by
  obtain ⟨x, y, z, e⟩ := h
  exact ⟨x, y, z, by rw [upd_ne (ne_of_none e hp)]; exact e⟩
theorem WellAt.ne {H : Hp} {a p : Addr} (h : WellAt H a) (hp : H p = none) : p ≠ a := by
  obtain ⟨x, y, z, e⟩ := h
  exact Ne.symm (ne_of_none e hp)
theorem PrsAt.mono {H H' : Hp} (k : ∀ b xs, H b = some (.tup xs) → H' b = some (.tup xs)) {xs : List V} {ps : List Pr} (h : PrsAt H xs ps) : PrsAt H' xs ps :=
  Paired.mapP h fun _ _ ⟨a, e, q⟩ => ⟨a, e, k _ _ q⟩
theorem small {n : Nat} (h : n ≤ 10000) : n < sizeLine := by
  have : (10000 : Nat) < sizeLine := by decide
  omega
/-! ### 3. The promises -/
def spCell (K : PySem.W.Frag) : Sp := fun vs H Q _ => ∃ (a : Addr) (k : Int) (ns : List Int), vs = [.ref a, .int k] ∧ SqL K H a (ns.map V.int) ∧ 0 ≤ k ∧ ∀ n : Int, Q (.int n) H
def spMixed : Sp := fun vs H Q _ => ∃ c k : Int, vs = [.int c, .int k] ∧ ∀ n : Int, Q (.int n) H
def spWell (K : PySem.W.Frag) : Sp := fun vs H Q _ => ∃ (a : Addr) (k : Int) (ns : List Int), vs = [.ref a, .int k] ∧ SqL K H a (ns.map V.int) ∧ 0 ≤ k ∧ ∀ (p : Addr) (H' : Hp), Same H H' → H p = none → WellAt H' p → Q (.ref p) H'
def spDraw : Sp := fun vs H Q _ => ∃ (a : Addr) (m : Int), vs = [.ref a, .int m] ∧ WellAt H a ∧ 0 < m ∧ m < 1073741824 ∧ ∀ (n : Nat) (H' : Hp), (n : Int) < m → Kp a H H' → WellAt H' a → Q (natV n) H'
def spPairs : Sp := fun vs H Q _ => ∃ (a : Addr) (n : Nat), vs = [.ref a, natV n] ∧ WellAt H a ∧ n ≤ 60 ∧ ∀ (p : Addr) (xs : List V) (ps : List Pr) (H' : Hp), Kp a H H' → WellAt H' a → H p = none → H' p = some (.lst xs) → PrsAt H' xs ps → Below n ps → ps.length ≤ 1000 → Q (.ref p) H'
theorem pe_ty {X : Cx} {x : Str} {n : String} {pos : Pos} (hg : Gl X x) (hm : X.mg x = none) (hv : bootBuiltins x = some (.type n)) (hn : x ≠ "__name__" := by decide) (hd : (x == ("__debug__" : Str)) = false := by decide) : PE X (.Name x pos) (tC (.ty n)) := pe_bltn (v := .ty n) hg hm hv rfl hn hd
structure Txt (K : PySem.W.Frag) (mg : Str → Option Value) : Prop where
  isinstance : mg "isinstance" = none
  int : mg "int" = none
  bool : mg "bool" = none
  list : mg "list" = none
  len : mg "len" = none
  range : mg "range" = none
  min : mg "min" = none
  max : mg "max" = none
  sorted : mg "sorted" = none
  sum : mg "sum" = none
section
variable {P : Program} {w : World} {K : PySem.W.Frag} {mg : Str → Option Value} {base : Heap}
theorem scCell : FnScope ["_law_script", "_law_k"] ["_law_script", "_law_k"] (defScope sCell) := ⟨rfl, rfl, rfl, by decide +kernel, rfl, by decide +kernel, by decide +kernel⟩
theorem ok_cell {f : Addr} {fd : FuncData} (F : Fun K "_law_cell" "_law_cell" sCell f fd) (T : Txt K mg) : FnOk P w K mg base CX0 1 f fd ["_law_script", "_law_k"] (spCell K) := by
  refine F.ok scCell (fun vs H Q E h => ?_) (fun cdv A outer s H vs Q E hr h => ?_)
  · obtain ⟨a, k, ns, rfl, _⟩ := h
    rfl
  · obtain ⟨a, k, ns, rfl, hS, hk, q⟩ := h
    refine ⟨_, pss_cons (ps_if (pt_cmpR op_lt (pv 1) (pe_callB call_len_seq (by rfl) T.len PySem.boot_len (pa_cons (pv 0) pa_nil)) (nomark _)) (pss_one (ps_ret (pe_ix ix_list (pv 0) (pv 1) (fun _ _ => rfl)))) pss_nil) (pss_one (ps_ret pe_int)), ?_⟩
    refine ⟨_, rfl, _, rfl, a, _, rfl, .inl hS, _, _, rfl, rfl, _, rfl, ?_⟩
    refine ite2 (fun h1 => ?_) (fun _ => q 0)
    have h2 : k < ((ns.map V.int).length : Int) := of_decide_eq_true h1
    rw [List.length_map] at h2
    obtain ⟨j, rfl⟩ : ∃ j : Nat, k = (j : Int) := ⟨k.toNat, by omega⟩
    have hj : j < ns.length := by omega
    have e : (ns.map V.int)[j]? = some (V.int ns[j]) := by simp [hj]
    exact ⟨_, rfl, _, rfl, a, _, _, _, rfl, rfl, hS, atI_nat e, q _⟩
theorem modb (x : Int) : -(2 ^ 64) < x % 2147483647 ∧ x % 2147483647 < 2 ^ 64 := by
  have h1 := Int.emod_nonneg x (show (2147483647 : Int) ≠ 0 by decide)
  have h2 := Int.emod_lt_of_pos x (show (0 : Int) < 2147483647 by decide)
  omega
theorem scMixed : FnScope ["_law_cell_here", "_law_k", "_law_number"] ["_law_cell_here", "_law_k"] (defScope sMixed) := ⟨rfl, rfl, rfl, by decide +kernel, rfl, by decide +kernel, by decide +kernel⟩
theorem ok_mixed {f : Addr} {fd : FuncData} (F : Fun K "_law_mixed" "_law_mixed" sMixed f fd) : FnOk P w K mg base CX0 1 f fd ["_law_cell_here", "_law_k"] spMixed := by
  refine F.ok scMixed (fun vs H Q E h => ?_) (fun cdv A outer s H vs Q E hr h => ?_)
  · obtain ⟨c, k, rfl, _⟩ := h
    rfl
  · obtain ⟨c, k, rfl, q⟩ := h
    refine ⟨_, pss_cons (ps_set (i := 2) scMixed.nd rfl (Or.inl rfl) (pe_op op_mod (pe_op op_mul (pe_op op_add (pe_op op_add (pv 0) (pe_op op_mul pe_int (pv 1))) pe_int) pe_int) pe_int))
      (pss_one (ps_ret (pe_op op_mod (pe_op op_mul (pv 2) (pe_op op_add (pe_op op_fdiv (pv 2) pe_int) pe_int)) pe_int))), ?_⟩
    refine ⟨_, rfl, _, rfl, _, _, rfl, rfl, .inl ⟨by decide, by decide⟩, _, _, rfl, rfl, _, _, rfl, rfl, _, _, rfl, rfl, .inr ⟨by decide, by decide⟩, _, _, rfl, rfl, (by show (0 : Int) < 2147483647; decide), ?_⟩
    refine ⟨_, rfl, _, rfl, _, _, rfl, rfl, ⟨by decide, by decide⟩, _, _, rfl, rfl, _, _, rfl, rfl, .inl (modb _), _, _, rfl, rfl, (by show (0 : Int) < 2147483647; decide), ?_⟩
    exact q _
theorem scTwice : FnScope ["_law_cell_here", "_law_k", "_law_number"] ["_law_cell_here", "_law_k"] (defScope sTwice) := ⟨rfl, rfl, rfl, by decide +kernel, rfl, by decide +kernel, by decide +kernel⟩
theorem ok_twice {f f1 : Addr} {fd fd1 : FuncData} (F : Fun K "_law_twice" "_law_twice" sTwice f fd) (F1 : Fun K "_law_mixed" "_law_mixed" sMixed f1 fd1) (m1 : mg "_law_mixed" = some (.ref f1)) (b1 : Binds K fd1 ["_law_cell_here", "_law_k"] []) :
    FnOk P w K mg base CX0 2 f fd ["_law_cell_here", "_law_k"] spMixed := by
  have G1 : FnOk P w K mg base CX0 1 f1 fd1 ["_law_cell_here", "_law_k"] spMixed := ok_mixed F1
  refine F.ok scTwice (fun vs H Q E h => ?_) (fun cdv A outer s H vs Q E hr h => ?_)
  · obtain ⟨c, k, rfl, _⟩ := h
    rfl
  · obtain ⟨c, k, rfl, q⟩ := h
    refine ⟨_, pss_cons (ps_set (i := 2) scTwice.nd rfl (Or.inl rfl) (pe_op op_mod (pe_op op_mul (pe_op op_add (pe_op op_add (pe_call G1 hr rfl m1 F1.kp b1 .nil pass0 (pa_cons (pv 0) (pa_cons (pv 1) pa_nil))) (pe_op op_mul pe_int (pv 1))) pe_int) pe_int) pe_int))
      (pss_one (ps_ret (pe_op op_mod (pe_op op_mul (pv 2) (pe_op op_add (pe_op op_fdiv (pv 2) pe_int) pe_int)) pe_int))), ?_⟩
    refine ⟨_, rfl, _, rfl, _, _, rfl, fun n0 => ?_⟩
    refine ⟨_, rfl, _, _, rfl, rfl, .inl ⟨by decide, by decide⟩, _, _, rfl, rfl, _, _, rfl, rfl, _, _, rfl, rfl, .inr ⟨by decide, by decide⟩, _, _, rfl, rfl, (by show (0 : Int) < 2147483647; decide), ?_⟩
    refine ⟨_, rfl, _, rfl, _, _, rfl, rfl, ⟨by decide, by decide⟩, _, _, rfl, rfl, _, _, rfl, rfl, .inl (modb _), _, _, rfl, rfl, (by show (0 : Int) < 2147483647; decide), ?_⟩
    exact q _
theorem scWell : FnScope ["_law_script", "_law_k", "_law_cell_here"] ["_law_script", "_law_k"] (defScope sWell) := ⟨rfl, rfl, rfl, by decide +kernel, rfl, by decide +kernel, by decide +kernel⟩
theorem ok_well {f f1 : Addr} {fd fd1 : FuncData} (F : Fun K "_law_well" "_law_well" sWell f fd) (F1 : Fun K "_law_cell" "_law_cell" sCell f1 fd1) (m1 : mg "_law_cell" = some (.ref f1)) (b1 : Binds K fd1 ["_law_script", "_law_k"] []) (T : Txt K mg) :
    FnOk P w K mg base CX0 2 f fd ["_law_script", "_law_k"] (spWell K) := by
  have G1 : FnOk P w K mg base CX0 1 f1 fd1 ["_law_script", "_law_k"] (spCell K) := ok_cell F1 T
  refine F.ok scWell (fun vs H Q E h => ?_) (fun cdv A outer s H vs Q E hr h => ?_)
  · obtain ⟨a, k, ns, rfl, _⟩ := h
    rfl
  · obtain ⟨a, k, ns, rfl, hS, hk, q⟩ := h
    refine ⟨_, pss_cons (ps_set (i := 2) scWell.nd rfl (Or.inl rfl) (pe_call G1 hr rfl m1 F1.kp b1 .nil pass0 (pa_cons (pv 0) (pa_cons (pv 1) pa_nil))))
      (pss_one (ps_ret (pe_lst (pa_cons (pe_ix ix_list (pe_lst (pa_cons pe_int (pa_cons (pv 2) pa_nil))) (pe_callTy call_int1 rfl T.int boot_int (pa_cons (pe_cmpR op_ge (pv 2) (pe_op op_pow pe_int pe_int) (nomark _)) pa_nil)) (fun _ _ => rfl))
        (pa_cons pe_int (pa_cons (pe_op op_add (pv 2) (pv 1)) pa_nil)))))), ?_⟩
    refine ⟨_, rfl, _, rfl, a, k, ns, rfl, hS, hk, fun c => ?_⟩
    refine ⟨_, rfl, (by show 2 ≤ sizeLine; decide), fun l hl => ?_⟩
    refine ⟨_, rfl, _, _, rfl, rfl, ⟨by decide, by decide, by decide⟩, _, _, rfl, rfl, .inr ⟨_, rfl, ?_⟩⟩
    have fin : ∀ (c' : Int), ∀ p, upd H l (.lst [.int 0, .int c]) p = none → Q (.ref p) (upd (upd H l (.lst [.int 0, .int c])) p (.lst [.int c', .int 0, .int (c + k)])) := fun c' p hp => by
      have s1 : Same H (upd H l (.lst [.int 0, .int c])) := sameNew hl
      exact q p _ (s1.trans (sameNew hp)) (s1.free hp) ⟨_, _, _, upd_same⟩
    obtain ⟨c', he⟩ : ∃ c' : Int, atI [V.int 0, V.int c] (if decide ((10 : Int) ^ (18 : Int).toNat ≤ c) = true then 1 else 0) = some (.int c') := by
      split
      · exact ⟨c, rfl⟩
      · exact ⟨0, rfl⟩
    exact ⟨l, _, _, _, rfl, rfl, SqL.of upd_same, he, _, rfl, _, rfl, _, _, rfl, rfl, (by show 3 ≤ sizeLine; decide), fin c'⟩
theorem scDraw : FnScope ["_law_well_here", "_law_most", "_law_number"] ["_law_well_here", "_law_most"] (defScope sDraw) := ⟨rfl, rfl, rfl, by decide +kernel, rfl, by decide +kernel, by decide +kernel⟩
theorem ok_draw {f f1 : Addr} {fd fd1 : FuncData} (F : Fun K "_law_draw" "_law_draw" sDraw f fd) (F1 : Fun K "_law_twice" "_law_twice" sTwice f1 fd1) (m1 : mg "_law_twice" = some (.ref f1)) (b1 : Binds K fd1 ["_law_cell_here", "_law_k"] [])
    (G1 : FnOk P w K mg base CX0 2 f1 fd1 ["_law_cell_here", "_law_k"] spMixed) : FnOk P w K mg base CX0 3 f fd ["_law_well_here", "_law_most"] spDraw := by
  refine F.ok scDraw (fun vs H Q E h => ?_) (fun cdv A outer s H vs Q E hr h => ?_)
  · obtain ⟨a, m, rfl, _⟩ := h
    rfl
  · obtain ⟨a, m, rfl, ⟨x, y, z, ha⟩, hm, hm2, k⟩ := h
    have fin : ∀ (t : Int) (H' : Hp), Kp a H H' → WellAt H' a → Q (.int (t % m)) H' := fun t H' kp w' => by
      have h1 := Int.emod_nonneg t (show m ≠ 0 by omega)
      have h2 := Int.emod_lt_of_pos t hm
      have := k (t % m).toNat H' (by omega) kp w'
      rw [show natV (t % m).toNat = V.int (t % m) by show V.int _ = _; congr 1; omega] at this
      exact this
    refine ⟨_, pss_cons (ps_if (pt_cmpR op_gt (pe_ix ix_list (pv 0) pe_int (fun _ _ => rfl)) pe_int (nomark _))
        (pss_cons (ps_set (i := 2) scDraw.nd rfl (Or.inl rfl) (pe_op op_mod (pe_ix ix_list (pv 0) pe_int (fun _ _ => rfl)) (pv 1)))
        (pss_cons (ps_asg (pe_op op_fdiv (pe_ix ix_list (pv 0) pe_int (fun _ _ => rfl)) (pv 1)) (pg_sub (pv 0) pe_int set_list))
        (pss_one (ps_ret (pv 2))))) pss_nil)
      (pss_cons (ps_asg (pe_op op_add (pe_ix ix_list (pv 0) pe_int (fun _ _ => rfl)) pe_int) (pg_sub (pv 0) pe_int set_list))
      (pss_one (ps_ret (pe_op op_mod (pe_call G1 hr rfl m1 F1.kp b1 .nil pass0 (pa_cons (pe_ix ix_list (pv 0) pe_int (fun _ _ => rfl)) (pa_cons (pe_ix ix_list (pv 0) pe_int (fun _ _ => rfl)) pa_nil))) (pv 1))))), ?_⟩
    refine ⟨_, rfl, a, _, _, _, rfl, rfl, SqL.of ha, rfl, _, _, rfl, rfl, _, rfl, ?_⟩
    refine ite2 (fun _ => ?_) (fun _ => ?_)
    · refine ⟨_, rfl, a, _, _, _, rfl, rfl, SqL.of ha, rfl, _, rfl, _, _, rfl, rfl, hm, ?_⟩
      refine ⟨_, rfl, a, _, _, _, rfl, rfl, SqL.of ha, rfl, _, rfl, _, _, rfl, rfl, ⟨hm, hm2⟩, ?_⟩
      refine ⟨_, rfl, a, _, _, 0, rfl, rfl, ha, rfl, ?_⟩
      exact ⟨_, rfl, fin _ _ kpUpd ⟨_, _, _, upd_same⟩⟩
    · refine ⟨_, rfl, a, _, _, _, rfl, rfl, SqL.of ha, rfl, _, _, rfl, rfl, ?_⟩
      refine ⟨_, rfl, a, _, _, 1, rfl, rfl, ha, rfl, ?_⟩
      have hb : (upd H a (.lst ([V.int x, V.int y, V.int z].set 1 (.int (y + 1))))) a = some (.lst [.int x, .int (y + 1), .int z]) := upd_same
      refine ⟨_, rfl, a, _, _, _, rfl, rfl, SqL.of hb, rfl, _, rfl, a, _, _, _, rfl, rfl, SqL.of hb, rfl, _, _, rfl, fun n0 => ?_⟩
      refine ⟨_, rfl, _, _, rfl, rfl, hm, ?_⟩
      exact fin _ _ kpUpd ⟨_, _, _, upd_same⟩
end
end K5
namespace K5
open PySem PyProof.Rows L2 G4
/-- pairs drawn so far, at p, which is new since H -/
structure Drawn (a : Addr) (n : Nat) (H H2 : Hp) (p : Addr) (b : Nat) : Prop where
  kp : Kp a H H2
  well : WellAt H2 a
  new : H p = none
  ne : p ≠ a
  has : ∃ xs ps, H2 p = some (.lst xs) ∧ PrsAt H2 xs ps ∧ Below n ps ∧ ps.length ≤ b
section
variable {a p t : Addr} {n b : Nat} {H H2 H3 : Hp}
theorem Drawn.draw (d : Drawn a n H H2 p b) (k : Kp a H2 H3) (w : WellAt H3 a) : Drawn a n H H3 p b := by
  obtain ⟨kp, wl, new, ne, xs, ps, h1, h2, h3, h4⟩ := d
  exact ⟨kp.trans k, w, new, ne, xs, ps, k _ _ h1 ne, PrsAt.mono (fun b xs e => k.tup wl e) h2, h3, h4⟩
theorem Drawn.same (d : Drawn a n H H2 p b) (s : Same H2 H3) : Drawn a n H H3 p b := by
  refine d.draw (Kp.of s) ?_
  obtain ⟨x, y, z, e⟩ := d.well
  exact ⟨x, y, z, s _ _ e⟩
theorem Drawn.le {b' : Nat} (d : Drawn a n H H2 p b) (h : b ≤ b') : Drawn a n H H2 p b' := by
  obtain ⟨kp, wl, new, ne, xs, ps, h1, h2, h3, h4⟩ := d
  exact ⟨kp, wl, new, ne, xs, ps, h1, h2, h3, by omega⟩
theorem Drawn.app (d : Drawn a n H H2 p b) {u v : Nat} (hu : u < n) (hv : v < n) (ht : H2 t = some (.tup [natV u, natV v])) {xs : List V} (hp : H2 p = some (.lst xs)) : Drawn a n H (upd H2 p (.lst (xs ++ [.ref t]))) p (b + 1) := by
  obtain ⟨kp, ⟨x, y, z, wl⟩, new, ne, xs', ps, h1, h2, h3, h4⟩ := d
  rw [hp] at h1
  cases h1
  have kt : ∀ b ys, H2 b = some (.tup ys) → (upd H2 p (.lst (xs ++ [.ref t]))) b = some (.tup ys) := fun b ys e => by
    rw [upd_ne (ne_of e hp (by intro z; cases z))]
    exact e
  refine ⟨fun b o e nb => ?_, ⟨x, y, z, by rw [upd_ne (Ne.symm ne)]; exact wl⟩, new, ne, xs ++ [.ref t], ps ++ [(u, v)], upd_same, Paired.snoc' (PrsAt.mono kt h2) ⟨t, rfl, kt _ _ ht⟩, fun q hq => ?_, by simp; omega⟩
  · rw [upd_ne (ne_of_none e new)]
    exact kp b o e nb
  · rcases List.mem_append.mp hq with h | h
    · exact h3 q h
    · rw [List.mem_singleton] at h
      subst h
      exact ⟨hu, hv⟩
/-- a list of such pairs takes its place -/
theorem Drawn.put (d : Drawn a n H H2 p b) {q : Addr} {b' : Nat} (hq : H q = none) (hqa : q ≠ a) {ys : List V} {ps : List Pr} (e : H2 q = some (.lst ys)) (h : PrsAt H2 ys ps) (hb : Below n ps) (hl : ps.length ≤ b') : Drawn a n H H2 q b' :=
  ⟨d.kp, d.well, hq, hqa, ys, ps, e, h, hb, hl⟩
end
theorem cut_from (xs : List V) (k : Nat) : cutV xs (some (k : Int)) none = xs.drop k := by
  unfold cutV
  have e1 : HT.sIx xs.length 0 (some (k : Int)) = min k xs.length := by
    show (if (k : Int) < 0 then ((k : Int) + (xs.length : Int)).toNat else min (k : Int).toNat xs.length) = _
    rw [if_neg (by omega)]
    simp
  have e2 : HT.sIx xs.length xs.length none = xs.length := rfl
  rw [e1, e2]
  by_cases h : k ≤ xs.length
  · rw [Nat.min_eq_left h, List.take_of_length_le (by simp)]
  · rw [Nat.min_eq_right (by omega), List.drop_of_length_le (Nat.le_refl _), List.drop_of_length_le (by omega)]
    simp
theorem cut_to (xs : List V) (k : Nat) : cutV xs none (some (k : Int)) = xs.take k := by
  unfold cutV
  have e1 : HT.sIx xs.length xs.length (some (k : Int)) = min k xs.length := by
    show (if (k : Int) < 0 then ((k : Int) + (xs.length : Int)).toNat else min (k : Int).toNat xs.length) = _
    rw [if_neg (by omega)]
    simp
  have e2 : HT.sIx xs.length 0 none = 0 := rfl
  rw [e1, e2, List.drop_zero, Nat.sub_zero]
  by_cases h : k ≤ xs.length
  · rw [Nat.min_eq_left h]
  · rw [Nat.min_eq_right (by omega), List.take_length, List.take_of_length_le (by omega)]
theorem cut_last (xs : List V) : cutV xs (some (-1)) none = xs.drop (xs.length - 1) := by
  unfold cutV
  have e1 : HT.sIx xs.length 0 (some (-1)) = xs.length - 1 := by
    show (if (-1 : Int) < 0 then ((-1 : Int) + (xs.length : Int)).toNat else min (-1 : Int).toNat xs.length) = _
    rw [if_pos (by decide)]
    omega
  have e2 : HT.sIx xs.length xs.length none = xs.length := rfl
  rw [e1, e2, List.take_of_length_le (by simp)]
theorem Below.sub {n : Nat} {ps qs : List Pr} (h : Below n ps) (s : ∀ p ∈ qs, p ∈ ps) : Below n qs := fun p hp => h p (s p hp)
theorem Below.app {n : Nat} {ps qs : List Pr} (h : Below n ps) (s : Below n qs) : Below n (ps ++ qs) := fun p hp => (List.mem_append.mp hp).elim (h p) (s p)
theorem prs_cut {H : Hp} {xs : List V} {ps : List Pr} (h : PrsAt H xs ps) (j : Nat) : PrsAt H (cutV xs (some (j : Int)) none ++ cutV xs none (some (j : Int))) (ps.drop j ++ ps.take j) := by
  rw [cut_from, cut_to]
  exact Paired.app (Paired.drop' h j) (Paired.take' h j)
abbrev scPC : Scope := { kind := .function, names := [(PySem.Str.ofString ".0", .local), (PySem.Str.ofString "_law_other", .local), (PySem.Str.ofString "_law_one", .local)], isGenerator := false, isCoroutine := false, more := [] }
theorem ndPC : (["_law_other", "_law_one"] : List Str).Nodup := by decide +kernel
abbrev NP : List Str := ["_law_well_here", "_law_many", "_law_pairs_here", "_law_way", "_law_k", "_law_one", "_law_other", "_law_turn", "_law_at"]
theorem scP : FnScope NP ["_law_well_here", "_law_many"] (defScope sPairs) := ⟨rfl, rfl, rfl, by decide +kernel, rfl, by decide +kernel, by decide +kernel⟩
section
variable {P : Program} {w : World} {K : PySem.W.Frag} {mg : Str → Option Value} {base : Heap}
abbrev XP (P : Program) (w : World) (K : PySem.W.Frag) (mg : Str → Option Value) (base : Heap) (f : Addr) (cdv : Value) (A : Around) (outer : List Env) (s : Shared) (H : Hp) (E : XK) : Cx := (cxOf CX0 P w K mg base NP "_law_pairs" (defScope sPairs) f cdv A outer s H E).nox
theorem csP {f : Addr} {cdv : Value} {A : Around} {outer : List Env} {s : Shared} {H : Hp} {E : XK} : ∃ cl, CompScope (XP P w K mg base f cdv A outer s H E) scPC [] cl :=
  comp_scope (fun x h => cell_has h) rfl (by decide +kernel) (by decide +kernel) (show ∀ y ∈ scPC.names, y.2 = .free → (defScope sPairs).names.lookup y.1 = some .cell by decide +kernel) (fun p hp => by cases hp)
/-- the last two statements -/
theorem pairs_end {f f1 : Addr} {fd1 : FuncData} {cdv : Value} {A : Around} {outer : List Env} {s : Shared} {H : Hp} {E : XK} (G1 : FnOk P w K mg base CX0 3 f1 fd1 ["_law_well_here", "_law_most"] spDraw) (m1 : mg "_law_draw" = some (.ref f1)) (k1 : PySem.W.keepIn K (.ref f1) = true)
    (b1 : Binds K fd1 ["_law_well_here", "_law_most"] []) (T : Txt K mg) (hr : Room 3 (XP P w K mg base f cdv A outer s H E).A) :
    ∃ t, PSs (XP P w K mg base f cdv A outer s H E) ((defBody sPairs).drop 7) t ∧ ∀ (nx : L2.St → Hp → Prop) (Q : VK) (H2 : Hp) (a p : Addr) (n : Nat) (v3 v4 v5 v6 v7 : Option V), Drawn a n H H2 p 990 →
      (∀ (p : Addr) (xs : List V) (ps : List Pr) (H' : Hp), Kp a H H' → WellAt H' a → H p = none → H' p = some (.lst xs) → PrsAt H' xs ps → Below n ps → ps.length ≤ 1000 → Q (.ref p) H') →
      t { nx := nx, rt := Q } [some (.ref a), some (natV n), some (.ref p), v3, v4, v5, v6, v7, none] H2 := by
  refine ⟨_, pss_cons (ps_set (i := 8) scP.nd rfl (Or.inl rfl) (pe_call G1 hr rfl m1 k1 b1 .nil pass0 (pa_cons (pv 0) (pa_cons (pe_op op_add (pe_callB call_len_seq (by rfl) T.len PySem.boot_len (pa_cons (pv 2) pa_nil)) pe_int) pa_nil))))
    (pss_one (ps_ret (pe_op op_cat (pe_slice sl_list (pv 2) (po_some (pv 8)) po_none) (pe_slice sl_list (pv 2) po_none (po_some (pv 8)))))), ?_⟩
  intro nx Q H2 a p n v3 v4 v5 v6 v7 d q
  obtain ⟨xs, ps, h1, h2, h3, h4⟩ := d.has
  have hlen := Paired.length h2
  refine ⟨_, rfl, _, rfl, p, _, rfl, .inl (SqL.of h1), _, _, rfl, rfl, a, _, rfl, d.well, by omega, by omega, fun j H3 hj kp3 w3 => ?_⟩
  have d3 := d.draw kp3 w3
  have h1' := kp3 _ _ h1 d.ne
  refine ⟨_, rfl, _, rfl, _, rfl, p, _, rfl, SqL.of h1', fun q1 hq1 => ?_⟩
  have s1 : Same H3 (upd H3 q1 (.lst (cutV xs (some (j : Int)) none))) := sameNew hq1
  refine ⟨_, rfl, _, rfl, _, rfl, p, _, rfl, SqL.of (s1 _ _ h1'), fun q2 hq2 => ?_⟩
  have s2 : Same _ (upd (upd H3 q1 (.lst (cutV xs (some (j : Int)) none))) q2 (.lst (cutV xs none (some (j : Int))))) := sameNew hq2
  refine ⟨q1, q2, _, _, rfl, rfl, s2 _ _ upd_same, upd_same, ?_, fun q3 hq3 => ?_⟩
  · have e1 := cutV_length xs (some (j : Int)) none
    have e2 := cutV_length xs none (some (j : Int))
    have := small (n := 2000) (by decide)
    omega
  · have s3 : Same _ (upd (upd (upd H3 q1 (.lst (cutV xs (some (j : Int)) none))) q2 (.lst (cutV xs none (some (j : Int))))) q3 (.lst (cutV xs (some (j : Int)) none ++ cutV xs none (some (j : Int))))) := sameNew hq3
    have s123 := s1.trans (s2.trans s3)
    have d4 := d3.same s123
    have hq3' : H q3 = none := by
      cases hh : H q3 with
      | none => rfl
      | some o =>
        exfalso
        by_cases e : q3 = a
        · subst e
          obtain ⟨x, y, z, ew⟩ := d3.well
          rw [(s1.trans s2) _ _ ew] at hq3
          cases hq3
        · rw [(s1.trans s2) _ _ (d3.kp _ _ hh e)] at hq3
          cases hq3
    have pr : PrsAt H3 xs ps := by
      obtain ⟨xs', ps', g1, g2, _⟩ := d3.has
      exact PrsAt.mono (fun b ys e => kp3.tup d.well e) h2
    have pr' := PrsAt.mono (fun b ys e => s123 _ _ e) pr
    refine q q3 (cutV xs (some (j : Int)) none ++ cutV xs none (some (j : Int))) (ps.drop j ++ ps.take j) _ d4.kp d4.well hq3' upd_same ?_ ?_ ?_
    · exact prs_cut pr' j
    · exact Below.app (Below.sub h3 fun p hp => List.mem_of_mem_drop hp) (Below.sub h3 fun p hp => List.mem_of_mem_take hp)
    · simp
      omega
end
end K5
namespace K5
open PySem PyProof.Rows L2 G4
def loopBody (s : Stmt) : List Stmt := match s with
  | .For _ _ b _ _ => b
  | .While _ b _ _ => b
  | .If _ b _ _ => b
  | _ => []
theorem Drawn.fresh {a p q : Addr} {n b : Nat} {H H2 : Hp} (d : Drawn a n H H2 p b) (hq : H2 q = none) : H q = none ∧ q ≠ a := by
  have hqa : q ≠ a := by
    rintro rfl
    obtain ⟨x, y, z, ew⟩ := d.well
    rw [ew] at hq
    cases hq
  refine ⟨?_, hqa⟩
  cases hh : H q with
  | none => rfl
  | some o => rw [d.kp _ _ hh hqa] at hq; cases hq
def ContP (a : Addr) (n : Nat) (H : Hp) (Q : VK) : Prop := ∀ (p : Addr) (xs : List V) (ps : List Pr) (H' : Hp), Kp a H H' → WellAt H' a → H p = none → H' p = some (.lst xs) → PrsAt H' xs ps → Below n ps → ps.length ≤ 1000 → Q (.ref p) H'
section
variable {P : Program} {w : World} {K : PySem.W.Frag} {mg : Str → Option Value} {base : Heap}
theorem pairs_6 {f f1 : Addr} {fd1 : FuncData} {cdv : Value} {A : Around} {outer : List Env} {s : Shared} {H : Hp} {E : XK} (G1 : FnOk P w K mg base CX0 3 f1 fd1 ["_law_well_here", "_law_most"] spDraw) (m1 : mg "_law_draw" = some (.ref f1)) (k1 : PySem.W.keepIn K (.ref f1) = true)
    (b1 : Binds K fd1 ["_law_well_here", "_law_most"] []) (T : Txt K mg) (hr : Room 3 (XP P w K mg base f cdv A outer s H E).A) :
    ∃ t, PSs (XP P w K mg base f cdv A outer s H E) ((defBody sPairs).drop 6) t ∧ ∀ (nx : L2.St → Hp → Prop) (Q : VK) (H2 : Hp) (a p : Addr) (n : Nat) (v3 v4 v5 v6 : Option V) (u : Nat), Drawn a n H H2 p 900 → n ≤ 60 → ContP a n H Q →
      t { nx := nx, rt := Q } [some (.ref a), some (natV n), some (.ref p), v3, v4, v5, v6, some (natV u), none] H2 := by
  obtain ⟨t7, h7, r7⟩ := pairs_end (f := f) (cdv := cdv) (A := A) (outer := outer) (s := s) (H := H) (E := E) G1 m1 k1 b1 T hr
  refine ⟨_, pss_cons (ps_if (PW.pt (pw_and (pt_cmpR op_eq (pv 7) pe_int (nomark _)) (pw_and1 (pt_cmpR op_gt (pv 1) pe_int (nomark _)))))
    (pss_one (ps_expr (pe_bm PySem.F.plainAttrs_list PySem.F.slot_list_append PySem.F.type_list_append mt_append (pv 2) (pa_cons (pe_tup (pa_cons (pe_call G1 hr rfl m1 k1 b1 .nil pass0 (pa_cons (pv 0) (pa_cons (pv 1) pa_nil))) (pa_cons (pe_call G1 hr rfl m1 k1 b1 .nil pass0 (pa_cons (pv 0) (pa_cons (pv 1) pa_nil))) pa_nil))) pa_nil)))) pss_nil) h7, ?_⟩
  intro nx Q H2 a p n v3 v4 v5 v6 u d hn q
  refine ⟨_, rfl, rfl, _, rfl, ?_⟩
  refine ite2 (fun _ => ?_) (fun _ => iteF (r7 _ Q H2 a p n v3 v4 v5 v6 _ (d.le (by decide)) q))
  refine ⟨_, rfl, _, _, rfl, rfl, _, rfl, ?_⟩
  refine ite2 (fun h0 => ?_) (fun _ => r7 _ Q H2 a p n v3 v4 v5 v6 _ (d.le (by decide)) q)
  have hn0 : (0 : Int) < n := of_decide_eq_true h0
  obtain ⟨xs, ps, h1, _⟩ := d.has
  refine ⟨_, rfl, .inl ⟨rfl, _, SqL.of h1⟩, ?_⟩
  refine ⟨_, rfl, _, rfl, a, _, rfl, d.well, hn0, by omega, fun i H3 hi kp3 w3 => ?_⟩
  have d3 := d.draw kp3 w3
  refine ⟨_, rfl, _, rfl, a, _, rfl, d3.well, hn0, by omega, fun j H4 hj kp4 w4 => ?_⟩
  have d4 := d3.draw kp4 w4
  refine ⟨(by show 2 ≤ sizeLine; decide), fun t ht => ?_⟩
  have d5 := d4.same (sameNew (o := .tup [natV i, natV j]) ht)
  obtain ⟨ys, qs, g1, g2, _, g4⟩ := d5.has
  have hl := Paired.length g2
  refine ⟨p, _, _, rfl, rfl, g1, small (by omega), ?_⟩
  exact r7 _ Q _ a p n v3 v4 v5 v6 _ ((d5.app (by omega) (by omega) upd_same g1).le (by decide)) q
theorem pairs_5 {f f1 : Addr} {fd1 : FuncData} {cdv : Value} {A : Around} {outer : List Env} {s : Shared} {H : Hp} {E : XK} (G1 : FnOk P w K mg base CX0 3 f1 fd1 ["_law_well_here", "_law_most"] spDraw) (m1 : mg "_law_draw" = some (.ref f1)) (k1 : PySem.W.keepIn K (.ref f1) = true)
    (b1 : Binds K fd1 ["_law_well_here", "_law_most"] []) (T : Txt K mg) (hr : Room 3 (XP P w K mg base f cdv A outer s H E).A) :
    ∃ t, PSs (XP P w K mg base f cdv A outer s H E) ((defBody sPairs).drop 5) t ∧ ∀ (nx : L2.St → Hp → Prop) (Q : VK) (H2 : Hp) (a p : Addr) (n : Nat) (v3 v4 v5 v6 : Option V) (u : Nat), Drawn a n H H2 p 800 → n ≤ 60 → ContP a n H Q →
      t { nx := nx, rt := Q } [some (.ref a), some (natV n), some (.ref p), v3, v4, v5, v6, some (natV u), none] H2 := by
  obtain ⟨t7, h7, r7⟩ := pairs_6 (f := f) (cdv := cdv) (A := A) (outer := outer) (s := s) (H := H) (E := E) G1 m1 k1 b1 T hr
  obtain ⟨cl, S⟩ := csP (P := P) (w := w) (K := K) (mg := mg) (base := base) (f := f) (cdv := cdv) (A := A) (outer := outer) (s := s) (H := H) (E := E)
  refine ⟨_, pss_cons (ps_if (PW.pt (pw_and (pt_cmpR op_eq (pv 7) pe_int (nomark _)) (pw_and1 (pt_cmpR op_gt (pv 1) pe_int (nomark _)))))
    (pss_one (ps_set (i := 2) scP.nd rfl (Or.inl rfl) (pe_op op_cat
      (pe_comp (own := ["_law_other", "_law_one"]) (g := gPair K 0 1) S rfl (pi_list (pv 2))
        (fun C s2 H2 fp => pg_tup rfl (pgs_cons (pg_name (i := 0) ndPC rfl (Or.inl rfl) (Or.inr rfl)) (pgs_cons (pg_name (i := 1) ndPC rfl (Or.inl rfl) (Or.inr rfl)) pgs_nil)))
        (fun C s2 H2 fp => pe_tup (pa_cons (pv 1) (pa_cons (pv 0) pa_nil))))
      (pe_lst (pa_cons (pe_tup (pa_cons pe_int (pa_cons (pe_call G1 hr rfl m1 k1 b1 .nil pass0 (pa_cons (pv 0) (pa_cons (pv 1) pa_nil))) pa_nil))) pa_nil))))) pss_nil) h7, ?_⟩
  intro nx Q H2 a p n v3 v4 v5 v6 u d hn q
  refine ⟨_, rfl, rfl, _, rfl, ?_⟩
  refine ite2 (fun _ => ?_) (fun _ => iteF (r7 _ Q H2 a p n v3 v4 v5 v6 _ (d.le (by decide)) hn q))
  refine ⟨_, rfl, _, _, rfl, rfl, _, rfl, ?_⟩
  refine ite2 (fun h0 => ?_) (fun _ => r7 _ Q H2 a p n v3 v4 v5 v6 _ (d.le (by decide)) hn q)
  have hn0 : (0 : Int) < n := of_decide_eq_true h0
  obtain ⟨xs, ps, h1, h2, h3, h4⟩ := d.has
  have hlen := Paired.length h2
  refine ⟨_, rfl, p, rfl, ⟨_, SqL.of h1⟩, fun D hD => ?_⟩
  refine comp_listG (K := K) (a := p) (D := D) (xs := xs) (fun i acc σc H3 => (∃ v0 v1, σc = [v0, v1]) ∧ Same H2 H3 ∧ H3 D = some (.lst acc) ∧ PrsAt H3 acc ((ps.take i).map fun q => (q.2, q.1)))
    ⟨⟨none, none, rfl⟩, sameNew hD, upd_same, .nil⟩ (fun i acc σc H3 _ ⟨_, s3, _⟩ => SqL.of (s3 _ _ h1)) ?_ ?_
  · rintro i x acc σc H3 hi hx ⟨⟨v0, v1, rfl⟩, s3, hD3, pr⟩
    obtain ⟨pq, hpq, t, rfl, ht⟩ := Paired.get h2 hx
    refine ⟨t, _, rfl, SqT.of (s3 _ _ ht), rfl, _, _, rfl, _, _, rfl, rfl, ?_⟩
    refine ⟨_, rfl, _, rfl, (by show 2 ≤ sizeLine; decide), fun t2 ht2 => ?_⟩
    have s4 : Same H3 (upd H3 t2 (.tup [natV pq.2, natV pq.1])) := sameNew ht2
    have hl3 := Paired.length pr
    rw [List.length_map, List.length_take] at hl3
    have hD4 := s4 _ _ hD3
    refine cturn hD4 (small (by omega)) hi ?_
    have kt : ∀ b ys, (upd H3 t2 (.tup [natV pq.2, natV pq.1])) b = some (.tup ys) → (upd (upd H3 t2 (.tup [natV pq.2, natV pq.1])) D (.lst (acc ++ [.ref t2]))) b = some (.tup ys) := fun b ys e => by
      rw [upd_ne (ne_of e hD4 (by intro z; cases z))]
      exact e
    refine ⟨⟨_, _, rfl⟩, sameUpd hD (s3.trans s4), upd_same, ?_⟩
    rw [List.take_succ, hpq, List.map_append]
    exact Paired.snoc' (PrsAt.mono (fun b ys e => kt b ys (s4 _ _ e)) pr) ⟨t2, rfl, kt _ _ upd_same⟩
  · rintro acc σc H3 ⟨_, s3, hD3, pr⟩
    rw [hlen, List.take_length] at pr
    have d3 := d.same s3
    refine ⟨_, rfl, _, rfl, a, _, rfl, d3.well, hn0, by omega, fun j H4 hj kp4 w4 => ?_⟩
    have d4 := d3.draw kp4 w4
    refine ⟨(by show 2 ≤ sizeLine; decide), fun t ht => ?_⟩
    have d5 := d4.same (sameNew (o := .tup [natV 0, natV j]) ht)
    refine ⟨(by show 1 ≤ sizeLine; decide), fun l hl => ?_⟩
    have s6 : Same _ (upd (upd H4 t (.tup [natV 0, natV j])) l (.lst [.ref t])) := sameNew hl
    have d6 := d5.same s6
    have hDa : D ≠ a := (d.fresh hD).2
    have hD6 := s6 _ _ (sameNew (o := .tup [natV 0, natV j]) ht _ _ (kp4 _ _ hD3 hDa))
    have pr6 := PrsAt.mono (fun b ys e => s6 _ _ (sameNew (o := .tup [natV 0, natV j]) ht _ _ (kp4.tup d3.well e))) pr
    have e1 := Paired.length pr
    rw [List.length_map] at e1
    refine ⟨D, l, _, _, rfl, rfl, hD6, upd_same, ?_, fun r hr7 => ?_⟩
    · have := small (n := 900) (by decide)
      show acc.length + 1 ≤ sizeLine
      omega
    · have s7 : Same _ (upd (upd (upd H4 t (.tup [natV 0, natV j])) l (.lst [.ref t])) r (.lst (acc ++ [.ref t]))) := sameNew hr7
      have fr := d6.fresh hr7
      have d7 := (d6.same s7).put fr.1 fr.2 upd_same (Paired.snoc' (PrsAt.mono (fun b ys e => s7 _ _ e) pr6) (y := (0, j)) ⟨t, rfl, s7 _ _ (s6 _ _ upd_same)⟩) (b' := 900) ?_ (by simp; omega)
      · exact r7 _ Q _ a r n v3 v4 v5 v6 _ d7 hn q
      · intro q hq
        rcases List.mem_append.mp hq with h | h
        · obtain ⟨q', hq', rfl⟩ := List.mem_map.mp h
          exact ⟨(h3 q' hq').2, (h3 q' hq').1⟩
        · rw [List.mem_singleton] at h
          subst h
          exact ⟨by show 0 < n; omega, by show j < n; omega⟩
theorem pairs_4 {f f1 : Addr} {fd1 : FuncData} {cdv : Value} {A : Around} {outer : List Env} {s : Shared} {H : Hp} {E : XK} (G1 : FnOk P w K mg base CX0 3 f1 fd1 ["_law_well_here", "_law_most"] spDraw) (m1 : mg "_law_draw" = some (.ref f1)) (k1 : PySem.W.keepIn K (.ref f1) = true)
    (b1 : Binds K fd1 ["_law_well_here", "_law_most"] []) (T : Txt K mg) (hr : Room 3 (XP P w K mg base f cdv A outer s H E).A) :
    ∃ t, PSs (XP P w K mg base f cdv A outer s H E) ((defBody sPairs).drop 3) t ∧ ∀ (nx : L2.St → Hp → Prop) (Q : VK) (H2 : Hp) (a p : Addr) (n : Nat) (v3 v4 v5 v6 v7 : Option V), Drawn a n H H2 p 700 → n ≤ 60 → ContP a n H Q →
      t { nx := nx, rt := Q } [some (.ref a), some (natV n), some (.ref p), v3, v4, v5, v6, v7, none] H2 := by
  obtain ⟨t7, h7, r7⟩ := pairs_5 (f := f) (cdv := cdv) (A := A) (outer := outer) (s := s) (H := H) (E := E) G1 m1 k1 b1 T hr
  refine ⟨_, pss_cons (ps_set (i := 7) scP.nd rfl (Or.inl rfl) (pe_call G1 hr rfl m1 k1 b1 .nil pass0 (pa_cons (pv 0) (pa_cons pe_int pa_nil))))
    (pss_cons (ps_if (PW.pt (pw_and (pt_cmpR op_eq (pv 7) pe_int (nomark _)) (pw_and1 (pt_cmpR op_gt (pv 1) pe_int (nomark _)))))
    (pss_one (ps_expr (pe_bm PySem.F.plainAttrs_list PySem.F.slot_list_append PySem.F.type_list_append mt_append (pv 2) (pa_cons (pe_tup (pa_cons (pe_call G1 hr rfl m1 k1 b1 .nil pass0 (pa_cons (pv 0) (pa_cons (pv 1) pa_nil))) (pa_cons (pe_op op_sub (pv 1) pe_int) pa_nil))) pa_nil)))) pss_nil) h7), ?_⟩
  intro nx Q H0 a p n v3 v4 v5 v6 v7 d0 hn q
  refine ⟨_, rfl, a, 5, rfl, d0.well, by decide, by decide, fun u H2 hu kp2 w2 => ?_⟩
  have d := d0.draw kp2 w2
  refine ⟨_, rfl, rfl, _, rfl, ?_⟩
  refine ite2 (fun _ => ?_) (fun _ => iteF (r7 _ Q H2 a p n v3 v4 v5 v6 _ (d.le (by decide)) hn q))
  refine ⟨_, rfl, _, _, rfl, rfl, _, rfl, ?_⟩
  refine ite2 (fun h0 => ?_) (fun _ => r7 _ Q H2 a p n v3 v4 v5 v6 _ (d.le (by decide)) hn q)
  have hn0 : (0 : Int) < n := of_decide_eq_true h0
  obtain ⟨xs, ps, h1, _⟩ := d.has
  refine ⟨_, rfl, .inl ⟨rfl, _, SqL.of h1⟩, ?_⟩
  refine ⟨_, rfl, _, rfl, a, _, rfl, d.well, hn0, by omega, fun i H3 hi kp3 w3 => ?_⟩
  have d3 := d.draw kp3 w3
  refine ⟨_, rfl, _, _, rfl, rfl, ?_⟩
  refine ⟨(by show 2 ≤ sizeLine; decide), fun t ht => ?_⟩
  have e1 : (V.int ((n : Int) - 1)) = natV (n - 1) := by show V.int _ = V.int _; congr 1; omega
  have d5 := d3.same (sameNew (o := .tup [natV i, V.int ((n : Int) - 1)]) ht)
  obtain ⟨ys, qs, g1, g2, _, g4⟩ := d5.has
  have hl := Paired.length g2
  refine ⟨p, _, _, rfl, rfl, g1, small (by omega), ?_⟩
  exact r7 _ Q _ a p n v3 v4 v5 v6 _ ((d5.app (u := i) (v := n - 1) (by omega) (by omega) (by rw [← e1]; exact upd_same) g1).le (by decide)) hn q
end
end K5
namespace K5
open PySem PyProof.Rows L2 G4
section
variable {P : Program} {w : World} {K : PySem.W.Frag} {mg : Str → Option Value} {base : Heap}
/-- the last one once more -/
theorem pairs_dup {f f1 : Addr} {fd1 : FuncData} {cdv : Value} {A : Around} {outer : List Env} {s : Shared} {H : Hp} {E : XK} (G1 : FnOk P w K mg base CX0 3 f1 fd1 ["_law_well_here", "_law_most"] spDraw) (m1 : mg "_law_draw" = some (.ref f1)) (k1 : PySem.W.keepIn K (.ref f1) = true)
    (b1 : Binds K fd1 ["_law_well_here", "_law_most"] []) (T : Txt K mg) (hr : Room 3 (XP P w K mg base f cdv A outer s H E).A) :
    ∃ t, PSs (XP P w K mg base f cdv A outer s H E) ((loopBody ((defBody sPairs).getD 2 (.Pass ⟨0, 0, 0, 0⟩))).drop 3) t ∧ ∀ (D : Ends) (H2 : Hp) (a p : Addr) (n b : Nat) (v3 v4 v5 v6 : Option V), Drawn a n H H2 p b → b ≤ 600 →
      (∀ p' H', Drawn a n H H' p' (b + 1) → D.nx [some (.ref a), some (natV n), some (.ref p'), v3, v4, v5, v6, none, none] H') → t D [some (.ref a), some (natV n), some (.ref p), v3, v4, v5, v6, none, none] H2 := by
  refine ⟨_, pss_one (ps_if (pt_cmpR op_eq (pe_call G1 hr rfl m1 k1 b1 .nil pass0 (pa_cons (pv 0) (pa_cons pe_int pa_nil))) pe_int (nomark _))
    (pss_one (ps_set (i := 2) scP.nd rfl (Or.inl rfl) (pe_op op_cat (pv 2) (pe_slice sl_list (pv 2) (po_some (pe_un un_neg pe_int)) po_none)))) pss_nil), ?_⟩
  intro D H0 a p n b v3 v4 v5 v6 d0 hb q
  refine ⟨_, rfl, a, 12, rfl, d0.well, by decide, by decide, fun u H2 hu kp2 w2 => ?_⟩
  have d := d0.draw kp2 w2
  refine ⟨rfl, _, rfl, ?_⟩
  refine ite2 (fun _ => ?_) (fun _ => q p H2 (d.le (by omega)))
  obtain ⟨xs, ps, h1, h2, h3, h4⟩ := d.has
  have hlen := Paired.length h2
  refine ⟨_, rfl, _, rfl, _, rfl, _, rfl, p, _, rfl, SqL.of h1, fun r hr2 => ?_⟩
  have s1 : Same H2 (upd H2 r (.lst (cutV xs (some (-1)) none))) := sameNew hr2
  refine ⟨p, r, _, _, rfl, rfl, s1 _ _ h1, upd_same, ?_, fun r2 hr3 => ?_⟩
  · have := small (n := 2000) (by decide)
    have := cutV_length xs (some (-1)) none
    omega
  · have s2 : Same _ (upd (upd H2 r (.lst (cutV xs (some (-1)) none))) r2 (.lst (xs ++ cutV xs (some (-1)) none))) := sameNew hr3
    have d2 := d.same (s1.trans s2)
    have fr := (d.same s1).fresh hr3
    have pr := PrsAt.mono (fun b ys e => (s1.trans s2) _ _ e) h2
    refine q r2 _ (d2.put (ps := ps ++ ps.drop (ps.length - 1)) fr.1 fr.2 upd_same ?_ (Below.app h3 (Below.sub h3 fun p hp => List.mem_of_mem_drop hp)) (by simp; omega))
    have e := cut_last xs
    refine Paired.app pr ?_
    generalize upd (upd H2 r (.lst (cutV xs (some (-1)) none))) r2 (.lst (xs ++ cutV xs (some (-1)) none)) = Hx at pr
    rw [e, hlen]
    exact Paired.drop' pr _
theorem ok_pairs {f f1 : Addr} {fd fd1 : FuncData} (F : Fun K "_law_pairs" "_law_pairs" sPairs f fd) (G1 : FnOk P w K mg base CX0 3 f1 fd1 ["_law_well_here", "_law_most"] spDraw) (m1 : mg "_law_draw" = some (.ref f1)) (k1 : PySem.W.keepIn K (.ref f1) = true)
    (b1 : Binds K fd1 ["_law_well_here", "_law_most"] []) (T : Txt K mg) : FnOk P w K mg base CX0 4 f fd ["_law_well_here", "_law_many"] spPairs := by
  refine F.ok scP (fun vs H Q E h => ?_) (fun cdv A outer s H vs Q E hr h => ?_)
  · obtain ⟨a, n, rfl, _⟩ := h
    rfl
  · obtain ⟨a, n, rfl, ha, hn, q⟩ := h
    obtain ⟨t3, h3, r3⟩ := pairs_4 (f := f) (cdv := cdv) (A := A) (outer := outer) (s := s) (H := H) (E := E) G1 m1 k1 b1 T hr
    obtain ⟨td, hd, rd⟩ := pairs_dup (f := f) (cdv := cdv) (A := A) (outer := outer) (s := s) (H := H) (E := E) G1 m1 k1 b1 T hr
    refine ⟨_, pss_cons (ps_set (i := 2) scP.nd rfl (Or.inl rfl) (pe_lst pa_nil))
      (pss_cons (ps_set (i := 3) scP.nd rfl (Or.inl rfl) (pe_call G1 hr rfl m1 k1 b1 .nil pass0 (pa_cons (pv 0) (pa_cons pe_int pa_nil))))
      (pss_cons (ps_for PassesOwn.never rfl (pi_range1 rfl T.range (pa_cons (pe_op op_mul
          (pe_call G1 hr rfl m1 k1 b1 .nil pass0 (pa_cons (pv 0) (pa_cons (pe_ix ix_list (pe_lst (pa_cons pe_int (pa_cons pe_int (pa_cons (pe_op op_add (pe_op op_mul pe_int (pv 1)) pe_int) (pa_cons (pe_op op_add (pe_op op_mul pe_int (pv 1)) pe_int) pa_nil))))) (pv 3) (fun _ _ => rfl)) pa_nil)))
          (pe_callTy call_int1 rfl T.int boot_int (pa_cons (pe_cmpR op_gt (pv 1) pe_int (nomark _)) pa_nil))) pa_nil)) (pg_name (i := 4) scP.nd rfl (Or.inl rfl))
        (pss_cons (ps_set (i := 5) scP.nd rfl (Or.inl rfl) (pe_call G1 hr rfl m1 k1 b1 .nil pass0 (pa_cons (pv 0) (pa_cons (pv 1) pa_nil))))
        (pss_cons (ps_set (i := 6) scP.nd rfl (Or.inl rfl) (pe_call G1 hr rfl m1 k1 b1 .nil pass0 (pa_cons (pv 0) (pa_cons (pv 1) pa_nil))))
        (pss_cons (ps_if (pt_cmpR op_ne (pv 5) (pv 6) (nomark _))
          (pss_one (ps_expr (pe_bm PySem.F.plainAttrs_list PySem.F.slot_list_append PySem.F.type_list_append mt_append (pv 2) (pa_cons (pe_tup (pa_cons (pe_callB (call_max2 rfl) rfl T.max boot_max (pa_cons (pv 5) (pa_cons (pv 6) pa_nil))) (pa_cons (pe_callB (call_min2 rfl) rfl T.min boot_min (pa_cons (pv 5) (pa_cons (pv 6) pa_nil))) pa_nil))) pa_nil)))) pss_nil)
          hd)))) h3)), ?_⟩
    refine ⟨Nat.zero_le _, fun p hp => ?_⟩
    have d0 : Drawn a n H (upd H p (.lst [])) p 0 := ⟨Kp.of (sameNew hp), ha.new hp, hp, ha.ne hp, [], [], upd_same, .nil, (fun q hq => (by cases hq)), Nat.le_refl _⟩
    refine ⟨_, rfl, a, 4, rfl, d0.well, by decide, by decide, fun way H1 hw kp1 w1 => ?_⟩
    have d1 := d0.draw kp1 w1
    refine ⟨_, rfl, _, rfl, _, _, rfl, rfl, .inl ⟨by decide, by decide⟩, _, _, rfl, rfl, _, rfl, _, _, rfl, rfl, .inl ⟨by decide, by decide⟩, _, _, rfl, rfl, (by show 4 ≤ sizeLine; decide), fun l hl => ?_⟩
    have s2 : Same H1 (upd H1 l (.lst [.int 3, .int 12, .int (2 * (n : Int) + 2), .int (4 * (n : Int) + 2)])) := sameNew hl
    have d2 := d1.same s2
    obtain ⟨m, hm, hm1, hm2⟩ : ∃ m : Int, atI [V.int 3, V.int 12, V.int (2 * (n : Int) + 2), V.int (4 * (n : Int) + 2)] (way : Int) = some (.int m) ∧ 0 < m ∧ m ≤ 242 := by
      have hw' : way = 0 ∨ way = 1 ∨ way = 2 ∨ way = 3 := by omega
      rcases hw' with rfl | rfl | rfl | rfl
      · exact ⟨3, rfl, by decide, by decide⟩
      · exact ⟨12, rfl, by decide, by decide⟩
      · exact ⟨2 * (n : Int) + 2, rfl, by omega, by omega⟩
      · exact ⟨4 * (n : Int) + 2, rfl, by omega, by omega⟩
    refine ⟨_, rfl, l, _, _, _, rfl, rfl, SqL.of upd_same, hm, a, m, rfl, d2.well, hm1, by omega, fun cnt H2 hc kp2 w2 => ?_⟩
    have d3 := d2.draw kp2 w2
    refine ⟨_, rfl, _, _, rfl, rfl, .inr ⟨_, rfl, ?_⟩⟩
    refine ⟨_, _, rfl, rfl, .inl ⟨by omega, by omega⟩, ?_⟩
    obtain ⟨c, hc1, hc2, hc3⟩ : ∃ c : Nat, ((cnt : Int) * (if decide ((0 : Int) < n) = true then 1 else 0)) = c ∧ c ≤ 242 ∧ (0 < c → 0 < n) := by
      by_cases h : (0 : Int) < n
      · rw [decide_eq_true h]
        exact ⟨cnt, by simp, by omega, fun _ => by omega⟩
      · rw [decide_eq_false h]
        exact ⟨0, by simp, by decide, fun z => absurd z (by decide)⟩
    refine ⟨c, by rw [← hc1], by omega, by omega, ?_⟩
    refine for_range (lo := 0) (n := (c : Int).toNat) (fun i σ H4 => ∃ (p' : Addr) (v4 v5 v6 : Option V), σ = [some (.ref a), some (natV n), some (.ref p'), some (natV way), v4, v5, v6, none, none] ∧ Drawn a n H H4 p' (2 * i))
      ⟨p, none, none, none, rfl, d3⟩ ?_ ?_
    · rintro i σ H4 hi ⟨p', v4, v5, v6, rfl, d4⟩
      have hn0 : 0 < n := hc3 (by omega)
      refine ⟨_, rfl, _, rfl, a, _, rfl, d4.well, by omega, by omega, fun x H5 hx kp5 w5 => ?_⟩
      have d5 := d4.draw kp5 w5
      refine ⟨_, rfl, _, rfl, a, _, rfl, d5.well, by omega, by omega, fun y H6 hy kp6 w6 => ?_⟩
      have d6 := d5.draw kp6 w6
      refine ⟨_, rfl, _, rfl, rfl, _, rfl, ?_⟩
      refine ite2 (fun _ => ?_) (fun _ => rd _ H6 a p' n (2 * i + 1) _ _ _ _ (d6.le (by omega)) (by omega) fun p2 H' d' => ⟨p2, _, _, _, rfl, d'⟩)
      obtain ⟨ys, qs, g1, g2, _, g4⟩ := d6.has
      refine ⟨_, rfl, .inl ⟨rfl, _, SqL.of g1⟩, _, rfl, _, rfl, _, _, rfl, _, rfl, _, rfl, _, _, rfl, (by show 2 ≤ sizeLine; decide), fun t ht => ?_⟩
      have e1 : (if (y : Int) > (x : Int) then (y : Int) else x) = ((max x y : Nat) : Int) := by split <;> omega
      have e2 : (if (y : Int) < (x : Int) then (y : Int) else x) = ((min x y : Nat) : Int) := by split <;> omega
      have d7 := d6.same (sameNew (o := .tup [V.int (if (y : Int) > (x : Int) then (y : Int) else x), V.int (if (y : Int) < (x : Int) then (y : Int) else x)]) ht)
      obtain ⟨ys7, qs7, f1, f2, _, f4⟩ := d7.has
      have hl7 := Paired.length f2
      refine ⟨p', _, _, rfl, rfl, f1, small (by omega), ?_⟩
      have d8 := d7.app (u := max x y) (v := min x y) (by omega) (by omega) (by rw [upd_same, e1, e2]) f1
      exact rd _ _ a p' n (2 * i + 1) _ _ _ _ d8 (by omega) fun p2 H' d' => ⟨p2, _, _, _, rfl, d'⟩
    · rintro σ H4 ⟨p', v4, v5, v6, rfl, d4⟩
      exact r3 _ Q H4 a p' n _ _ _ _ _ (d4.le (by omega)) hn q
end
end K5
namespace K5
open PySem PyProof.Rows L2 G4
/-! ### dicts whose keys are numbers below n -/
structure DNat (n : Nat) (kvs : List (Key × V)) (ks : List Nat) (f : Nat → Option V) : Prop where
  keys : kvs.map (·.1) = ks.map fun k : Nat => (Sum.inl (k : Int) : Key)
  nd : ks.Nodup
  below : ∀ k ∈ ks, k < n
  val : ∀ k : Nat, valV kvs (Sum.inl (k : Int)) = f k
theorem keyNat {i j : Nat} (h : (Sum.inl (i : Int) : Key) = Sum.inl (j : Int)) : i = j := by
  have := Sum.inl.inj h
  omega
section
variable {n : Nat} {kvs : List (Key × V)} {ks : List Nat} {f : Nat → Option V}
theorem DNat.nil : DNat n [] [] fun _ => none := ⟨rfl, List.nodup_nil, fun k h => (by cases h), fun _ => rfl⟩
theorem DNat.len (h : DNat n kvs ks f) : kvs.length = ks.length ∧ ks.length ≤ n := by
  have e := congrArg List.length h.keys
  simp at e
  exact ⟨e, nodup_len n ks h.nd h.below⟩
theorem DNat.mem (h : DNat n kvs ks f) (k : Nat) : k ∈ ks ↔ f k ≠ none := by
  rw [← h.val]
  constructor
  · intro hk hn
    have := valV_not hn
    rw [h.keys] at this
    exact this (List.mem_map.mpr ⟨k, hk, rfl⟩)
  · intro hn
    cases e : valV kvs (Sum.inl (k : Int)) with
    | none => exact absurd e hn
    | some v =>
      have := valV_in e
      rw [h.keys] at this
      obtain ⟨j, hj, e2⟩ := List.mem_map.mp this
      rw [← keyNat e2]
      exact hj
theorem DNat.put (h : DNat n kvs ks f) {r : Nat} (hr : r < n) (v : V) : ∃ ks', DNat n (putK kvs (Sum.inl (r : Int)) v) ks' fun k => if k = r then some v else f k := by
  have hval : ∀ k : Nat, valV (putK kvs (Sum.inl (r : Int)) v) (Sum.inl (k : Int)) = if k = r then some v else f k := fun k => by
    rw [valV_put]
    by_cases e : k = r
    · subst e; rw [if_pos rfl, if_pos rfl]
    · rw [if_neg (fun z => e (keyNat z)), if_neg e, h.val]
  by_cases hk : (kvs.any fun kv => decide (kv.1 = (Sum.inl (r : Int) : Key))) = true
  · refine ⟨ks, ?_, h.nd, h.below, hval⟩
    unfold putK
    rw [if_pos hk, List.map_map, ← h.keys]
    refine List.map_congr_left fun kv _ => ?_
    show (if kv.1 = _ then (kv.1, v) else kv).1 = kv.1
    split <;> rfl
  · have hn : r ∉ ks := fun z => by
      apply hk
      have : (Sum.inl (r : Int) : Key) ∈ kvs.map (·.1) := by rw [h.keys]; exact List.mem_map.mpr ⟨r, z, rfl⟩
      obtain ⟨kv, hkv, e⟩ := List.mem_map.mp this
      exact List.any_eq_true.mpr ⟨kv, hkv, decide_eq_true e⟩
    refine ⟨ks ++ [r], ?_, ?_, fun k hk' => ?_, hval⟩
    · unfold putK
      rw [if_neg hk, List.map_append, List.map_append, h.keys]
      rfl
    · rw [List.nodup_append]
      refine ⟨h.nd, by simp, fun a ha b hb => ?_⟩
      rw [List.mem_singleton] at hb
      subst hb
      rintro rfl
      exact hn ha
    · rcases List.mem_append.mp hk' with z | z
      · exact h.below k z
      · rw [List.mem_singleton] at z; subst z; exact hr
theorem DNat.new (h : DNat n kvs ks f) {r : Nat} (hr : r < n) (v : V) (hf : f r = none) : ∃ ks', DNat n (putK kvs (Sum.inl (r : Int)) v) ks' (fun k => if k = r then some v else f k) ∧ ks'.length = ks.length + 1 := by
  obtain ⟨ks', h'⟩ := h.put hr v
  refine ⟨ks', h', ?_⟩
  have e := putK_new v ((h.val r).trans hf)
  have l1 := h'.len.1
  have l2 := h.len.1
  rw [e, List.length_append] at l1
  simp at l1
  omega
end
/-! ### what each one leads to -/
def nxOf (ps : List Pr) (n : Nat) : List (List Nat) := (List.range n).map fun u => (ps.filter fun p => decide (p.1 = u)).map (·.2)
def ListsAt (H : Hp) (as : List Addr) (ls : List (List Nat)) : Prop := Paired (fun b l => H b = some (.lst (nats l))) as ls
def NextsAt (H : Hp) (a : Addr) (ls : List (List Nat)) : Prop := ∃ as : List Addr, H a = some (.lst (as.map V.ref)) ∧ ListsAt H as ls
theorem nxOf_get {ps : List Pr} {n u : Nat} (h : u < n) : (nxOf ps n)[u]? = some ((ps.filter fun p => decide (p.1 = u)).map (·.2)) := by
  unfold nxOf
  rw [List.getElem?_map, List.getElem?_range h]
  rfl
theorem nx_mem {ps : List Pr} {u v : Nat} : v ∈ (ps.filter fun p => decide (p.1 = u)).map (·.2) ↔ (u, v) ∈ ps := by
  rw [List.mem_map]
  constructor
  · rintro ⟨p, hp, rfl⟩
    obtain ⟨h1, h2⟩ := List.mem_filter.mp hp
    have e : p.1 = u := of_decide_eq_true h2
    subst e
    exact h1
  · intro h
    exact ⟨(u, v), List.mem_filter.mpr ⟨h, decide_eq_true rfl⟩, rfl⟩
theorem nats_ints (l : List Nat) : nats l = (l.map fun k : Nat => (k : Int)).map V.int := by
  unfold nats
  rw [List.map_map]
  rfl
theorem get_nats {l : List Nat} {i : Nat} {x : V} (h : (nats l)[i]? = some x) : ∃ k, x = natV k ∧ l[i]? = some k := by
  rw [List.getElem?_map] at h
  cases e : l[i]? with
  | none => rw [e] at h; cases h
  | some n => rw [e] at h; exact ⟨n, (Option.some.inj h).symm, rfl⟩
/-- the way on: f tells who was met, r who is still to be gone on from, cur who is gone on from now, done what of it is done -/
structure Dfs (ps : List Pr) (n one : Nat) (f : Nat → Option V) (r : List Nat) (cur : Option Nat) (done : List Nat) : Prop where
  reach : ∀ k, f k ≠ none → Reach ps one k
  rows : ∀ u ∈ r, u < n ∧ (u = one ∨ f u ≠ none)
  at_ : ∀ u, cur = some u → u = one ∨ f u ≠ none
  here : ∀ v ∈ done, f v ≠ none
  closed : ∀ u, (u = one ∨ f u ≠ none) → u ∈ r ∨ cur = some u ∨ ∀ v, (u, v) ∈ ps → f v ≠ none
section
variable {ps : List Pr} {n one u v : Nat} {f : Nat → Option V} {r done : List Nat}
theorem Dfs.start (h : one < n) : Dfs ps n one (fun _ => none) [one] none [] :=
  ⟨fun k z => absurd rfl z, fun u hu => by rw [List.mem_singleton] at hu; subst hu; exact ⟨h, .inl rfl⟩, fun u z => (by cases z), fun v z => (by cases z), fun u hu => hu.elim (fun e => .inl (by simp [e])) (fun z => absurd rfl z)⟩
theorem Dfs.pop (d : Dfs ps n one f (r ++ [u]) none []) : Dfs ps n one f r (some u) [] := by
  refine ⟨d.reach, fun w hw => d.rows w (List.mem_append_left _ hw), fun w e => ?_, fun v z => (by cases z), fun w hw => ?_⟩
  · cases e
    exact (d.rows u (by simp)).2
  · rcases d.closed w hw with z | z | z
    · rcases List.mem_append.mp z with z | z
      · exact .inl z
      · rw [List.mem_singleton] at z; subst z; exact .inr (.inl rfl)
    · cases z
    · exact .inr (.inr z)
theorem Dfs.old (d : Dfs ps n one f r (some u) done) (h : f v ≠ none) : Dfs ps n one f r (some u) (done ++ [v]) :=
  ⟨d.reach, d.rows, d.at_, fun w hw => by
    rcases List.mem_append.mp hw with z | z
    · exact d.here w z
    · rw [List.mem_singleton] at z; subst z; exact h, d.closed⟩
theorem Dfs.met (d : Dfs ps n one f r (some u) done) (he : (u, v) ∈ ps) (hv : v < n) (x : V) : Dfs ps n one (fun k => if k = v then some x else f k) (r ++ [v]) (some u) (done ++ [v]) := by
  have up : ∀ w, f w ≠ none → (if w = v then some x else f w) ≠ none := fun w h => by split; exact fun z => (by cases z); exact h
  have at_ : (if v = v then some x else f v) ≠ none := by rw [if_pos rfl]; exact fun z => (by cases z)
  have cas : ∀ w, (if w = v then some x else f w) ≠ none → w = v ∨ f w ≠ none := fun w h => by
    by_cases e : w = v
    · exact .inl e
    · rw [if_neg e] at h; exact .inr h
  refine ⟨fun k hk => ?_, fun w hw => ?_, fun w e => (d.at_ w e).imp id (up w), fun w hw => ?_, fun w hw => ?_⟩
  · rcases cas k hk with e | e
    · subst e
      rcases d.at_ u rfl with e | e
      · subst e; exact .one he
      · exact .step (d.reach u e) he
    · exact d.reach k e
  · rcases List.mem_append.mp hw with z | z
    · exact ⟨(d.rows w z).1, (d.rows w z).2.imp id (up w)⟩
    · rw [List.mem_singleton] at z; subst z; exact ⟨hv, .inr at_⟩
  · rcases List.mem_append.mp hw with z | z
    · exact up w (d.here w z)
    · rw [List.mem_singleton] at z; subst z; exact at_
  · by_cases e : w = v
    · subst e; exact .inl (List.mem_append_right _ (by simp))
    · have hw' : w = one ∨ f w ≠ none := hw.imp id fun z => (cas w z).resolve_left e
      rcases d.closed w hw' with z | z | z
      · exact .inl (List.mem_append_left _ z)
      · exact .inr (.inl z)
      · exact .inr (.inr fun y hy => up y (z y hy))
theorem Dfs.turn (d : Dfs ps n one f r (some u) done) (h : ∀ v, (u, v) ∈ ps → v ∈ done) : Dfs ps n one f r none [] := by
  refine ⟨d.reach, d.rows, fun w e => (by cases e), fun v z => (by cases z), fun w hw => ?_⟩
  rcases d.closed w hw with z | z | z
  · exact .inl z
  · cases z
    exact .inr (.inr fun v hv => d.here v (h v hv))
  · exact .inr (.inr z)
theorem Dfs.end (d : Dfs ps n one f [] none []) (k : Nat) : f k ≠ none ↔ Reach ps one k := by
  refine ⟨d.reach k, fun h => ?_⟩
  induction h with
  | one h =>
    rcases d.closed _ (.inl rfl) with z | z | z
    · cases z
    · cases z
    · exact z _ h
  | step _ h ih =>
    rcases d.closed _ (.inr ih) with z | z | z
    · cases z
    · cases z
    · exact z _ h
end
end K5
namespace K5
open PySem PyProof.Rows L2 G4
theorem ifT {c : Bool} {a b : Prop} (h : c = true) (x : a) : if c = true then a else b := by rw [if_pos h]; exact x
theorem ifF {c : Bool} {a b : Prop} (h : c = false) (x : b) : if c = true then a else b := by rw [if_neg (by rw [h]; exact Bool.false_ne_true)]; exact x
theorem eqFs_nats (l m : List Nat) : eqFs ((l.map fun k : Nat => (k : Int)).map fun n => F1.fl (.int n)) ((m.map fun k : Nat => (k : Int)).map fun n => F1.fl (.int n)) = decide (l = m) := by
  rw [eqFs_ints]
  by_cases h : l = m
  · subst h; simp
  · rw [decide_eq_false h]
    refine decide_eq_false fun z => h ?_
    have : ∀ l m : List Nat, (l.map fun k : Nat => (k : Int)) = m.map (fun k : Nat => (k : Int)) → l = m := by
      intro l
      induction l with
      | nil => intro m h; cases m with | nil => rfl | cons _ _ => cases h
      | cons a l ih =>
        intro m h
        cases m with
        | nil => cases h
        | cons b m =>
          rw [List.map_cons, List.map_cons] at h
          obtain ⟨h1, h2⟩ := List.cons.inj h
          rw [ih m h2, show a = b by omega]
    exact this l m z
theorem den_nats {K : PySem.W.Frag} {H : Hp} (l : List Nat) : Den1s K H (nats l) ((l.map fun k : Nat => (k : Int)).map fun n => F1.fl (.int n)) := by
  rw [nats_ints]
  exact den_ints _
def spComes : Sp := fun vs H Q _ => ∃ (a : Addr) (one n : Nat) (ps : List Pr), vs = [.ref a, natV one] ∧ NextsAt H a (nxOf ps n) ∧ one < n ∧ n ≤ 60 ∧ Below n ps ∧
  ∀ (d : Addr) (kvs : List (Key × V)) (ks : List Nat) (f : Nat → Option V) (H' : Hp), Same H H' → H' d = some (.dK kvs) → DNat n kvs ks f → (∀ k, f k ≠ none ↔ Reach ps one k) → Q (.ref d) H'
theorem ListsAt.same {H H' : Hp} {as : List Addr} {ls : List (List Nat)} (h : ListsAt H as ls) (s : Same H H') : ListsAt H' as ls := Paired.mapP h fun _ _ e => s _ _ e
theorem dropLast_get {r : List Nat} (h : r ≠ []) : ∃ r' u, r = r' ++ [u] ∧ (nats r)[(nats r).length - 1]? = some (natV u) ∧ (nats r).dropLast = nats r' := by
  refine ⟨r.dropLast, r.getLast h, (List.dropLast_concat_getLast h).symm, ?_, ?_⟩
  · unfold nats
    rw [List.length_map, List.getElem?_map, ← List.getLast?_eq_getElem?, List.getLast?_eq_getLast h]
    rfl
  · unfold nats
    rw [List.map_dropLast]
section
variable {P : Program} {w : World} {K : PySem.W.Frag} {mg : Str → Option Value} {base : Heap}
theorem scC : FnScope ["_law_nexts", "_law_one", "_law_met", "_law_row", "_law_other"] ["_law_nexts", "_law_one"] (defScope sComes) := ⟨rfl, rfl, rfl, by decide +kernel, rfl, by decide +kernel, by decide +kernel⟩
theorem ok_comes {f : Addr} {fd : FuncData} (F : Fun K "_law_comes_to" "_law_comes_to" sComes f fd) : FnOk P w K mg base CX0 1 f fd ["_law_nexts", "_law_one"] spComes := by
  refine F.ok scC (fun vs H Q E h => ?_) (fun cdv A outer s H vs Q E hr h => ?_)
  · obtain ⟨a, one, n, ps, rfl, _⟩ := h
    rfl
  · obtain ⟨a, one, n, ps, rfl, ⟨as, ha, hls⟩, hone, hn, hb, q⟩ := h
    have hu := hu_of hr
    refine ⟨_, pss_cons (ps_set (i := 2) scC.nd rfl (Or.inl rfl) pe_dnewK)
      (pss_cons (ps_set (i := 3) scC.nd rfl (Or.inl rfl) (pe_lst (pa_cons (pv 1) pa_nil)))
      (pss_cons (ps_while PassesOwn.never (pt_cmpR (op_ne2 hu) (pv 3) (pe_lst pa_nil) (nomark _))
        (pss_one (ps_for PassesOwn.never rfl (pi_list (pe_ix ix_list (pv 0) (pe_bm0 PySem.F.plainAttrs_list PySem.F.slot_list_pop PySem.F.type_list_pop mt_pop (pv 3)) (fun _ _ => rfl))) (pg_name (i := 4) scC.nd rfl (Or.inl rfl))
          (pss_one (ps_if (pt_cmp (pc_dnotin hu (pv 4) (pv 2))) (pss_cons (ps_dput hu (pv 2) (pv 4) pe_bl rfl)
            (pss_one (ps_expr (pe_bm PySem.F.plainAttrs_list PySem.F.slot_list_append PySem.F.type_list_append mt_append (pv 3) (pa_cons (pv 4) pa_nil))))) pss_nil)))))
      (pss_one (ps_ret (pv 2))))), ?_⟩
    intro d hd
    refine ⟨_, rfl, (by show 1 ≤ sizeLine; decide), fun r hr0 => ?_⟩
    have s1 : Same H (upd H d (.dK [])) := sameNew hd
    have hrd : r ≠ d := Ne.symm (ne_of_none (H := upd H d (.dK [])) upd_same hr0)
    have hrn : H r = none := s1.free hr0
    refine ⟨fun m σ H2 => ∃ (kvs : List (Key × V)) (ks : List Nat) (g : Nat → Option V) (row : List Nat) (v4 : Option V), σ = [some (.ref a), some (natV one), some (.ref d), some (.ref r), v4] ∧ Same H H2 ∧ H2 d = some (.dK kvs) ∧ H2 r = some (.lst (nats row)) ∧ DNat n kvs ks g ∧
      Dfs ps n one g row none [] ∧ row.length ≤ 2 * ks.length + 1 ∧ 2 * (n - ks.length) + row.length = m, ⟨_, [], [], _, [one], none, rfl, s1.trans (sameNew hr0), ?_, upd_same, DNat.nil, Dfs.start hone, by simp, rfl⟩, ?_⟩
    · rw [upd_ne (Ne.symm hrd)]
      exact upd_same
    rintro m σ H2 ⟨kvs, ks, g, row, v4, rfl, s2, hd2, hr2, dn, df, hlr, hm⟩
    refine ⟨_, rfl, Nat.zero_le _, fun l hl => ?_⟩
    have s3 : Same H2 (upd H2 l (.lst [])) := sameNew hl
    refine ⟨r, l, nats row, nats [], _, _, rfl, rfl, .inr ⟨SqL.of (s3 _ _ hr2), SqL.of upd_same⟩, den_nats row, den_nats [], _, rfl, ?_⟩
    by_cases he : row = []
    · subst he
      refine ifF (by rw [eqFs_nats]; rfl) ?_
      exact ⟨_, rfl, q d kvs ks g _ (s2.trans s3) (s3 _ _ hd2) dn (fun k => df.end k)⟩
    · refine ifT (by show (!_) = true; rw [eqFs_nats, decide_eq_false he]; rfl) ?_
      obtain ⟨row', u, erow, hlast, hdl⟩ := dropLast_get he
      have hu' : u < n := (df.rows u (by rw [erow]; simp)).1
      refine ⟨fun σ' H' => ∃ m', m' < m ∧ _, fun _ _ z => z, ?_⟩
      have ha3 := (s2.trans s3) _ _ ha
      have hr3 := s3 _ _ hr2
      refine ⟨_, rfl, _, rfl, .inl ⟨rfl, _, SqL.of hr3⟩, r, _, _, rfl, rfl, hr3, hlast, ?_⟩
      rw [hdl]
      -- the list of u
      have hx : (nxOf ps n)[u]? = some ((ps.filter fun p => decide (p.1 = u)).map (·.2)) := nxOf_get hu'
      obtain ⟨b, hb1, hb2⟩ := L2.Paired.get2 hls hx
      have hbr : b ≠ r := ne_of_none hb2 hrn
      have hbd : b ≠ d := ne_of_none hb2 hd
      have har : a ≠ r := ne_of_none ha hrn
      have hga : (upd (upd H2 l (.lst [])) r (.lst (nats row'))) a = some (.lst (as.map V.ref)) := by rw [upd_ne har]; exact ha3
      refine ⟨a, _, _, _, rfl, rfl, SqL.of hga, atI_nat (show (as.map V.ref)[u]? = some (.ref b) by rw [List.getElem?_map, hb1]; rfl), ?_⟩
      have hbb : ∀ {H4 : Hp}, Same H H4 → SqL K H4 b (nats ((ps.filter fun p => decide (p.1 = u)).map (·.2))) := fun s4 => SqL.of (s4 _ _ hb2)
      have s4 : Same H (upd (upd H2 l (.lst [])) r (.lst (nats row'))) := sameUpd hrn (s2.trans s3)
      refine ⟨b, rfl, ⟨_, hbb s4⟩, ?_⟩
      have hdk : ks.length ≤ n := dn.len.2
      refine for_list (K := K) (a := b) (xs := nats ((ps.filter fun p => decide (p.1 = u)).map (·.2))) (fun i σ H5 => ∃ (kvs : List (Key × V)) (ks : List Nat) (g : Nat → Option V) (row : List Nat) (v4 : Option V), σ = [some (.ref a), some (natV one), some (.ref d), some (.ref r), v4] ∧ Same H H5 ∧ H5 d = some (.dK kvs) ∧ H5 r = some (.lst (nats row)) ∧ DNat n kvs ks g ∧
        Dfs ps n one g row (some u) (((ps.filter fun p => decide (p.1 = u)).map (·.2)).take i) ∧ row.length ≤ 2 * ks.length + 1 ∧ 2 * (n - ks.length) + row.length < m) ?_ (fun i σ H5 _ ⟨_, _, _, _, _, _, s5, _⟩ => hbb s5) ?_ ?_
      · refine ⟨kvs, ks, g, row', v4, rfl, s4, ?_, upd_same, dn, ?_, ?_, ?_⟩
        · rw [upd_ne (Ne.symm hrd)]
          exact s3 _ _ hd2
        · rw [List.take_zero]
          exact Dfs.pop (by rw [← erow]; exact df)
        · rw [erow] at hlr; simp at hlr; omega
        · rw [erow] at hm; simp at hm; omega
      · rintro i x σ H5 hi ⟨kvs5, ks5, g5, row5, v5, rfl, s5, hd5, hr5, dn5, df5, hl5, hm5⟩
        obtain ⟨v, rfl, hv⟩ := get_nats hi
        have hvm : (u, v) ∈ ps := nx_mem.mp (List.mem_of_getElem? hv)
        have hvn : v < n := (hb _ hvm).2
        have etk : ((ps.filter fun p => decide (p.1 = u)).map (·.2)).take (i + 1) = ((ps.filter fun p => decide (p.1 = u)).map (·.2)).take i ++ [v] := by
          rw [List.take_succ, hv]; rfl
        have hk5 := dn5.len
        refine ⟨_, rfl, _, rfl, d, _, rfl, DGet.k (k := Sum.inl (v : Int)) hd5, _, rfl, ?_⟩
        rw [dn5.val]
        cases hg : g5 v with
        | some z =>
          refine ifF rfl ?_
          refine ⟨kvs5, ks5, g5, row5, _, rfl, s5, hd5, hr5, dn5, ?_, hl5, hm5⟩
          rw [etk]
          exact df5.old (by rw [hg]; exact fun z => (by cases z))
        | none =>
          refine ifT rfl ?_
          obtain ⟨ks6, dn6, hks6⟩ := dn5.new hvn (.bl true) hg
          refine ⟨_, rfl, _, rfl, d, _, rfl, DPut.k (k := Sum.inl (v : Int)) hd5 (small (by omega)), ?_⟩
          have hr6 : (upd H5 d (.dK (putK kvs5 (Sum.inl (v : Int)) (.bl true)))) r = some (.lst (nats row5)) := by rw [upd_ne hrd]; exact hr5
          refine ⟨_, rfl, .inl ⟨rfl, _, SqL.of hr6⟩, _, rfl, r, _, _, rfl, rfl, hr6, small (by unfold nats; rw [List.length_map]; omega), ?_⟩
          have hk6 := dn6.len
          refine ⟨_, ks6, _, row5 ++ [v], _, rfl, sameUpd hrn (sameUpd hd s5), ?_, ?_, dn6, ?_, ?_, ?_⟩
          · rw [upd_ne (Ne.symm hrd)]
            exact upd_same
          · rw [upd_same]
            unfold nats
            rw [List.map_append]
            rfl
          · rw [etk]
            exact df5.met hvm hvn _
          · simp; omega
          · simp; omega
      · rintro σ H5 ⟨kvs5, ks5, g5, row5, v5, rfl, s5, hd5, hr5, dn5, df5, hl5, hm5⟩
        refine ⟨_, hm5, kvs5, ks5, g5, row5, v5, rfl, s5, hd5, hr5, dn5, df5.turn fun v hv => ?_, hl5, rfl⟩
        unfold nats
        rw [List.length_map, List.take_length]
        exact nx_mem.mpr hv
end
end K5
namespace K5
open PySem PyProof.Rows L2 G4
/-! ### lists of lists, all of them new -/
structure NewLL (H H3 : Hp) (D : Addr) (as : List Addr) (ls : List (List Nat)) : Prop where
  top : H3 D = some (.lst (as.map V.ref))
  nd : as.Nodup
  new : ∀ b ∈ as, H b = none ∧ b ≠ D
  at_ : ListsAt H3 as ls
theorem listsAt_get {H : Hp} {as : List Addr} {ls : List (List Nat)} (h : ListsAt H as ls) {i : Nat} {l : List Nat} (e : ls[i]? = some l) : ∃ b, as[i]? = some b ∧ H b = some (.lst (nats l)) := L2.Paired.get2 h e
theorem listsAt_of {H : Hp} : ∀ {as : List Addr} {ls : List (List Nat)}, as.length = ls.length → (∀ (i : Nat) b l, as[i]? = some b → ls[i]? = some l → H b = some (.lst (nats l))) → ListsAt H as ls
  | [], [], _, _ => .nil
  | [], _ :: _, h, _ => by simp at h
  | _ :: _, [], h, _ => by simp at h
  | a :: as, l :: ls, h, f => .cons (f 0 a l rfl rfl) (listsAt_of (by simpa using h) fun i b m h1 h2 => f (i + 1) b m (by simpa using h1) (by simpa using h2))
section
variable {H H3 : Hp} {D p b : Addr} {as : List Addr} {ls : List (List Nat)}
theorem NewLL.len (h : NewLL H H3 D as ls) : as.length = ls.length := Paired.length h.at_
theorem NewLL.keep {H4 : Hp} (h : NewLL H H3 D as ls) (k : ∀ b o, (b = D ∨ b ∈ as) → H3 b = some o → H4 b = some o) : NewLL H H4 D as ls := by
  refine ⟨k _ _ (.inl rfl) h.top, h.nd, h.new, listsAt_of h.len fun i b l h1 h2 => k _ _ (.inr (List.mem_of_getElem? h1)) ?_⟩
  obtain ⟨b', e1, e2⟩ := listsAt_get h.at_ h2
  rw [h1] at e1
  cases e1
  exact e2
theorem NewLL.app (h : NewLL H H3 D as ls) {i : Nat} {l : List Nat} (e : ls[i]? = some l) (eb : as[i]? = some b) (x : Nat) : NewLL H (upd H3 b (.lst (nats l ++ [natV x]))) D as (ls.set i (l ++ [x])) := by
  have hbD := (h.new b (List.mem_of_getElem? eb)).2
  refine ⟨by rw [upd_ne (Ne.symm hbD)]; exact h.top, h.nd, h.new, listsAt_of (by rw [List.length_set]; exact h.len) fun j c m h1 h2 => ?_⟩
  by_cases hij : i = j
  · subst hij
    rw [eb] at h1
    cases h1
    have : (ls.set i (l ++ [x]))[i]? = some (l ++ [x]) := by
      have := (List.getElem?_eq_some_iff.mp e).1
      simp [this]
    rw [this] at h2
    cases h2
    rw [upd_same]
    unfold nats
    rw [List.map_append]
    rfl
  · rw [List.getElem?_set_ne hij] at h2
    have hcb : c ≠ b := by
      rintro rfl
      obtain ⟨hi, ei⟩ := List.getElem?_eq_some_iff.mp eb
      obtain ⟨hj, ej⟩ := List.getElem?_eq_some_iff.mp h1
      rcases Nat.lt_or_gt_of_ne hij with hlt | hlt
      · exact List.pairwise_iff_getElem.mp h.nd i j hi hj hlt (ei.trans ej.symm)
      · exact List.pairwise_iff_getElem.mp h.nd j i hj hi hlt (ej.trans ei.symm)
    rw [upd_ne hcb]
    obtain ⟨c', e1, e2⟩ := listsAt_get h.at_ h2
    rw [h1] at e1
    cases e1
    exact e2
end
/-- [[] for .. in range(n)] -/
theorem comp_news {n : Nat} {D : Addr} {Q : VK} {H : Hp} {σ : L2.St} (hn : n ≤ 1000) (hσ : ∃ v0, σ = [v0]) (hD : H D = none)
    (k : ∀ (as : List Addr) (H3 : Hp), Same H H3 → NewLL H H3 D as (List.replicate n []) → Q (.ref D) H3) :
    CompW (Itr 0 n) D (gName 0) (tLst tNil) Q σ (upd H D (.lst [])) := by
  refine comp_range (fun i acc σc H3 => (∃ v0, σc = [v0]) ∧ i ≤ n ∧ Same H H3 ∧ H3 D = some (.lst acc) ∧ ∃ as : List Addr, acc = as.map V.ref ∧ NewLL H H3 D as (List.replicate i []))
    ⟨hσ, Nat.zero_le _, sameNew hD, upd_same, [], rfl, upd_same, List.nodup_nil, fun b hb => (by cases hb), .nil⟩ ?_ ?_
  · rintro i acc σc H3 hi ⟨⟨v0, rfl⟩, hin, s3, hD3, as, rfl, ll⟩
    refine ⟨Nat.zero_le _, fun b hb => ?_⟩
    have s4 : Same H3 (upd H3 b (.lst [])) := sameNew hb
    have hlen := ll.len
    rw [List.length_replicate] at hlen
    refine cturn (s4 _ _ hD3) (small (by rw [List.length_map]; omega)) hi ⟨⟨_, rfl⟩, hi, sameUpd hD (s3.trans s4), upd_same, as ++ [b], by rw [List.map_append]; rfl, ?_⟩
    have hbD : b ≠ D := Ne.symm (ne_of_none hD3 hb)
    have hba : b ∉ as := fun z => by
      obtain ⟨j, hj, e⟩ := List.getElem_of_mem z
      obtain ⟨c, e1, e2⟩ := Paired.get ll.at_ (i := j) (x := b) (by rw [List.getElem?_eq_getElem hj, e])
      rw [e2] at hb
      cases hb
    refine ⟨by rw [upd_same, List.map_append]; rfl, List.nodup_append.mpr ⟨ll.nd, by simp, fun x hx y hy => ?_⟩, fun c hc => ?_, ?_⟩
    · rw [List.mem_singleton] at hy; subst hy; rintro rfl; exact hba hx
    · rcases List.mem_append.mp hc with z | z
      · exact ll.new c z
      · rw [List.mem_singleton] at z; subst z; exact ⟨s3.free hb, hbD⟩
    · rw [List.replicate_succ']
      refine Paired.snoc' (Paired.mapP ?_ fun _ _ e => e) ?_
      · refine listsAt_of ll.len fun j c m h1 h2 => ?_
        obtain ⟨c', e1, e2⟩ := listsAt_get ll.at_ h2
        rw [h1] at e1
        cases e1
        rw [upd_ne (ll.new c (List.mem_of_getElem? h1)).2]
        exact s4 _ _ e2
      · rw [upd_ne hbD]
        exact upd_same
  · rintro acc σc H3 ⟨_, _, s3, hD3, as, rfl, ll⟩
    exact k as H3 s3 ll
/-! ### by keys -/
def nxG (key val : Pr → Nat) (ps : List Pr) (n : Nat) : List (List Nat) := (List.range n).map fun u => (ps.filter fun p => decide (key p = u)).map val
theorem nxG_nil (key val : Pr → Nat) (n : Nat) : nxG key val [] n = List.replicate n [] := by
  unfold nxG
  show (List.range n).map (fun _ => ([] : List Nat)) = _
  rw [List.map_const', List.length_range]
theorem nxG_get {key val : Pr → Nat} {ps : List Pr} {n u : Nat} (h : u < n) : (nxG key val ps n)[u]? = some ((ps.filter fun p => decide (key p = u)).map val) := by
  unfold nxG
  rw [List.getElem?_map, List.getElem?_range h]
  rfl
theorem nxG_snoc {key val : Pr → Nat} {ps : List Pr} {n : Nat} {p : Pr} (h : key p < n) : (nxG key val ps n).set (key p) ((ps.filter fun q => decide (key q = key p)).map val ++ [val p]) = nxG key val (ps ++ [p]) n := by
  apply List.ext_getElem?
  intro i
  by_cases hi : i < n
  · rw [nxG_get hi]
    by_cases e : key p = i
    · subst e
      have hl : key p < (nxG key val ps n).length := by unfold nxG; simpa using hi
      rw [List.getElem?_set_self hl, List.filter_append, List.map_append]
      simp
    · rw [List.getElem?_set_ne e, nxG_get hi, List.filter_append, List.map_append]
      simp [e]
  · rw [List.getElem?_eq_none (by unfold nxG; simp; omega), List.getElem?_eq_none (by unfold nxG; simp; omega)]
end K5
namespace K5
open PySem PyProof.Rows L2 G4
def spBack : Sp := fun vs H Q _ => ∃ (p : Addr) (xs : List V) (n : Nat) (ps : List Pr), vs = [.ref p, natV n] ∧ H p = some (.lst xs) ∧ PrsAt H xs ps ∧ Below n ps ∧ n ≤ 60 ∧ ps.length ≤ 1000 ∧
  ∀ (b : Bool) (H' : Hp), Same H H' → (b = true ↔ ∃ v, Reach ps v v) → Q (.bl b) H'
abbrev scB1 : Scope := { kind := .function, names := [(PySem.Str.ofString ".0", .local), (PySem.Str.ofString "_law_one", .local)], isGenerator := false, isCoroutine := false, more := [] }
abbrev scB2 : Scope := { kind := .function, names := [(PySem.Str.ofString ".0", .local), (PySem.Str.ofString "_law_one", .local), (PySem.Str.ofString "_law_comes_to", .globalImplicit), (PySem.Str.ofString "_law_nexts", .free)], isGenerator := false, isCoroutine := false, more := [] }
theorem ndB1 : (["_law_one"] : List Str).Nodup := by decide +kernel
theorem ndB2 : (["_law_one", "_law_nexts"] : List Str).Nodup := by decide +kernel
abbrev NB : List Str := ["_law_pairs_here", "_law_many", "_law_one", "_law_nexts", "_law_other"]
theorem scB : FnScope NB ["_law_pairs_here", "_law_many"] (defScope sBack) := ⟨rfl, rfl, rfl, by decide +kernel, rfl, by decide +kernel, by decide +kernel⟩
theorem Reach.below {n : Nat} {ps : List Pr} (hb : Below n ps) {u v : Nat} (h : Reach ps u v) : v < n := by
  cases h with
  | one h => exact (hb _ h).2
  | step _ h => exact (hb _ h).2
section
variable {P : Program} {w : World} {K : PySem.W.Frag} {mg : Str → Option Value} {base : Heap}
abbrev XB (P : Program) (w : World) (K : PySem.W.Frag) (mg : Str → Option Value) (base : Heap) (f : Addr) (cdv : Value) (A : Around) (outer : List Env) (s : Shared) (H : Hp) (E : XK) : Cx := (cxOf CX0 P w K mg base NB "_law_some_comes_back" (defScope sBack) f cdv A outer s H E).nox
theorem csB1 {f : Addr} {cdv : Value} {A : Around} {outer : List Env} {s : Shared} {H : Hp} {E : XK} : ∃ cl, CompScope (XB P w K mg base f cdv A outer s H E) scB1 [] cl :=
  comp_scope (fun x h => cell_has h) rfl (by decide +kernel) (by decide +kernel) (show ∀ y ∈ scB1.names, y.2 = .free → (defScope sBack).names.lookup y.1 = some .cell by decide +kernel) (fun p hp => by cases hp)
theorem csB2 {f : Addr} {cdv : Value} {A : Around} {outer : List Env} {s : Shared} {H : Hp} {E : XK} : ∃ cl, CompScope (XB P w K mg base f cdv A outer s H E) scB2 [("_law_nexts", 3)] cl :=
  comp_scope (fun x h => cell_has h) rfl (by decide +kernel) (by decide +kernel) (show ∀ y ∈ scB2.names, y.2 = .free → (defScope sBack).names.lookup y.1 = some .cell by decide +kernel) (fun p hp => by
    have e : p = ((PySem.Str.ofString "_law_nexts"), 3) := by simpa using hp
    subst e
    exact ⟨rfl, rfl, rfl⟩)
theorem ok_back {f f1 : Addr} {fd fd1 : FuncData} (F : Fun K "_law_some_comes_back" "_law_some_comes_back" sBack f fd) (F1 : Fun K "_law_comes_to" "_law_comes_to" sComes f1 fd1) (m1 : mg "_law_comes_to" = some (.ref f1)) (b1 : Binds K fd1 ["_law_nexts", "_law_one"] [])
    (T : Txt K mg) : FnOk P w K mg base CX0 2 f fd ["_law_pairs_here", "_law_many"] spBack := by
  have G1 : FnOk P w K mg base CX0 1 f1 fd1 ["_law_nexts", "_law_one"] spComes := ok_comes F1
  refine F.ok scB (fun vs H Q E h => ?_) (fun cdv A outer s H vs Q E hr h => ?_)
  · obtain ⟨p, xs, n, ps, rfl, _⟩ := h
    rfl
  · obtain ⟨p, xs, n, ps, rfl, hp, hps, hb, hn, hl, q⟩ := h
    have hu := hu_of hr
    obtain ⟨cl1, S1⟩ := csB1 (P := P) (w := w) (K := K) (mg := mg) (base := base) (f := f) (cdv := cdv) (A := A) (outer := outer) (s := s) (H := H) (E := E)
    obtain ⟨cl2, S2⟩ := csB2 (P := P) (w := w) (K := K) (mg := mg) (base := base) (f := f) (cdv := cdv) (A := A) (outer := outer) (s := s) (H := H) (E := E)
    refine ⟨_, pss_cons (ps_set (i := 3) scB.nd rfl (Or.inr rfl) (pe_comp (own := ["_law_one"]) (g := gName 0) S1 rfl (pi_range1 rfl T.range (pa_cons (pv 1) pa_nil)) (fun C s2 H2 fp => pg_name (i := 0) ndB1 rfl (Or.inl rfl) (Or.inr rfl)) (fun C s2 H2 fp => pe_lst pa_nil)))
      (pss_cons (ps_for (g := gPair K 2 4) PassesOwn.never rfl (pi_list (pv 0)) (pg_tup rfl (pgs_cons (pg_name (i := 2) scB.nd rfl (Or.inl rfl)) (pgs_cons (pg_name (i := 4) scB.nd rfl (Or.inl rfl)) pgs_nil)))
        (pss_one (ps_expr (pe_bm PySem.F.plainAttrs_list PySem.F.slot_list_append PySem.F.type_list_append mt_append (pe_ix ix_list (pv 3) (pv 2) (fun _ _ => rfl)) (pa_cons (pv 4) pa_nil)))))
      (pss_one (ps_ret (pe_cmpR (op_ne2 hu) (pe_compF (own := ["_law_one"]) (g := gName 0) S2 rfl (pi_range1 rfl T.range (pa_cons (pv 1) pa_nil)) (fun C s2 H2 fp => pg_name (i := 0) ndB2 rfl (Or.inl rfl) (Or.inr rfl))
        (fun C s2 H2 fp => pt_cmp (pc_din hu (pv 0) (pe_call G1 hr rfl m1 F1.kp b1 .nil pass0 (pa_cons (pv 1) (pa_cons (pv 0) pa_nil)))))
        (fun C s2 H2 fp => pv 0)) (pe_lst pa_nil) (nomark _))))), ?_⟩
    refine ⟨_, rfl, (n : Int), rfl, by omega, by omega, fun D hD => ?_⟩
    refine comp_news (n := n) (by omega) ⟨none, rfl⟩ hD fun as H2 s2 ll => ?_
    have hrep : List.replicate n [] = nxG (·.1) (·.2) (ps.take 0) n := by rw [List.take_zero, nxG_nil]
    rw [hrep] at ll
    refine ⟨_, rfl, p, rfl, ⟨_, SqL.of (s2 _ _ hp)⟩, ?_⟩
    refine for_list (K := K) (a := p) (xs := xs) (fun i σ H3 => ∃ (v2 v4 : Option V), σ = [some (.ref p), some (natV n), v2, some (.ref D), v4] ∧ Same H H3 ∧ NewLL H H3 D as (nxG (·.1) (·.2) (ps.take i) n))
      ⟨none, none, rfl, s2, ll⟩ (fun i σ H3 _ ⟨_, _, _, s3, _⟩ => SqL.of (s3 _ _ hp)) ?_ ?_
    · rintro i x σ H3 hi ⟨v2, v4, rfl, s3, ll3⟩
      obtain ⟨pq, hpq, t, rfl, ht⟩ := Paired.get hps hi
      have hpm := hb pq (List.mem_of_getElem? hpq)
      refine ⟨t, _, rfl, SqT.of (s3 _ _ ht), rfl, _, _, rfl, _, _, rfl, rfl, ?_⟩
      have hx := nxG_get (key := (·.1)) (val := (·.2)) (ps := ps.take i) hpm.1
      obtain ⟨b, e1, e2⟩ := listsAt_get ll3.at_ hx
      refine ⟨_, rfl, _, rfl, D, _, _, _, rfl, rfl, SqL.of ll3.top, atI_nat (show (as.map V.ref)[pq.1]? = some (.ref b) by rw [List.getElem?_map, e1]; rfl), .inl ⟨rfl, _, SqL.of e2⟩, ?_⟩
      have hbl : (nats (((ps.take i).filter fun p => decide (p.1 = pq.1)).map (·.2))).length < sizeLine := by
        refine small ?_
        unfold nats
        rw [List.length_map, List.length_map]
        have := List.length_filter_le (fun p : Pr => decide (p.1 = pq.1)) (ps.take i)
        rw [List.length_take] at this
        omega
      refine ⟨_, rfl, b, _, _, rfl, rfl, e2, hbl, ?_⟩
      refine ⟨_, _, rfl, sameUpd (ll3.new b (List.mem_of_getElem? e1)).1 s3, ?_⟩
      rw [List.take_succ, hpq]
      have := ll3.app hx e1 pq.2
      rw [nxG_snoc (key := (·.1)) (val := (·.2)) hpm.1] at this
      exact this
    · rintro σ H3 ⟨v2, v4, rfl, s3, ll3⟩
      rw [Paired.length hps, List.take_length] at ll3
      refine ⟨_, rfl, (n : Int), rfl, by omega, by omega, fun D2 hD2 => ?_⟩
      refine compF_range (lo := 0) (n := n) (fun i acc σc H4 => (∃ v0, σc = [v0, some (.ref D)]) ∧ Same H3 H4 ∧ H4 D2 = some (.lst acc) ∧ ∃ l : List Nat, acc = nats l ∧ l.length ≤ i ∧ (l = [] ↔ ∀ v, v < i → ¬ Reach ps v v))
        ⟨⟨none, rfl⟩, sameNew hD2, upd_same, [], rfl, Nat.le_refl _, by simp⟩ ?_ ?_
      · rintro i acc σc H4 hi ⟨⟨v0, rfl⟩, s4, hD4, l, rfl, hl4, hiff⟩
        have e0 : V.int (0 + (i : Int)) = natV i := by show V.int _ = V.int _; congr 1; omega
        rw [e0]
        refine ⟨_, rfl, _, rfl, _, rfl, D, i, n, ps, rfl, ⟨as, s4 _ _ ll3.top, ListsAt.same ll3.at_ s4⟩, hi, hn, hb, fun d kvs ks g H5 s5 hd5 dn hreach => ?_⟩
        refine ⟨d, _, rfl, DGet.k (k := Sum.inl (i : Int)) hd5, _, rfl, ?_⟩
        rw [dn.val]
        cases hg : g i with
        | none =>
          refine ifF rfl (cstep hi (acc := nats l) ⟨⟨_, rfl⟩, s4.trans s5, s5 _ _ hD4, l, rfl, by omega, ?_⟩)
          rw [hiff]
          have hno : ¬ Reach ps i i := fun z => ((hreach i).mpr z) hg
          constructor
          · intro h v hv
            by_cases e : v = i
            · subst e; exact hno
            · exact h v (by omega)
          · intro h v hv
            exact h v (by omega)
        | some z =>
          have hyes : Reach ps i i := (hreach i).mp (by rw [hg]; exact fun z => (by cases z))
          refine ifT rfl ⟨_, rfl, ?_⟩
          refine cturn (s5 _ _ hD4) (small (by unfold nats; rw [List.length_map]; omega)) hi ⟨⟨_, rfl⟩, ?_, upd_same, l ++ [i], ?_, by simp; omega, ?_⟩
          · exact sameUpd hD2 (s4.trans s5)
          · unfold nats
            rw [List.map_append]
            rfl
          · constructor
            · intro z
              simp at z
            · intro h
              exact absurd hyes (h i (by omega))
      · rintro acc σc H4 ⟨_, s4, hD4, l, rfl, hl4, hiff⟩
        refine ⟨Nat.zero_le _, fun l2 hl2 => ?_⟩
        have s5 : Same H4 (upd H4 l2 (.lst [])) := sameNew hl2
        refine ⟨D2, l2, nats l, nats [], _, _, rfl, rfl, .inr ⟨SqL.of (s5 _ _ hD4), SqL.of upd_same⟩, den_nats l, den_nats [], ?_⟩
        refine q _ _ (s3.trans (s4.trans s5)) ?_
        show (!_) = true ↔ _
        rw [eqFs_nats]
        by_cases he : l = []
        · rw [decide_eq_true he]
          constructor
          · intro z; cases z
          · rintro ⟨v, hv⟩
            exact absurd hv (hiff.mp he v (Reach.below hb hv))
        · rw [decide_eq_false he]
          refine ⟨fun _ => ?_, fun _ => rfl⟩
          refine Classical.byContradiction fun hc => he (hiff.mpr fun v _ hv => hc ⟨v, hv⟩)
end
end K5
namespace K5
open PySem PyProof.Rows L2 G4
/-! ### counters -/
def cnts (n : Nat) (L : Nat → Nat) : List V := (List.range n).map fun v => natV (L v)
theorem cnts_len (n : Nat) (L : Nat → Nat) : (cnts n L).length = n := by unfold cnts; simp
theorem cnts_get {n : Nat} {L : Nat → Nat} {r : Nat} (h : r < n) : (cnts n L)[r]? = some (natV (L r)) := by
  unfold cnts
  rw [List.getElem?_map, List.getElem?_range h]
  rfl
theorem cnts_set {n : Nat} {L : Nat → Nat} {r x : Nat} (h : r < n) : (cnts n L).set r (natV x) = cnts n fun v => if v = r then x else L v := by
  apply List.ext_getElem?
  intro i
  by_cases hi : i < n
  · rw [cnts_get hi]
    by_cases e : r = i
    · subst e
      rw [List.getElem?_set_self (by rw [cnts_len]; exact hi), if_pos rfl]
    · rw [List.getElem?_set_ne e, cnts_get hi, if_neg (fun z => e z.symm)]
  · rw [List.getElem?_eq_none (by rw [List.length_set, cnts_len]; omega), List.getElem?_eq_none (by rw [cnts_len]; omega)]
theorem cnts_congr {n : Nat} {L L' : Nat → Nat} (h : ∀ v, v < n → L v = L' v) : cnts n L = cnts n L' := by
  unfold cnts
  refine List.map_congr_left fun v hv => ?_
  rw [h v (List.mem_range.mp hv)]
theorem ix_nat {n j : Nat} (h : j < n) : ixN n (j : Int) = some j := by
  unfold ixN
  rw [if_pos (by omega), if_pos (by omega)]
  simp
theorem cnts_zero (n : Nat) : (List.replicate n [V.int 0]).flatten = cnts n fun v => ([] : List Pr).countP fun p => decide (p.1 = v) := by
  induction n with
  | zero => rfl
  | succ n ih =>
    rw [List.replicate_succ', List.flatten_append, ih]
    unfold cnts
    rw [List.range_succ, List.map_append]
    rfl
theorem cnt_snoc (ps : List Pr) (p : Pr) (v : Nat) : (ps ++ [p]).countP (fun q => decide (q.1 = v)) = (if v = p.1 then ps.countP (fun q => decide (q.1 = p.1)) + 1 else ps.countP fun q => decide (q.1 = v)) := by
  rw [List.countP_append]
  by_cases e : v = p.1
  · subst e; simp
  · rw [if_neg e]
    simp
    exact fun z => e z.symm
theorem cntP_nil (ps : List Pr) (v : Nat) : cntP ps [] v = ps.countP fun q => decide (q.1 = v) := by
  unfold cntP
  congr 1
  funext p
  simp
theorem rds_get {ps : List Pr} {n m : Nat} (h : m < n) : (nxG (·.2) (·.1) ps n)[m]? = some (rdOf ps m) := nxG_get h
/-- all stays but what stands at a and b -/
def Kp2 (a b : Addr) (H H' : Hp) : Prop := ∀ c o, H c = some o → c ≠ a → c ≠ b → H' c = some o
def spAhead : Sp := fun vs H Q _ => ∃ (p : Addr) (xs : List V) (n : Nat) (ps : List Pr), vs = [.ref p, natV n] ∧ H p = some (.lst xs) ∧ PrsAt H xs ps ∧ Below n ps ∧ n ≤ 60 ∧ ps.length ≤ 1000 ∧
  ∀ (q : Addr) (as : List Addr) (ws : List (List Nat)) (H' : Hp), Same H H' → H q = none → NewLL H H' q as ws → WavesOk ps n ws → Stuck ps n ws → Q (.ref q) H'
abbrev scA1 : Scope := { kind := .function, names := [(PySem.Str.ofString ".0", .local), (PySem.Str.ofString "number", .local)], isGenerator := false, isCoroutine := false, more := [] }
abbrev scA2 : Scope := { kind := .function, names := [(PySem.Str.ofString ".0", .local), (PySem.Str.ofString "number", .local), (PySem.Str.ofString "lacking", .free)], isGenerator := false, isCoroutine := false, more := [] }
theorem ndA1 : (["number"] : List Str).Nodup := by decide +kernel
theorem ndA2 : (["number", "lacking"] : List Str).Nodup := by decide +kernel
abbrev NA : List Str := ["pairs", "many", "lacking", "readers", "reader", "made", "waves", "wave", "freed"]
theorem scA : FnScope NA ["pairs", "many"] (defScope sAhead) := ⟨rfl, rfl, rfl, by decide +kernel, rfl, by decide +kernel, by decide +kernel⟩
section
variable {P : Program} {w : World} {K : PySem.W.Frag} {mg : Str → Option Value} {base : Heap}
abbrev XA (P : Program) (w : World) (K : PySem.W.Frag) (mg : Str → Option Value) (base : Heap) (f : Addr) (cdv : Value) (A : Around) (outer : List Env) (s : Shared) (H : Hp) (E : XK) : Cx := (cxOf CX0 P w K mg base NA "waves_ahead" (defScope sAhead) f cdv A outer s H E).nox
theorem csA1 {f : Addr} {cdv : Value} {A : Around} {outer : List Env} {s : Shared} {H : Hp} {E : XK} : ∃ cl, CompScope (XA P w K mg base f cdv A outer s H E) scA1 [] cl :=
  comp_scope (fun x h => cell_has h) rfl (by decide +kernel) (by decide +kernel) (show ∀ y ∈ scA1.names, y.2 = .free → (defScope sAhead).names.lookup y.1 = some .cell by decide +kernel) (fun p hp => by cases hp)
theorem csA2 {f : Addr} {cdv : Value} {A : Around} {outer : List Env} {s : Shared} {H : Hp} {E : XK} : ∃ cl, CompScope (XA P w K mg base f cdv A outer s H E) scA2 [("lacking", 2)] cl :=
  comp_scope (fun x h => cell_has h) rfl (by decide +kernel) (by decide +kernel) (show ∀ y ∈ scA2.names, y.2 = .free → (defScope sAhead).names.lookup y.1 = some .cell by decide +kernel) (fun p hp => by
    have e : p = ((PySem.Str.ofString "lacking"), 2) := by simpa using hp
    subst e
    exact ⟨rfl, rfl, rfl⟩)
/-- one wave's readers go down -/
theorem ahead_turn {f : Addr} {cdv : Value} {A : Around} {outer : List Env} {s : Shared} {H : Hp} {E : XK} :
    ∃ t, PS (XA P w K mg base f cdv A outer s H E) ((loopBody ((defBody sAhead).getD 5 (.Pass ⟨0, 0, 0, 0⟩))).getD 2 (.Pass ⟨0, 0, 0, 0⟩)) t ∧ ∀ (D : Ends) (H3 : Hp) (v0 v1 : Option V) (pl pr pw c fr : Addr) (as : List Addr) (n : Nat) (ps : List Pr) (ds w : List Nat) (L0 : Nat → Nat) (v4 v5 : Option V),
      Below n ps → n ≤ 60 → NewLL H H3 pr as (nxG (·.2) (·.1) ps n) → pl ≠ pr → pl ∉ as → H3 pl = some (.lst (cnts n L0)) → H3 c = some (.lst (nats w)) → c ≠ pl → H3 fr = some (.lst (nats [])) → fr ≠ pl → fr ≠ c → fr ≠ pr → fr ∉ as →
      (∀ v, L0 v = cntP ps ds v) → (ds ++ w).Nodup → (∀ v ∈ w, v < n) →
      (∀ (F : List Nat) (H' : Hp) (v4 v5 : Option V), Kp2 pl fr H3 H' → H' pl = some (.lst (cnts n (cntP ps (ds ++ w)))) → H' fr = some (.lst (nats F)) → Dec n (cntP ps ds) (cntP ps (ds ++ w)) F → D.nx [v0, v1, some (.ref pl), some (.ref pr), v4, v5, some (.ref pw), some (.ref c), some (.ref fr)] H') →
      t D [v0, v1, some (.ref pl), some (.ref pr), v4, v5, some (.ref pw), some (.ref c), some (.ref fr)] H3 := by
  refine ⟨_, ps_for PassesOwn.never rfl (pi_list (pv 7)) (pg_name (i := 5) scA.nd rfl (Or.inl rfl))
    (pss_one (ps_for PassesOwn.never rfl (pi_list (pe_ix ix_list (pv 3) (pv 5) (fun _ _ => rfl))) (pg_name (i := 4) scA.nd rfl (Or.inl rfl))
      (pss_cons (ps_asg (pe_op op_sub (pe_ix ix_list (pv 2) (pv 4) (fun _ _ => rfl)) pe_int) (pg_sub (pv 2) (pv 4) set_list))
      (pss_one (ps_if (pt_cmpR op_eq (pe_ix ix_list (pv 2) (pv 4) (fun _ _ => rfl)) pe_int (nomark _))
        (pss_one (ps_expr (pe_bm PySem.F.plainAttrs_list PySem.F.slot_list_append PySem.F.type_list_append mt_append (pv 8) (pa_cons (pv 4) pa_nil)))) pss_nil))))), ?_⟩
  intro D H3 v0 v1 pl pr pw c fr as n ps ds w L0 v4 v5 hb hn ll hplr hpla hpl hc hcl hf hfl hfc hfr hfa hL0 hnd hwn k
  refine ⟨_, rfl, c, rfl, ⟨_, SqL.of hc⟩, ?_⟩
  refine for_list (K := K) (a := c) (xs := nats w) (fun i σ H4 => ∃ (F : List Nat) (L : Nat → Nat) (v4 v5 : Option V), σ = [v0, v1, some (.ref pl), some (.ref pr), v4, v5, some (.ref pw), some (.ref c), some (.ref fr)] ∧ Kp2 pl fr H3 H4 ∧ H4 pl = some (.lst (cnts n L)) ∧ H4 fr = some (.lst (nats F)) ∧
      (∀ v, L v = cntP ps (ds ++ w.take i) v) ∧ Dec n (cntP ps ds) L F) ?_ (fun i σ H4 _ ⟨_, _, _, _, _, kp, _⟩ => SqL.of (kp _ _ hc hcl (Ne.symm hfc))) ?_ ?_
  · have e0 : L0 = cntP ps ds := funext hL0
    refine ⟨[], L0, v4, v5, rfl, fun _ _ e _ _ => e, hpl, hf, fun v => by rw [List.take_zero, List.append_nil]; exact hL0 v, ?_⟩
    rw [e0]
    exact Dec.start
  · rintro i x σ H4 hi ⟨F, L, u4, u5, rfl, kp, hpl4, hf4, hL, dc⟩
    obtain ⟨m, rfl, hm⟩ := get_nats hi
    have hmw : m ∈ w := List.mem_of_getElem? hm
    have hmn : m < n := hwn m hmw
    obtain ⟨b, e1, e2⟩ := listsAt_get ll.at_ (rds_get (ps := ps) hmn)
    have hba := List.mem_of_getElem? e1
    have hbl : b ≠ pl := fun z => hpla (z ▸ hba)
    have hbf : b ≠ fr := fun z => hfa (z ▸ hba)
    have hpr4 := kp _ _ ll.top (Ne.symm hplr) (Ne.symm hfr)
    have hb4 : ∀ {H5 : Hp}, Kp2 pl fr H3 H5 → SqL K H5 b (nats (rdOf ps m)) := fun k5 => SqL.of (k5 _ _ e2 hbl hbf)
    have hmd : m ∉ ds ++ w.take i := by
      intro z
      have hsp : w = w.take i ++ m :: w.drop (i + 1) := by
        have hil := (List.getElem?_eq_some_iff.mp hm)
        obtain ⟨h1, h2⟩ := hil
        rw [← h2, List.getElem_cons_drop, List.take_append_drop]
      rw [hsp, ← List.append_assoc, List.nodup_append] at hnd
      exact hnd.2.2 m z m (by simp) rfl
    refine ⟨_, rfl, _, rfl, pr, _, _, _, rfl, rfl, SqL.of hpr4, atI_nat (show (as.map V.ref)[m]? = some (.ref b) by rw [List.getElem?_map, e1]; rfl), b, rfl, ⟨_, hb4 kp⟩, ?_⟩
    refine for_list (K := K) (a := b) (xs := nats (rdOf ps m)) (fun j σ H5 => ∃ (F : List Nat) (L : Nat → Nat) (v4 : Option V), σ = [v0, v1, some (.ref pl), some (.ref pr), v4, some (natV m), some (.ref pw), some (.ref c), some (.ref fr)] ∧ Kp2 pl fr H3 H5 ∧ H5 pl = some (.lst (cnts n L)) ∧ H5 fr = some (.lst (nats F)) ∧
        (∀ v, L v + ((rdOf ps m).take j).count v = cntP ps (ds ++ w.take i) v) ∧ Dec n (cntP ps ds) L F) ?_ (fun j σ H5 _ ⟨_, _, _, _, k5, _⟩ => hb4 k5) ?_ ?_
    · exact ⟨F, L, u4, rfl, kp, hpl4, hf4, fun v => by rw [List.take_zero]; exact hL v, dc⟩
    · rintro j x σ H5 hj ⟨F5, L5, w4, rfl, kp5, hpl5, hf5, hL5, dc5⟩
      obtain ⟨r, rfl, hr⟩ := get_nats hj
      obtain ⟨hpos, hless⟩ := turn_less hmd hL5 hr
      have hrn : r < n := by
        have : r ∈ rdOf ps m := List.mem_of_getElem? hr
        unfold rdOf at this
        obtain ⟨q, hq, rfl⟩ := List.mem_map.mp this
        exact (hb q (List.mem_filter.mp hq).1).1
      refine ⟨_, rfl, _, rfl, pl, _, _, _, rfl, rfl, SqL.of hpl5, atI_nat (cnts_get hrn), _, _, rfl, rfl, ?_⟩
      have e3 : V.int ((L5 r : Int) - 1) = natV (L5 r - 1) := by show V.int _ = V.int _; congr 1; omega
      refine ⟨_, rfl, _, rfl, pl, _, _, r, rfl, rfl, hpl5, by rw [cnts_len]; exact ix_nat hrn, ?_⟩
      have hp6 : (upd H5 pl (.lst ((cnts n L5).set r (V.int ((L5 r : Int) - 1))))) pl = some (.lst (cnts n (less L5 r))) := by
        rw [upd_same, e3, cnts_set hrn]
        rfl
      have kp6 : Kp2 pl fr H3 (upd H5 pl (.lst ((cnts n L5).set r (V.int ((L5 r : Int) - 1))))) := fun cc o e h1 h2 => by rw [upd_ne h1]; exact kp5 cc o e h1 h2
      have hf6 : (upd H5 pl (.lst ((cnts n L5).set r (V.int ((L5 r : Int) - 1))))) fr = some (.lst (nats F5)) := by rw [upd_ne hfl]; exact hf5
      refine ⟨_, rfl, _, rfl, pl, _, _, _, rfl, rfl, SqL.of hp6, atI_nat (cnts_get hrn), rfl, _, rfl, ?_⟩
      have e4 : less L5 r r = L5 r - 1 := by unfold less; rw [if_pos rfl]
      by_cases hz : L5 r = 1
      · have e5 : less L5 r r = 0 := by omega
        refine ifT (by rw [e5]; rfl) ?_
        have hF5 : F5.length ≤ n := nodup_len n F5 dc5.nd fun v hv => ((dc5.mem v).mp hv).1
        refine ⟨_, rfl, .inl ⟨rfl, _, SqL.of hf6⟩, _, rfl, fr, _, _, rfl, rfl, hf6, small (by unfold nats; rw [List.length_map]; omega), ?_⟩
        refine ⟨F5 ++ [r], _, _, rfl, fun cc o e h1 h2 => by rw [upd_ne h2]; exact kp6 cc o e h1 h2, by rw [upd_ne (Ne.symm hfl)]; exact hp6, ?_, hless, dc5.step0 hrn hz⟩
        rw [upd_same]
        unfold nats
        rw [List.map_append]
        rfl
      · refine ifF (decide_eq_false fun z => ?_) ⟨F5, _, _, rfl, kp6, hp6, hf6, hless, dc5.step1 (by omega)⟩
        have : ((less L5 r r : Nat) : Int) = 0 := V.int.inj z
        omega
    · rintro σ H5 ⟨F5, L5, w4, rfl, kp5, hpl5, hf5, hL5, dc5⟩
      refine ⟨F5, L5, _, _, rfl, kp5, hpl5, hf5, fun v => ?_, dc5⟩
      have h1 := hL5 v
      unfold nats at h1
      rw [List.length_map, List.take_length] at h1
      have h2 := cntP_split hmd v ps
      have e : ds ++ w.take (i + 1) = ds ++ w.take i ++ [m] := by rw [List.take_succ, hm, List.append_assoc]; rfl
      rw [e]
      omega
  · rintro σ H4 ⟨F, L, u4, u5, rfl, kp, hpl4, hf4, hL, dc⟩
    have el : (nats w).length = w.length := by unfold nats; rw [List.length_map]
    rw [el, List.take_length] at hL
    have eL : L = cntP ps (ds ++ w) := funext hL
    subst eL
    exact k F H4 u4 u5 kp hpl4 hf4 dc
end
end K5
namespace K5
open PySem PyProof.Rows L2 G4
section
variable {P : Program} {w : World} {K : PySem.W.Frag} {mg : Str → Option Value} {base : Heap}
/-- the state of the while -/
structure WSt (ps : List Pr) (n : Nat) (H H3 : Hp) (pl pr pw c : Addr) (as aw : List Addr) (ws : List (List Nat)) (w : List Nat) : Prop where
  same : Same H H3
  lack : H3 pl = some (.lst (cnts n (cntP ps ws.flatten)))
  rds : NewLL H H3 pr as (nxG (·.2) (·.1) ps n)
  wvs : NewLL H H3 pw aw ws
  cur : H3 c = some (.lst (nats w))
  newc : H c = none
  plr : pl ≠ pr ∧ pl ∉ as ∧ pl ≠ pw ∧ pl ∉ aw ∧ pl ≠ c
  pwr : pw ≠ pr ∧ pw ∉ as ∧ pw ≠ c ∧ c ∉ aw
  kahn : Kahn ps n ws w
theorem ahead_while {f : Addr} {cdv : Value} {A : Around} {outer : List Env} {s : Shared} {H : Hp} {E : XK} (T : Txt K mg) :
    ∃ t, PSs (XA P w K mg base f cdv A outer s H E) ((defBody sAhead).drop 5) t ∧ ∀ (nx : L2.St → Hp → Prop) (Q : VK) (H3 : Hp) (v0 v1 : Option V) (pl pr pw c : Addr) (as aw : List Addr) (n : Nat) (ps : List Pr) (ws : List (List Nat)) (w : List Nat) (v4 v5 : Option V),
      Below n ps → n ≤ 60 → H pl = none → H pw = none → WSt ps n H H3 pl pr pw c as aw ws w →
      (∀ (as : List Addr) (ws : List (List Nat)) (H' : Hp), Same H H' → NewLL H H' pw as ws → WavesOk ps n ws → Stuck ps n ws → Q (.ref pw) H') →
      t { nx := nx, rt := Q } [v0, v1, some (.ref pl), some (.ref pr), v4, v5, some (.ref pw), some (.ref c), none] H3 := by
  obtain ⟨t1, h1, r1⟩ := ahead_turn (P := P) (w := w) (K := K) (mg := mg) (base := base) (f := f) (cdv := cdv) (A := A) (outer := outer) (s := s) (H := H) (E := E)
  refine ⟨_, pss_cons (ps_while PassesOwn.never (pt_cmpR op_gt (pe_callB call_len_seq (by rfl) T.len PySem.boot_len (pa_cons (pv 7) pa_nil)) pe_int (nomark _))
    (pss_cons (ps_expr (pe_bm PySem.F.plainAttrs_list PySem.F.slot_list_append PySem.F.type_list_append mt_append (pv 6) (pa_cons (pv 7) pa_nil)))
    (pss_cons (ps_set (i := 8) scA.nd rfl (Or.inl rfl) (pe_lst pa_nil))
    (pss_cons h1
    (pss_one (ps_set (i := 7) scA.nd rfl (Or.inl rfl) (pe_callB call_sorted rfl T.sorted boot_sorted (pa_cons (pv 8) pa_nil))))))))
    (pss_one (ps_ret (pv 6))), ?_⟩
  intro nx Q H3 v0 v1 pl pr pw c as aw n ps ws w v4 v5 hb hn hpl0 hpw0 S0 q
  refine ⟨fun m σ H4 => ∃ (c : Addr) (aw : List Addr) (ws : List (List Nat)) (w : List Nat) (v4 v5 v8 : Option V), σ = [v0, v1, some (.ref pl), some (.ref pr), v4, v5, some (.ref pw), some (.ref c), v8] ∧ WSt ps n H H4 pl pr pw c as aw ws w ∧ m = n - ws.flatten.length, ⟨_, c, aw, ws, w, v4, v5, none, rfl, S0, rfl⟩, ?_⟩
  rintro m σ H4 ⟨c, aw, ws, w, v4, v5, v8, rfl, S, rfl⟩
  refine ⟨_, rfl, c, _, rfl, .inl (SqL.of S.cur), _, _, rfl, rfl, _, rfl, ?_⟩
  have hlw : (nats w).length = w.length := by unfold nats; rw [List.length_map]
  by_cases he : w = []
  · subst he
    refine ifF (by rw [hlw]; rfl) ?_
    exact ⟨_, rfl, q aw ws H4 S.same S.wvs S.kahn.ok S.kahn.done⟩
  · have hwl : 0 < w.length := List.length_pos_iff.mpr he
    refine ifT (by rw [hlw]; exact decide_eq_true (by omega)) ?_
    refine ⟨fun σ' H' => ∃ m', m' < n - ws.flatten.length ∧ _, fun _ _ z => z, ?_⟩
    obtain ⟨p1, p2, p3, p4, p5⟩ := S.plr
    obtain ⟨w1, w2, w3, w4⟩ := S.pwr
    have hkn := S.kahn.nd
    have e : (ws ++ [w]).flatten = ws.flatten ++ w := by simp
    have hlen := nodup_len n _ hkn.1 hkn.2.1
    rw [e, List.length_append] at hlen
    have hwsl : ws.length ≤ n := by
      have : ∀ l : List (List Nat), (∀ x ∈ l, x ≠ []) → l.length ≤ l.flatten.length := by
        intro l
        induction l with
        | nil => intro _; simp
        | cons a l ih =>
          intro h
          have h1 := ih fun x hx => h x (List.mem_cons_of_mem _ hx)
          have h2 := List.length_pos_iff.mpr (h a List.mem_cons_self)
          rw [List.flatten_cons, List.length_append, List.length_cons]
          omega
      have := this ws S.kahn.ok.full
      omega
    have hawl := S.wvs.len
    refine ⟨_, rfl, .inl ⟨rfl, _, SqL.of S.wvs.top⟩, _, rfl, pw, _, _, rfl, rfl, S.wvs.top, small (by rw [List.length_map]; omega), ?_⟩
    -- the wave is appended
    have s5 : Same H (upd H4 pw (.lst (aw.map V.ref ++ [.ref c]))) := sameUpd hpw0 S.same
    have k5 : ∀ b o, b ≠ pw → H4 b = some o → (upd H4 pw (.lst (aw.map V.ref ++ [.ref c]))) b = some o := fun b o hne e => by rw [upd_ne hne]; exact e
    refine ⟨Nat.zero_le _, fun fr hfr => ?_⟩
    have s6 : Same (upd H4 pw (.lst (aw.map V.ref ++ [.ref c]))) (upd (upd H4 pw (.lst (aw.map V.ref ++ [.ref c]))) fr (.lst [])) := sameNew hfr
    generalize hH6 : upd (upd H4 pw (.lst (aw.map V.ref ++ [.ref c]))) fr (.lst []) = H6 at s6
    have hf6 : H6 fr = some (.lst (nats [])) := by rw [← hH6]; exact upd_same
    have old6 : ∀ b o, b ≠ pw → H4 b = some o → H6 b = some o := fun b o hne e => s6 _ _ (k5 b o hne e)
    have fne : ∀ b o, b ≠ pw → H4 b = some o → fr ≠ b := fun b o hne e => Ne.symm (ne_of_none (k5 b o hne e) hfr)
    have hfpw : fr ≠ pw := Ne.symm (ne_of_none (H := upd H4 pw (.lst (aw.map V.ref ++ [.ref c]))) upd_same hfr)
    have hfpl : fr ≠ pl := fne pl _ p3 S.lack
    have hfc : fr ≠ c := fne c _ (Ne.symm w3) S.cur
    have hfpr : fr ≠ pr := fne pr _ (Ne.symm w1) S.rds.top
    have hfas : fr ∉ as := fun z => by
      obtain ⟨j, hj, ej⟩ := List.getElem_of_mem z
      obtain ⟨l, e1, e2⟩ := Paired.get S.rds.at_ (i := j) (x := fr) (by rw [List.getElem?_eq_getElem hj, ej])
      exact fne fr _ hfpw e2 rfl
    have hfaw : fr ∉ aw := fun z => by
      obtain ⟨j, hj, ej⟩ := List.getElem_of_mem z
      obtain ⟨l, e1, e2⟩ := Paired.get S.wvs.at_ (i := j) (x := fr) (by rw [List.getElem?_eq_getElem hj, ej])
      exact fne fr _ hfpw e2 rfl
    have ll6 : NewLL H H6 pr as (nxG (·.2) (·.1) ps n) := S.rds.keep fun b o hbb eb => old6 b o (by
      rcases hbb with rfl | z
      · exact Ne.symm w1
      · exact fun z' => w2 (z' ▸ z)) eb
    refine r1 _ H6 v0 v1 pl pr pw c fr as n ps ws.flatten w (cntP ps ws.flatten) v4 v5 hb hn ll6 p1 p2 (old6 _ _ p3 S.lack) (old6 _ _ (Ne.symm w3) S.cur) (Ne.symm p5) hf6 hfpl hfc hfpr hfas (fun _ => rfl) (by rw [← e]; exact hkn.1) (fun v hv => ((S.kahn.wave v).mp hv).1) ?_
    intro F H7 u4 u5 kp7 hpl7 hf7 dc
    have hF : F.length ≤ n := nodup_len n F dc.nd fun v hv => ((dc.mem v).mp hv).1
    refine ⟨_, rfl, fr, F.map fun k : Nat => (k : Int), rfl, SqL.of (by rw [hf7, nats_ints]), by rw [List.length_map]; omega, fun ms hperm hsort c2 hc2 => ?_⟩
    -- the numbers, sorted
    obtain ⟨msN, ems⟩ : ∃ msN : List Nat, ms = msN.map fun k : Nat => (k : Int) := by
      refine ⟨ms.map Int.toNat, ?_⟩
      rw [List.map_map]
      have : ∀ x ∈ ms, ((fun k : Nat => (k : Int)) ∘ Int.toNat) x = x := fun x hx => by
        have := hperm.mem_iff.mp hx
        obtain ⟨k, _, rfl⟩ := List.mem_map.mp this
        rfl
      rw [List.map_congr_left this, List.map_id']
    subst ems
    have hp2 : msN.Perm F := by
      have := hperm.map Int.toNat
      rw [List.map_map, List.map_map] at this
      have e1 : (Int.toNat ∘ fun k : Nat => (k : Int)) = id := by funext k; rfl
      rw [e1, List.map_id, List.map_id] at this
      exact this
    have hs2 : msN.Pairwise (· ≤ ·) := by
      have := List.pairwise_map.mp hsort
      exact this.imp fun h => by omega
    have kn := S.kahn.step hb he (by rw [e]; exact dc) hp2 hs2
    have s8 : Same H7 (upd H7 c2 (.lst ((msN.map fun k : Nat => (k : Int)).map V.int))) := sameNew hc2
    have new7 : ∀ b o, H7 b = some o → c2 ≠ b := fun b o eb => Ne.symm (ne_of_none eb hc2)
    have old8 : ∀ b o, b ≠ pl → b ≠ fr → b ≠ pw → H4 b = some o → H7 b = some o := fun b o h1 h2 h3 eb => kp7 b o (old6 b o h3 eb) h1 h2
    have hpw6 : H6 pw = some (.lst (aw.map V.ref ++ [.ref c])) := by rw [← hH6, upd_ne (Ne.symm hfpw)]; exact upd_same
    have hpw7 := kp7 pw _ hpw6 (Ne.symm p3) (Ne.symm hfpw)
    have hc7 := old8 c _ (Ne.symm p5) (Ne.symm hfc) (Ne.symm w3) S.cur
    have s7 : Same H H7 := fun b o eb => kp7 b o (s6 _ _ (s5 _ _ eb)) (ne_of_none eb hpl0) (fun z => by
      subst z
      have := s5 _ _ eb
      rw [this] at hfr
      cases hfr)
    have asH4 : ∀ b, b ∈ as → ∃ o, H4 b = some o := fun b hbm => by
      obtain ⟨j, hj, ej⟩ := List.getElem_of_mem hbm
      obtain ⟨l, e1, e2⟩ := Paired.get S.rds.at_ (i := j) (x := b) (by rw [List.getElem?_eq_getElem hj, ej])
      exact ⟨_, e2⟩
    have awH4 : ∀ b, b ∈ aw → ∃ o, H4 b = some o := fun b hbm => by
      obtain ⟨j, hj, ej⟩ := List.getElem_of_mem hbm
      obtain ⟨l, e1, e2⟩ := Paired.get S.wvs.at_ (i := j) (x := b) (by rw [List.getElem?_eq_getElem hj, ej])
      exact ⟨_, e2⟩
    have rd8 : NewLL H (upd H7 c2 (.lst ((msN.map fun k : Nat => (k : Int)).map V.int))) pr as (nxG (·.2) (·.1) ps n) := S.rds.keep fun b o hbb eb => s8 _ _ (old8 b o (by
        rcases hbb with rfl | z
        · exact Ne.symm p1
        · exact fun z' => p2 (z' ▸ z)) (by
        rcases hbb with rfl | z
        · exact Ne.symm hfpr
        · exact fun z' => hfas (z' ▸ z)) (by
        rcases hbb with rfl | z
        · exact Ne.symm w1
        · exact fun z' => w2 (z' ▸ z)) eb)
    have wv8 : NewLL H (upd H7 c2 (.lst ((msN.map fun k : Nat => (k : Int)).map V.int))) pw (aw ++ [c]) (ws ++ [w]) := by
      refine ⟨?_, List.nodup_append.mpr ⟨S.wvs.nd, by simp, fun x hx y hy => ?_⟩, fun b hbm => ?_, Paired.snoc' (listsAt_of hawl fun i b l h1 h2 => ?_) (s8 _ _ hc7)⟩
      · rw [List.map_append]
        exact s8 _ _ hpw7
      · rw [List.mem_singleton] at hy; subst hy; rintro rfl; exact w4 hx
      · rcases List.mem_append.mp hbm with z | z
        · exact S.wvs.new b z
        · rw [List.mem_singleton] at z; subst z; exact ⟨S.newc, Ne.symm w3⟩
      · obtain ⟨b', e1, e2⟩ := listsAt_get S.wvs.at_ h2
        rw [h1] at e1
        cases e1
        have hbm := List.mem_of_getElem? h1
        exact s8 _ _ (old8 b _ (fun z => p4 (z ▸ hbm)) (fun z => hfaw (z ▸ hbm)) (S.wvs.new b hbm).2 e2)
    refine ⟨n - (ws ++ [w]).flatten.length, by rw [e, List.length_append]; omega, c2, aw ++ [c], ws ++ [w], msN, _, _, _, rfl, ?_, rfl⟩
    refine ⟨s7.trans s8, ?_, rd8, wv8, by rw [upd_same, nats_ints], s7.free hc2, ⟨p1, p2, p3, ?_, Ne.symm (new7 pl _ hpl7)⟩, ⟨w1, w2, Ne.symm (new7 pw _ hpw7), ?_⟩, kn⟩
    · rw [e]
      exact s8 _ _ hpl7
    · intro z
      rcases List.mem_append.mp z with z | z
      · exact p4 z
      · rw [List.mem_singleton] at z; exact p5 z
    · intro z
      rcases List.mem_append.mp z with z | z
      · obtain ⟨o, eo⟩ := awH4 c2 z
        exact new7 c2 o (old8 c2 o (fun z' => p4 (z' ▸ z)) (fun z' => hfaw (z' ▸ z)) (S.wvs.new c2 z).2 eo) rfl
      · rw [List.mem_singleton] at z
        exact new7 c _ hc7 z
end
end K5
namespace K5
open PySem PyProof.Rows L2 G4
section
variable {P : Program} {w : World} {K : PySem.W.Frag} {mg : Str → Option Value} {base : Heap}
theorem ok_ahead {f : Addr} {fd : FuncData} (F : Fun K "waves_ahead" "waves_ahead" sAhead f fd) (T : Txt K mg) : FnOk P w K mg base CX0 1 f fd ["pairs", "many"] spAhead := by
  refine F.ok scA (fun vs H Q E h => ?_) (fun cdv A outer s H vs Q E hr h => ?_)
  · obtain ⟨p, xs, n, ps, rfl, _⟩ := h
    rfl
  · obtain ⟨p, xs, n, ps, rfl, hp, hps, hb, hn, hl, q⟩ := h
    obtain ⟨cl1, S1⟩ := csA1 (P := P) (w := w) (K := K) (mg := mg) (base := base) (f := f) (cdv := cdv) (A := A) (outer := outer) (s := s) (H := H) (E := E)
    obtain ⟨cl2, S2⟩ := csA2 (P := P) (w := w) (K := K) (mg := mg) (base := base) (f := f) (cdv := cdv) (A := A) (outer := outer) (s := s) (H := H) (E := E)
    obtain ⟨t5, h5, r5⟩ := ahead_while (P := P) (w := w) (K := K) (mg := mg) (base := base) (f := f) (cdv := cdv) (A := A) (outer := outer) (s := s) (H := H) (E := E) T
    refine ⟨_, pss_cons (ps_set (i := 2) scA.nd rfl (Or.inr rfl) (pe_op op_rep (pe_lst (pa_cons pe_int pa_nil)) (pv 1)))
      (pss_cons (ps_setComp (i := 3) scA.nd rfl (Or.inl rfl) (own := ["number"]) (g := gName 0) S1 rfl (pi_range1 rfl T.range (pa_cons (pv 1) pa_nil)) (fun C s2 H2 fp => pg_name (i := 0) ndA1 rfl (Or.inl rfl) (Or.inr rfl)) (fun C s2 H2 fp => pe_lst pa_nil))
      (pss_cons (ps_for (g := gPair K 4 5) PassesOwn.never rfl (pi_list (pv 0)) (pg_tup rfl (pgs_cons (pg_name (i := 4) scA.nd rfl (Or.inl rfl)) (pgs_cons (pg_name (i := 5) scA.nd rfl (Or.inl rfl)) pgs_nil)))
        (pss_cons (ps_asg (pe_op op_add (pe_ix ix_list (pv 2) (pv 4) (fun _ _ => rfl)) pe_int) (pg_sub (pv 2) (pv 4) set_list))
        (pss_one (ps_expr (pe_bm PySem.F.plainAttrs_list PySem.F.slot_list_append PySem.F.type_list_append mt_append (pe_ix ix_list (pv 3) (pv 5) (fun _ _ => rfl)) (pa_cons (pv 4) pa_nil))))))
      (pss_cons (ps_set (i := 6) scA.nd rfl (Or.inl rfl) (pe_lst pa_nil))
      (pss_cons (ps_setCompF (i := 7) scA.nd rfl (Or.inl rfl) (own := ["number"]) (g := gName 0) S2 rfl (pi_range1 rfl T.range (pa_cons (pv 1) pa_nil)) (fun C s2 H2 fp => pg_name (i := 0) ndA2 rfl (Or.inl rfl) (Or.inr rfl))
        (fun C s2 H2 fp => pt_cmpR op_eq (pe_ix (r := rIxL K) ix_list (pv 1) (pv 0) (fun _ _ => rfl)) pe_int (nomark _)) (fun C s2 H2 fp => pv 0))
      h5)))), ?_⟩
    refine ⟨(by show 1 ≤ sizeLine; decide), fun l0 hl0 => ?_⟩
    have s0 : Same H (upd H l0 (.lst [.int 0])) := sameNew hl0
    refine ⟨_, rfl, l0, (n : Int), _, rfl, rfl, upd_same, by omega, by omega, ?_, fun pl hpl => ?_⟩
    · show 1 * (n : Int).toNat ≤ sizeLine
      have := small (n := 100) (by decide)
      omega
    have hpl0 : H pl = none := s0.free hpl
    have s1 : Same H (upd (upd H l0 (.lst [.int 0])) pl (.lst (List.replicate (n : Int).toNat [V.int 0]).flatten)) := s0.trans (sameNew hpl)
    have hl1 : (upd (upd H l0 (.lst [.int 0])) pl (.lst (List.replicate (n : Int).toNat [V.int 0]).flatten)) pl = some (.lst (cnts n fun v => (ps.take 0).countP fun q => decide (q.1 = v))) := by
      rw [upd_same]
      exact congrArg (fun z => some (HO.lst z)) (cnts_zero n)
    generalize upd (upd H l0 (.lst [.int 0])) pl (.lst (List.replicate (n : Int).toNat [V.int 0]).flatten) = H1 at s1 hl1
    refine ⟨_, rfl, (n : Int), rfl, by omega, by omega, fun pr hpr => ?_⟩
    refine comp_news (n := n) (by omega) ⟨none, rfl⟩ hpr fun as H2 s2 ll => ?_
    have hplr : pl ≠ pr := ne_of_none hl1 hpr
    have hpla : pl ∉ as := fun z => by
      have := (ll.new pl z).1
      rw [hl1] at this
      cases this
    have ll0 : NewLL H H2 pr as (nxG (·.2) (·.1) (ps.take 0) n) := by
      rw [List.take_zero, nxG_nil]
      exact ⟨ll.top, ll.nd, fun b hb => ⟨s1.free (ll.new b hb).1, (ll.new b hb).2⟩, ll.at_⟩
    have hp2 := (s1.trans s2) _ _ hp
    refine ⟨_, rfl, p, rfl, ⟨_, SqL.of hp2⟩, ?_⟩
    refine for_list (K := K) (a := p) (xs := xs) (fun i σ H3 => ∃ (v4 v5 : Option V), σ = [some (.ref p), some (natV n), some (.ref pl), some (.ref pr), v4, v5, none, none, none] ∧ Same H H3 ∧ H3 pl = some (.lst (cnts n fun v => (ps.take i).countP fun q => decide (q.1 = v))) ∧ NewLL H H3 pr as (nxG (·.2) (·.1) (ps.take i) n))
      ⟨none, none, rfl, s1.trans s2, s2 _ _ hl1, ll0⟩ (fun i σ H3 _ ⟨_, _, _, s3, _⟩ => SqL.of (s3 _ _ hp)) ?_ ?_
    · rintro i x σ H3 hi ⟨v4, v5, rfl, s3, hl3, ll3⟩
      obtain ⟨pq, hpq, t, rfl, ht⟩ := Paired.get hps hi
      have hpm := hb pq (List.mem_of_getElem? hpq)
      refine ⟨t, _, rfl, SqT.of (s3 _ _ ht), rfl, _, _, rfl, _, _, rfl, rfl, ?_⟩
      refine ⟨_, rfl, _, rfl, pl, _, _, _, rfl, rfl, SqL.of hl3, atI_nat (cnts_get hpm.1), _, _, rfl, rfl, ?_⟩
      refine ⟨_, rfl, _, rfl, pl, _, _, pq.1, rfl, rfl, hl3, by rw [cnts_len]; exact ix_nat hpm.1, ?_⟩
      generalize hH4 : upd H3 pl (.lst ((cnts n fun v => (ps.take i).countP fun q => decide (q.1 = v)).set pq.1 (V.int (((ps.take i).countP fun q => decide (q.1 = pq.1) : Nat) + 1)))) = H4
      have hl4 : H4 pl = some (.lst (cnts n fun v => (ps.take (i + 1)).countP fun q => decide (q.1 = v))) := by
        rw [← hH4, upd_same]
        have e1 : V.int ((((ps.take i).countP fun q => decide (q.1 = pq.1) : Nat) : Int) + 1) = natV ((ps.take i).countP (fun q => decide (q.1 = pq.1)) + 1) := rfl
        rw [e1, cnts_set hpm.1]
        refine congrArg (fun z => some (HO.lst z)) (cnts_congr fun v _ => ?_)
        rw [List.take_succ, hpq]
        exact (cnt_snoc (ps.take i) pq v).symm
      have s4 : Same H H4 := by rw [← hH4]; exact sameUpd hpl0 s3
      have ll4 : NewLL H H4 pr as (nxG (·.2) (·.1) (ps.take i) n) := ll3.keep fun b o hbb eb => by
        rw [← hH4, upd_ne]
        · exact eb
        · rcases hbb with rfl | z
          · exact Ne.symm hplr
          · exact fun z' => hpla (z' ▸ z)
      have hx := nxG_get (key := (·.2)) (val := (·.1)) (ps := ps.take i) hpm.2
      obtain ⟨b, e1, e2⟩ := listsAt_get ll4.at_ hx
      have hbm := List.mem_of_getElem? e1
      have hbl : (nats (((ps.take i).filter fun p => decide (p.2 = pq.2)).map (·.1))).length < sizeLine := by
        refine small ?_
        unfold nats
        rw [List.length_map, List.length_map]
        have := List.length_filter_le (fun p : Pr => decide (p.2 = pq.2)) (ps.take i)
        rw [List.length_take] at this
        omega
      refine ⟨_, rfl, _, rfl, pr, _, _, _, rfl, rfl, SqL.of ll4.top, atI_nat (show (as.map V.ref)[pq.2]? = some (.ref b) by rw [List.getElem?_map, e1]; rfl), .inl ⟨rfl, _, SqL.of e2⟩, ?_⟩
      refine ⟨_, rfl, b, _, _, rfl, rfl, e2, hbl, ?_⟩
      refine ⟨_, _, rfl, sameUpd (ll4.new b hbm).1 s4, ?_, ?_⟩
      · have hne : pl ≠ b := fun z => hpla (by rw [z]; exact hbm)
        rw [upd_ne hne]
        exact hl4
      · rw [List.take_succ, hpq]
        have := ll4.app hx e1 pq.1
        rw [nxG_snoc (key := (·.2)) (val := (·.1)) hpm.2] at this
        exact this
    · rintro σ H3 ⟨v4, v5, rfl, s3, hl3, ll3⟩
      rw [Paired.length hps, List.take_length] at hl3 ll3
      refine ⟨Nat.zero_le _, fun pw hpw => ?_⟩
      have s4 : Same H3 (upd H3 pw (.lst [])) := sameNew hpw
      have hpw0 : H pw = none := s3.free hpw
      have hpw4 : (upd H3 pw (.lst [])) pw = some (.lst []) := upd_same
      generalize upd H3 pw (.lst []) = H4 at s4 hpw4
      have hlw : pl ≠ pw := ne_of_none hl3 hpw
      have hrw : pw ≠ pr := Ne.symm (ne_of_none ll3.top hpw)
      have hwas : pw ∉ as := fun z => by
        obtain ⟨j, hj, ej⟩ := List.getElem_of_mem z
        obtain ⟨l, e1, e2⟩ := Paired.get ll3.at_ (i := j) (x := pw) (by rw [List.getElem?_eq_getElem hj, ej])
        rw [e2] at hpw
        cases hpw
      have hl4 := s4 _ _ hl3
      refine ⟨_, rfl, (n : Int), rfl, by omega, by omega, fun c hc => ?_⟩
      refine compF_range (lo := 0) (n := n) (fun i acc σc H5 => (∃ v0, σc = [v0, some (.ref pl)]) ∧ Same H4 H5 ∧ H5 c = some (.lst acc) ∧ acc = nats ((List.range i).filter fun v => decide (cntP ps [] v = 0)))
        ⟨⟨none, rfl⟩, sameNew hc, upd_same, rfl⟩ ?_ ?_
      · rintro i acc σc H5 hi ⟨⟨v0, rfl⟩, s5, hc5, rfl⟩
        have e0 : V.int (0 + (i : Int)) = natV i := by show V.int _ = V.int _; congr 1; omega
        rw [e0]
        have hl5 := s5 _ _ hl4
        refine ⟨_, rfl, _, rfl, pl, _, _, _, rfl, rfl, SqL.of hl5, atI_nat (cnts_get hi), rfl, _, rfl, ?_⟩
        have ec := cntP_nil ps i
        have er : (List.range (i + 1)).filter (fun v => decide (cntP ps [] v = 0)) = (List.range i).filter (fun v => decide (cntP ps [] v = 0)) ++ (if cntP ps [] i = 0 then [i] else []) := by
          rw [List.range_succ, List.filter_append, List.filter_cons]
          by_cases h : cntP ps [] i = 0
          · simp [h]
          · simp [h]
        by_cases hz : cntP ps [] i = 0
        · refine ifT (by rw [← ec, hz]; rfl) ⟨_, rfl, ?_⟩
          rw [if_pos hz] at er
          have hlen := List.length_filter_le (fun v => decide (cntP ps [] v = 0)) (List.range i)
          rw [List.length_range] at hlen
          refine cturn hc5 (small (by unfold nats; rw [List.length_map]; omega)) hi ⟨⟨_, rfl⟩, sameUpd hc s5, upd_same, ?_⟩
          rw [er]
          unfold nats
          rw [List.map_append]
          rfl
        · rw [if_neg hz, List.append_nil] at er
          refine ifF (decide_eq_false fun z => hz ?_) (cstep hi (acc := nats ((List.range i).filter fun v => decide (cntP ps [] v = 0))) ⟨⟨_, rfl⟩, s5, hc5, by rw [er]⟩)
          have := V.int.inj z
          rw [ec]
          omega
      · rintro acc σc H5 ⟨_, s5, hc5, rfl⟩
        refine r5 _ Q H5 _ _ pl pr pw c as [] n ps [] ((List.range n).filter fun v => decide (cntP ps [] v = 0)) _ _ hb hn hpl0 hpw0 ?_ (fun as ws H' sm ll ok st => q pw as ws H' sm hpw0 ll ok st)
        have s345 := s3.trans (s4.trans s5)
        refine ⟨s345, ?_, ll3.keep fun b o _ eb => s5 _ _ (s4 _ _ eb), ⟨s5 _ _ hpw4, List.nodup_nil, fun b hb => (by cases hb), .nil⟩, hc5, (s3.trans s4).free hc, ⟨hplr, hpla, hlw, fun z => (by cases z), ne_of_none hl4 hc⟩, ⟨hrw, hwas, ne_of_none hpw4 hc, fun z => (by cases z)⟩, Kahn.start rfl⟩
        rw [s5 _ _ hl4]
        refine congrArg (fun z => some (HO.lst z)) (cnts_congr fun v _ => ?_)
        exact (cntP_nil ps v).symm
end
end K5
namespace K5
open PySem PyProof.Rows L2 G4
def spRing : Sp := fun vs H Q _ => ∃ (p : Addr) (xs : List V) (n : Nat) (ps : List Pr), vs = [.ref p, natV n] ∧ H p = some (.lst xs) ∧ PrsAt H xs ps ∧ Below n ps ∧ n ≤ 60 ∧ ps.length ≤ 1000 ∧
  (∀ H' : Hp, Same H H' → (∀ v, ¬ Reach ps v v) → Q .non H') ∧ ∀ (r : Addr) (rs : List Nat) (H' : Hp), Same H H' → H r = none → H' r = some (.lst (nats rs)) → IsRing ps n rs → Q (.ref r) H'
theorem inV_nats (x : Nat) (l : List Nat) : inV (natV x) (nats l) = decide (x ∈ l) := by
  induction l with
  | nil => rfl
  | cons a l ih =>
    show (eqV _ _ || inV (natV x) (nats l)) = _
    rw [ih]
    have e : eqV (natV x) (natV a) = decide (x = a) ∧ eqV (natV a) (natV x) = decide (x = a) := by
      constructor
      · show decide ((x : Int) = (a : Int)) = decide (x = a)
        by_cases h : x = a
        · subst h; simp
        · rw [decide_eq_false h]; exact decide_eq_false (by omega)
      · show decide ((a : Int) = (x : Int)) = decide (x = a)
        by_cases h : x = a
        · subst h; simp
        · rw [decide_eq_false h]; exact decide_eq_false (by omega)
    first | rw [e.1] | rw [e.2]
    by_cases h : x = a
    · subst h; simp
    · simp [h]
theorem flat_nats (l : List Nat) : (nats l).all flatV = true := by
  rw [nats_ints]
  exact flat_ints _
theorem idx_nats (x : Nat) : ∀ l : List Nat, (l.map fun k : Nat => (k : Int)).idxOf (x : Int) = l.idxOf x
  | [] => rfl
  | a :: l => by
    have ih := idx_nats x l
    rw [List.map_cons, List.idxOf_cons, List.idxOf_cons, ih]
    by_cases h : a = x
    · subst h; simp
    · have h1 : (a == x) = false := by simpa using h
      have h2 : (((a : Nat) : Int) == ((x : Nat) : Int)) = false := by simpa using (by omega : ¬ (a : Int) = x)
      rw [h1, h2]
def toN : V → Nat
  | .int k => k.toNat
  | _ => 0
/-- what is told by onward -/
structure OnOk (ps : List Pr) (W : List Nat) (i : Nat) (f : Nat → Option V) : Prop where
  sound : ∀ u v, f u = some v → ∃ m, v = natV m ∧ (u, m) ∈ ps ∧ m ∉ W
  all : ∀ p ∈ ps.take i, p.2 ∉ W → f p.1 ≠ none
theorem OnOk.start {ps : List Pr} {W : List Nat} : OnOk ps W 0 fun _ => none := ⟨fun u v z => (by cases z), fun p hp => (by rw [List.take_zero] at hp; cases hp)⟩
theorem OnOk.skip {ps : List Pr} {W : List Nat} {i : Nat} {f : Nat → Option V} {p : Pr} (o : OnOk ps W i f) (h : ps[i]? = some p) (hw : p.2 ∈ W) : OnOk ps W (i + 1) f := by
  refine ⟨o.sound, fun q hq hqw => ?_⟩
  rw [List.take_succ, h] at hq
  rcases List.mem_append.mp hq with z | z
  · exact o.all q z hqw
  · have e : q = p := by simpa using z
    subst e
    exact absurd hw hqw
theorem OnOk.put {ps : List Pr} {W : List Nat} {i : Nat} {f : Nat → Option V} {p : Pr} (o : OnOk ps W i f) (h : ps[i]? = some p) (hw : p.2 ∉ W) : OnOk ps W (i + 1) fun k => if k = p.1 then some (natV p.2) else f k := by
  refine ⟨fun u v hv => ?_, fun q hq hqw => ?_⟩
  · by_cases e : u = p.1
    · rw [if_pos e] at hv
      cases hv
      exact ⟨p.2, rfl, by rw [e]; exact List.mem_of_getElem? h, hw⟩
    · rw [if_neg e] at hv
      exact o.sound u v hv
  · by_cases e : q.1 = p.1
    · rw [if_pos e]; exact fun z => (by cases z)
    · rw [if_neg e]
      rw [List.take_succ, h] at hq
      rcases List.mem_append.mp hq with z | z
      · exact o.all q z hqw
      · have e' : q = p := by simpa using z
        subst e'
        exact absurd rfl e
abbrev NR : List Str := ["pairs", "many", "free", "wave", "number", "onward", "reader", "made", "gone"]
theorem scR : FnScope NR ["pairs", "many"] (defScope sRing) := ⟨rfl, rfl, rfl, by decide +kernel, rfl, by decide +kernel, by decide +kernel⟩
section
variable {P : Program} {w : World} {K : PySem.W.Frag} {mg : Str → Option Value} {base : Heap}
abbrev XR (P : Program) (w : World) (K : PySem.W.Frag) (mg : Str → Option Value) (base : Heap) (f : Addr) (cdv : Value) (A : Around) (outer : List Env) (s : Shared) (H : Hp) (E : XK) : Cx := (cxOf CX0 P w K mg base NR "ring_in" (defScope sRing) f cdv A outer s H E).nox
/-- going on until one comes back -/
theorem ring_go {f : Addr} {cdv : Value} {A : Around} {outer : List Env} {s : Shared} {H : Hp} {E : XK} (T : Txt K mg) (hu : (XR P w K mg base f cdv A outer s H E).A.units + 1 < cLine) :
    ∃ t, PSs (XR P w K mg base f cdv A outer s H E) ((defBody sRing).drop 5) t ∧ ∀ (nx : L2.St → Hp → Prop) (Q : VK) (H3 : Hp) (v0 v1 v2 v3 v4 v6 v7 : Option V) (d : Addr) (kvs : List (Key × V)) (ks : List Nat) (g : Nat → Option V) (n : Nat) (ps : List Pr),
      Same H H3 → n ≤ 60 → H3 d = some (.dK kvs) → DNat n kvs ks g → ks ≠ [] → (∀ u v, g u = some v → ∃ m, v = natV m ∧ (u, m) ∈ ps ∧ m < n ∧ g m ≠ none) →
      (∀ (r : Addr) (rs : List Nat) (H' : Hp), Same H H' → H r = none → H' r = some (.lst (nats rs)) → IsRing ps n rs → Q (.ref r) H') →
      t { nx := nx, rt := Q } [v0, v1, v2, v3, v4, some (.ref d), v6, v7, none] H3 := by
  refine ⟨_, pss_cons (ps_set (i := 8) scR.nd rfl (Or.inl rfl) (pe_lst pa_nil))
    (pss_cons (ps_set (i := 4) scR.nd rfl (Or.inl rfl) (pe_callB (call_min rfl) rfl T.min boot_min (pa_cons (pe_callTy (call_listD rfl) rfl T.list boot_list (pa_cons (pv 5) pa_nil)) pa_nil)))
    (pss_cons (ps_while PassesOwn.never (pt_cmpR op_notIn_seq (pv 4) (pv 8) (by first | rfl | exact nomark _))
      (pss_cons (ps_expr (pe_bm PySem.F.plainAttrs_list PySem.F.slot_list_append PySem.F.type_list_append mt_append (pv 8) (pa_cons (pv 4) pa_nil)))
      (pss_one (ps_set (i := 4) scR.nd rfl (Or.inl rfl) (pe_dget hu (pv 5) (pv 4) (fun _ _ => rfl))))))
    (pss_one (ps_ret (pe_slice sl_list (pv 8) (po_some (pe_bm PySem.F.plainAttrs_list PySem.F.slot_list_index PySem.F.type_list_index mt_index (pv 8) (pa_cons (pv 4) pa_nil))) po_none))))), ?_⟩
  intro nx Q H3 v0 v1 v2 v3 v4 v6 v7 d kvs ks g n ps s3 hn hd dn hks hon q
  refine ⟨Nat.zero_le _, fun pg hpg => ?_⟩
  have s4 : Same H3 (upd H3 pg (.lst [])) := sameNew hpg
  have hg4 : (upd H3 pg (.lst [])) pg = some (.lst (nats [])) := upd_same
  generalize upd H3 pg (.lst []) = H4 at s4 hg4
  have hpg0 : H pg = none := s3.free hpg
  have hpd : pg ≠ d := Ne.symm (ne_of_none hd hpg)
  refine ⟨_, rfl, d, kvs, rfl, s4 _ _ hd, fun l hl => ?_⟩
  have s5 : Same H4 (upd H4 l (.lst (kvs.map fun kv => kV kv.1))) := sameNew hl
  have el : (kvs.map fun kv => kV kv.1) = (ks.map fun k : Nat => (k : Int)).map V.int := by
    have : (kvs.map fun kv => kV kv.1) = (kvs.map (·.1)).map kV := by rw [List.map_map]; rfl
    rw [this, dn.keys, List.map_map, List.map_map]
    rfl
  refine ⟨l, ks.map fun k : Nat => (k : Int), rfl, SqL.of (by rw [upd_same, el]), by simpa using hks, fun m hm _ => ?_⟩
  obtain ⟨x, hx, rfl⟩ := List.mem_map.mp hm
  generalize upd H4 l (.lst (kvs.map fun kv => kV kv.1)) = H5 at s5
  have step : ∀ u, g u ≠ none → ∃ m, g u = some (natV m) ∧ (u, m) ∈ ps ∧ m < n ∧ g m ≠ none := fun u hu => by
    cases e : g u with
    | none => exact absurd e hu
    | some v =>
      obtain ⟨m, rfl, h1, h2, h3⟩ := hon u v e
      exact ⟨m, rfl, h1, h2, h3⟩
  have key : ∀ u, u < n ∧ g u ≠ none → u < n ∧ ∃ m, (g u).map toN = some m := fun u ⟨h1, h2⟩ => by
    obtain ⟨m, e, _⟩ := step u h2
    exact ⟨h1, m, by rw [e]; rfl⟩
  refine ⟨fun m σ H6 => ∃ (gone : List Nat) (x : Nat), σ = [v0, v1, v2, v3, some (natV x), some (.ref d), v6, v7, some (.ref pg)] ∧ Same H H6 ∧ H6 d = some (.dK kvs) ∧ H6 pg = some (.lst (nats gone)) ∧ Gone ps n (fun u => (g u).map toN) gone x ∧ m = n - gone.length,
    ⟨_, [], x, rfl, s3.trans (s4.trans s5), s5 _ _ (s4 _ _ hd), s5 _ _ hg4, Gone.start (key x ⟨dn.below x hx, (dn.mem x).mp hx⟩), rfl⟩, ?_⟩
  rintro m σ H6 ⟨gone, x, rfl, s6, hd6, hg6, G, rfl⟩
  have hgl : gone.length ≤ n := nodup_len n gone G.nodup fun v hv => (G.keys v (List.mem_append_left _ hv)).1
  refine ⟨_, rfl, _, rfl, pg, _, rfl, .inl (SqL.of hg6), rfl, flat_nats gone, _, rfl, ?_⟩
  by_cases hmem : x ∈ gone
  · refine ifF (by show (!_) = false; rw [inV_nats, decide_eq_true hmem]; rfl) ?_
    refine ⟨_, rfl, _, rfl, .inl ⟨rfl, _, SqL.of hg6⟩, _, rfl, pg, gone.map fun k : Nat => (k : Int), (x : Int), rfl, rfl, SqL.of (by rw [hg6, nats_ints]), List.mem_map.mpr ⟨x, hmem, rfl⟩, _, rfl, pg, _, rfl, SqL.of hg6, fun r hr => ?_⟩
    refine q r (gone.drop (gone.idxOf x)) _ (s6.trans (sameNew hr)) (s6.free hr) ?_ (G.ring (fun u v e => ?_) hmem)
    · rw [upd_same, cut_from, idx_nats]
      unfold nats
      rw [List.map_drop]
    · cases eg : g u with
      | none => rw [eg] at e; cases e
      | some z =>
        rw [eg] at e
        obtain ⟨m, rfl, h1, _⟩ := hon u z eg
        have : m = v := by
          have := Option.some.inj e
          simpa [toN] using this
        rw [← this]
        exact h1
  · refine ifT (by show (!_) = true; rw [inV_nats, decide_eq_false hmem]; rfl) ?_
    refine ⟨fun σ' H' => ∃ m', m' < n - gone.length ∧ _, fun _ _ z => z, ?_⟩
    refine ⟨_, rfl, .inl ⟨rfl, _, SqL.of hg6⟩, _, rfl, pg, _, _, rfl, rfl, hg6, small (by unfold nats; rw [List.length_map]; omega), ?_⟩
    obtain ⟨hxn, m0, hm0⟩ := G.keys x (by simp)
    have hgx : g x ≠ none := fun z => by rw [z] at hm0; cases hm0
    obtain ⟨y, ey, hy1, hy2, hy3⟩ := step x hgx
    have hd7 : (upd H6 pg (.lst (nats gone ++ [natV x]))) d = some (.dK kvs) := by rw [upd_ne (Ne.symm hpd)]; exact hd6
    refine ⟨_, rfl, _, rfl, d, natV y, rfl, by
      have := DGet.k (k := Sum.inl (x : Int)) hd7
      rw [dn.val, ey] at this
      exact this, ?_⟩
    have G' := G.step hmem (y := y) (by rw [ey]; show some (toN (natV y)) = some y; simp [toN]) (key y ⟨hy2, hy3⟩)
    have hgl' := nodup_len n _ G'.nodup fun v hv => (G'.keys v (List.mem_append_left _ hv)).1
    rw [List.length_append] at hgl'
    refine ⟨n - (gone ++ [x]).length, by rw [List.length_append]; simp at hgl' ⊢; omega, gone ++ [x], y, rfl, sameUpd hpg0 s6, hd7, ?_, G', rfl⟩
    rw [upd_same]
    unfold nats
    rw [List.map_append]
    rfl
end
end K5
namespace K5
open PySem PyProof.Rows L2 G4
section
variable {P : Program} {w : World} {K : PySem.W.Frag} {mg : Str → Option Value} {base : Heap}
theorem ok_ring {f f1 : Addr} {fd fd1 : FuncData} (F : Fun K "ring_in" "ring_in" sRing f fd) (F1 : Fun K "waves_ahead" "waves_ahead" sAhead f1 fd1) (m1 : mg "waves_ahead" = some (.ref f1)) (b1 : Binds K fd1 ["pairs", "many"] []) (T : Txt K mg) :
    FnOk P w K mg base CX0 2 f fd ["pairs", "many"] spRing := by
  have G1 : FnOk P w K mg base CX0 1 f1 fd1 ["pairs", "many"] spAhead := ok_ahead F1 T
  refine F.ok scR (fun vs H Q E h => ?_) (fun cdv A outer s H vs Q E hr h => ?_)
  · obtain ⟨p, xs, n, ps, rfl, _⟩ := h
    rfl
  · obtain ⟨p, xs, n, ps, rfl, hp, hps, hb, hn, hl, qN, qR⟩ := h
    have hu := hu_of hr
    obtain ⟨t5, h5, r5⟩ := ring_go (P := P) (w := w) (K := K) (mg := mg) (base := base) (f := f) (cdv := cdv) (A := A) (outer := outer) (s := s) (H := H) (E := E) T hu
    refine ⟨_, pss_cons (ps_set (i := 2) scR.nd rfl (Or.inl rfl) pe_dnewK)
      (pss_cons (ps_for PassesOwn.never rfl (pi_list (pe_call G1 hr rfl m1 F1.kp b1 .nil pass0 (pa_cons (pv 0) (pa_cons (pv 1) pa_nil)))) (pg_name (i := 3) scR.nd rfl (Or.inl rfl))
        (pss_one (ps_for PassesOwn.never rfl (pi_list (pv 3)) (pg_name (i := 4) scR.nd rfl (Or.inl rfl)) (pss_one (ps_dput hu (pv 2) (pv 4) pe_bl rfl)))))
      (pss_cons (ps_set (i := 5) scR.nd rfl (Or.inl rfl) pe_dnewK)
      (pss_cons (ps_for (g := gPair K 6 7) PassesOwn.never rfl (pi_list (pv 0)) (pg_tup rfl (pgs_cons (pg_name (i := 6) scR.nd rfl (Or.inl rfl)) (pgs_cons (pg_name (i := 7) scR.nd rfl (Or.inl rfl)) pgs_nil)))
        (pss_one (ps_if (pt_cmp (pc_dnotin hu (pv 7) (pv 2))) (pss_one (ps_dput hu (pv 5) (pv 6) (pv 7) rfl)) pss_nil)))
      (pss_cons (ps_if (pt_cmpR op_eq (pe_callB call_lenD (by rfl) T.len PySem.boot_len (pa_cons (pv 5) pa_nil)) pe_int (nomark _)) (pss_one (ps_ret pe_non)) pss_nil)
      h5)))), ?_⟩
    intro df hdf
    have s1 : Same H (upd H df (.dK [])) := sameNew hdf
    have hdf1 : (upd H df (.dK [])) df = some (.dK []) := upd_same
    generalize upd H df (.dK []) = H1 at s1 hdf1
    refine ⟨_, rfl, _, rfl, p, xs, n, ps, rfl, s1 _ _ hp, PrsAt.mono (fun b ys e => s1 _ _ e) hps, hb, hn, hl, fun q as ws H2 s2 hq ll ok st => ?_⟩
    have hqd : q ≠ df := Ne.symm (ne_of_none hdf1 hq)
    have hasd : df ∉ as := fun z => by
      have := (ll.new df z).1
      rw [hdf1] at this
      cases this
    refine ⟨q, rfl, ⟨_, SqL.of ll.top⟩, ?_⟩
    have hlen := ll.len
    refine for_list (K := K) (a := q) (xs := as.map V.ref) (fun i σ H3 => ∃ (kvs : List (Key × V)) (ks : List Nat) (g : Nat → Option V) (v3 v4 : Option V), σ = [some (.ref p), some (natV n), some (.ref df), v3, v4, none, none, none, none] ∧ Same H H3 ∧ NewLL H1 H3 q as ws ∧ H3 df = some (.dK kvs) ∧ DNat n kvs ks g ∧ (∀ v, g v ≠ none ↔ v ∈ (ws.take i).flatten))
      ⟨[], [], fun _ => none, none, none, rfl, s1.trans s2, ll, s2 _ _ hdf1, DNat.nil, by simp⟩ (fun i σ H3 _ ⟨_, _, _, _, _, _, _, ll3, _⟩ => SqL.of ll3.top) ?_ ?_
    · rintro i x σ H3 hi ⟨kvs, ks, g, v3, v4, rfl, s3, ll3, hd3, dn, hg⟩
      rw [List.getElem?_map] at hi
      obtain ⟨b, hb1, rfl⟩ := Option.map_eq_some_iff.mp hi
      obtain ⟨wv, e1, e2⟩ := Paired.get ll3.at_ hb1
      have hbm := List.mem_of_getElem? hb1
      refine ⟨_, rfl, b, rfl, ⟨_, SqL.of e2⟩, ?_⟩
      have hwn : ∀ v ∈ wv, v < n := fun v hv => ok.below v (List.mem_flatten.mpr ⟨wv, List.mem_of_getElem? e1, hv⟩)
      refine for_list (K := K) (a := b) (xs := nats wv) (fun j σ H4 => ∃ (kvs : List (Key × V)) (ks : List Nat) (g : Nat → Option V) (v4 : Option V), σ = [some (.ref p), some (natV n), some (.ref df), some (.ref b), v4, none, none, none, none] ∧ Same H H4 ∧ NewLL H1 H4 q as ws ∧ H4 df = some (.dK kvs) ∧ DNat n kvs ks g ∧ (∀ v, g v ≠ none ↔ v ∈ (ws.take i).flatten ∨ v ∈ wv.take j))
        ⟨kvs, ks, g, v4, rfl, s3, ll3, hd3, dn, by simpa using hg⟩ (fun j σ H4 _ ⟨_, _, _, _, _, _, ll4, _⟩ => by
          obtain ⟨b', h1, h2⟩ := listsAt_get ll4.at_ e1
          rw [hb1] at h1
          cases h1
          exact SqL.of h2) ?_ ?_
      · rintro j x σ H4 hj ⟨kvs4, ks4, g4, u4, rfl, s4, ll4, hd4, dn4, hg4⟩
        obtain ⟨v, rfl, hv⟩ := get_nats hj
        have hvn := hwn v (List.mem_of_getElem? hv)
        obtain ⟨ks5, dn5⟩ := dn4.put hvn (.bl true)
        have l4 := dn4.len
        refine ⟨_, rfl, _, rfl, df, _, rfl, DPut.k (k := Sum.inl (v : Int)) hd4 (small (by omega)), ?_⟩
        refine ⟨_, ks5, _, _, rfl, sameUpd hdf s4, ll4.keep fun c o hc ec => ?_, upd_same, dn5, fun k => ?_⟩
        · rw [upd_ne]
          · exact ec
          · rcases hc with rfl | z
            · exact hqd
            · exact fun z' => hasd (z' ▸ z)
        · rw [List.take_succ, hv]
          by_cases e : k = v
          · subst e
            rw [if_pos rfl]
            simp
          · rw [if_neg e, hg4]
            simp [e]
      · rintro σ H4 ⟨kvs4, ks4, g4, u4, rfl, s4, ll4, hd4, dn4, hg4⟩
        refine ⟨kvs4, ks4, g4, _, _, rfl, s4, ll4, hd4, dn4, fun v => ?_⟩
        rw [hg4]
        unfold nats
        rw [List.length_map, List.take_length, List.take_succ, e1]
        simp
    · rintro σ H3 ⟨kvs, ks, g, v3, v4, rfl, s3, ll3, hd3, dn, hg⟩
      rw [List.length_map, hlen, List.take_length] at hg
      intro d2 hd2
      have s4 : Same H3 (upd H3 d2 (.dK [])) := sameNew hd2
      have hd24 : (upd H3 d2 (.dK [])) d2 = some (.dK []) := upd_same
      generalize upd H3 d2 (.dK []) = H4 at s4 hd24
      have hdd : d2 ≠ df := Ne.symm (ne_of_none hd3 hd2)
      have hd20 : H d2 = none := s3.free hd2
      refine ⟨_, rfl, p, rfl, ⟨_, SqL.of ((s3.trans s4) _ _ hp)⟩, ?_⟩
      refine for_list (K := K) (a := p) (xs := xs) (fun i σ H5 => ∃ (kv2 : List (Key × V)) (k2 : List Nat) (f2 : Nat → Option V) (v6 v7 : Option V), σ = [some (.ref p), some (natV n), some (.ref df), v3, v4, some (.ref d2), v6, v7, none] ∧ Same H H5 ∧ H5 df = some (.dK kvs) ∧ H5 d2 = some (.dK kv2) ∧ DNat n kv2 k2 f2 ∧ OnOk ps ws.flatten i f2)
        ⟨[], [], _, none, none, rfl, s3.trans s4, s4 _ _ hd3, hd24, DNat.nil, OnOk.start⟩ (fun i σ H5 _ ⟨_, _, _, _, _, _, s5, _⟩ => SqL.of (s5 _ _ hp)) ?_ ?_
      · rintro i x σ H5 hi ⟨kv2, k2, f2, v6, v7, rfl, s5, hd5, hd25, dn2, on⟩
        obtain ⟨pq, hpq, t, rfl, ht⟩ := Paired.get hps hi
        have hpm := hb pq (List.mem_of_getElem? hpq)
        refine ⟨t, _, rfl, SqT.of (s5 _ _ ht), rfl, _, _, rfl, _, _, rfl, rfl, ?_⟩
        refine ⟨_, rfl, _, rfl, df, _, rfl, DGet.k (k := Sum.inl (pq.2 : Int)) hd5, _, rfl, ?_⟩
        rw [dn.val]
        cases hgv : g pq.2 with
        | some z =>
          refine ifF rfl ⟨kv2, k2, f2, _, _, rfl, s5, hd5, hd25, dn2, on.skip hpq ((hg pq.2).mp (by rw [hgv]; exact fun z => (by cases z)))⟩
        | none =>
          have hnw : pq.2 ∉ ws.flatten := fun z => (hg pq.2).mpr z hgv
          obtain ⟨k3, dn3⟩ := dn2.put hpm.1 (natV pq.2)
          have l2 := dn2.len
          refine ifT rfl ⟨_, rfl, _, rfl, _, rfl, d2, _, rfl, DPut.k (k := Sum.inl (pq.1 : Int)) hd25 (small (by omega)), ?_⟩
          refine ⟨_, k3, _, _, _, rfl, sameUpd hd20 s5, ?_, upd_same, dn3, on.put hpq hnw⟩
          rw [upd_ne (Ne.symm hdd)]
          exact hd5
      · rintro σ H5 ⟨kv2, k2, f2, v6, v7, rfl, s5, hd5, hd25, dn2, on⟩
        have onall : ∀ p ∈ ps, p.2 ∉ ws.flatten → f2 p.1 ≠ none := fun q hq => on.all q (by rw [Paired.length hps, List.take_length]; exact hq)
        have l2 := dn2.len
        refine ⟨_, rfl, d2, kv2, rfl, hd25, rfl, _, rfl, ?_⟩
        by_cases hk : k2 = []
        · subst hk
          have hz : kv2.length = 0 := by simpa using l2.1
          refine ifT (by rw [hz]; rfl) ?_
          refine qN H5 s5 (ok.noRing hb fun q hq => ?_)
          refine Classical.byContradiction fun hc => onall q hq hc ?_
          refine Classical.byContradiction fun hc2 => ?_
          have := (dn2.mem q.1).mpr hc2
          cases this
        · have hz : kv2.length ≠ 0 := by rw [l2.1]; exact fun z => hk (List.eq_nil_of_length_eq_zero z)
          refine ifF (decide_eq_false fun z => hz ?_) ?_
          · have := V.int.inj z
            omega
          · refine r5 _ Q H5 _ _ _ _ _ _ _ d2 kv2 k2 f2 n ps s5 hn hd25 dn2 hk (fun u v hv => ?_) qR
            obtain ⟨m, rfl, h1, h2⟩ := on.sound u v hv
            have hmn := (hb _ h1).2
            obtain ⟨m', h3, h4⟩ := st m hmn h2
            exact ⟨m, rfl, h1, hmn, onall (m, m') h3 h4⟩
end
end K5
namespace K5
open PySem PyProof.Rows L2 G4
def rLen (K : PySem.W.Frag) : List V → Hp → VK → Prop := fun xs H Q => ∃ p ys, xs = [.ref p] ∧ SqL K H p ys ∧ Q (.int ys.length) H
theorem call_lenK {X : Cx} {K : PySem.W.Frag} (h : X.K = K) : CallR X (.builtin "len") (rLen K) := by
  subst h
  intro pins s σ H xs us Q I r hq
  obtain ⟨p, ys, rfl, h1, q⟩ := hq
  exact call_len_seq pins s σ H _ us Q I r ⟨p, ys, rfl, .inl h1, q⟩
def rMaxT (K : PySem.W.Frag) : List V → Hp → VK → Prop := fun xs H Q => ∃ (p : Addr) (ns : List Int), xs = [.ref p] ∧ SqT K H p (ns.map V.int) ∧ ns ≠ [] ∧ ∀ m : Int, m ∈ ns → (∀ a ∈ ns, a ≤ m) → Q (.int m) H
def rMinT (K : PySem.W.Frag) : List V → Hp → VK → Prop := fun xs H Q => ∃ (p : Addr) (ns : List Int), xs = [.ref p] ∧ SqT K H p (ns.map V.int) ∧ ns ≠ [] ∧ ∀ m : Int, m ∈ ns → (∀ a ∈ ns, m ≤ a) → Q (.int m) H
theorem call_maxK {X : Cx} {K : PySem.W.Frag} (h : X.K = K) (hc : X.calm = true) : CallR X (.builtin "max") (rMaxT K) := by
  subst h
  exact call_maxT hc
theorem call_minK {X : Cx} {K : PySem.W.Frag} (h : X.K = K) (hc : X.calm = true) : CallR X (.builtin "min") (rMinT K) := by
  subst h
  exact call_minT hc
def spOf : Sp := fun vs H Q _ => ∃ (p : Addr) (xs : List V) (n : Nat) (ps : List Pr), vs = [.ref p, natV n] ∧ H p = some (.lst xs) ∧ PrsAt H xs ps ∧ Below n ps ∧ n ≤ 60 ∧ ps.length ≤ 1000 ∧
  (∀ H' : Hp, Same H H' → (∃ v, Reach ps v v) → Q .non H') ∧ ∀ (q : Addr) (as : List Addr) (ws : List (List Nat)) (H' : Hp), Same H H' → H q = none → NewLL H H' q as ws → WavesOk ps n ws → (∀ v, v < n → v ∈ ws.flatten) → Q (.ref q) H'
abbrev scO1 : Scope := { kind := .function, names := [(PySem.Str.ofString ".0", .local), (PySem.Str.ofString "wave", .local), (PySem.Str.ofString "len", .globalImplicit)], isGenerator := false, isCoroutine := false, more := [] }
theorem ndO1 : (["wave"] : List Str).Nodup := by decide +kernel
abbrev NO : List Str := ["pairs", "many", "waves"]
theorem scO : FnScope NO ["pairs", "many"] (defScope sOf) := ⟨rfl, rfl, rfl, by decide +kernel, rfl, by decide +kernel, by decide +kernel⟩
theorem sum_lens : ∀ ws : List (List Nat), (ws.map fun w => (w.length : Int)).sum = (ws.flatten.length : Int)
  | [] => rfl
  | w :: ws => by
    rw [List.map_cons, List.sum_cons, sum_lens ws, List.flatten_cons, List.length_append]
    omega
section
variable {P : Program} {w : World} {K : PySem.W.Frag} {mg : Str → Option Value} {base : Heap}
abbrev XO (P : Program) (w : World) (K : PySem.W.Frag) (mg : Str → Option Value) (base : Heap) (f : Addr) (cdv : Value) (A : Around) (outer : List Env) (s : Shared) (H : Hp) (E : XK) : Cx := (cxOf CX0 P w K mg base NO "waves_of" (defScope sOf) f cdv A outer s H E).nox
theorem csO1 {f : Addr} {cdv : Value} {A : Around} {outer : List Env} {s : Shared} {H : Hp} {E : XK} : ∃ cl, CompScope (XO P w K mg base f cdv A outer s H E) scO1 [] cl :=
  comp_scope (fun x h => cell_has h) rfl (by decide +kernel) (by decide +kernel) (show ∀ y ∈ scO1.names, y.2 = .free → (defScope sOf).names.lookup y.1 = some .cell by decide +kernel) (fun p hp => by cases hp)
theorem ok_of {f f1 : Addr} {fd fd1 : FuncData} (F : Fun K "waves_of" "waves_of" sOf f fd) (F1 : Fun K "waves_ahead" "waves_ahead" sAhead f1 fd1) (m1 : mg "waves_ahead" = some (.ref f1)) (b1 : Binds K fd1 ["pairs", "many"] []) (T : Txt K mg) :
    FnOk P w K mg base CX0 2 f fd ["pairs", "many"] spOf := by
  have G1 : FnOk P w K mg base CX0 1 f1 fd1 ["pairs", "many"] spAhead := ok_ahead F1 T
  refine F.ok scO (fun vs H Q E h => ?_) (fun cdv A outer s H vs Q E hr h => ?_)
  · obtain ⟨p, xs, n, ps, rfl, _⟩ := h
    rfl
  · obtain ⟨p, xs, n, ps, rfl, hp, hps, hb, hn, hl, qN, qR⟩ := h
    obtain ⟨cl, S⟩ := csO1 (P := P) (w := w) (K := K) (mg := mg) (base := base) (f := f) (cdv := cdv) (A := A) (outer := outer) (s := s) (H := H) (E := E)
    refine ⟨_, pss_cons (ps_set (i := 2) scO.nd rfl (Or.inl rfl) (pe_call G1 hr rfl m1 F1.kp b1 .nil pass0 (pa_cons (pv 0) (pa_cons (pv 1) pa_nil))))
      (pss_cons (ps_if (pt_cmpR op_lt (pe_callB (call_sum rfl) rfl T.sum boot_sum (pa_cons (pe_comp (own := ["wave"]) (g := gName 0) S rfl (pi_list (pv 2)) (fun C s2 H2 fp => pg_name (i := 0) ndO1 rfl (Or.inl rfl) (Or.inr rfl))
          (fun C s2 H2 fp => pe_callB (r := rLen K) (call_lenK rfl) (by rfl) T.len PySem.boot_len (pa_cons (pv 0) pa_nil))) pa_nil)) (pv 1) (nomark _)) (pss_one (ps_ret pe_non)) pss_nil)
      (pss_one (ps_ret (pv 2)))), ?_⟩
    refine ⟨_, rfl, _, rfl, p, xs, n, ps, rfl, hp, hps, hb, hn, hl, fun q as ws H2 s2 hq ll ok st => ?_⟩
    have hflat := nodup_len n _ ok.nodup ok.below
    have hwsl : ws.length ≤ n := by
      have : ∀ l : List (List Nat), (∀ x ∈ l, x ≠ []) → l.length ≤ l.flatten.length := by
        intro l
        induction l with
        | nil => intro _; simp
        | cons a l ih =>
          intro h
          have h1 := ih fun x hx => h x (List.mem_cons_of_mem _ hx)
          have h2 := List.length_pos_iff.mpr (h a List.mem_cons_self)
          rw [List.flatten_cons, List.length_append, List.length_cons]
          omega
      have := this ws ok.full
      omega
    refine ⟨_, rfl, q, rfl, ⟨_, SqL.of ll.top⟩, fun D hD => ?_⟩
    refine comp_list (K := K) (a := q) (D := D) (xs := as.map V.ref) (ni := 0) (fun i acc σc H3 => (∃ v0, σc = [v0]) ∧ Same H2 H3 ∧ H3 D = some (.lst acc) ∧ acc = ((ws.take i).map fun w => (w.length : Int)).map V.int)
      ⟨⟨none, rfl⟩, sameNew hD, upd_same, rfl⟩ (fun i acc σc H3 _ ⟨_, s3, _⟩ => SqL.of (s3 _ _ ll.top)) ?_ ?_
    · rintro i x acc σc H3 hi hx ⟨⟨v0, rfl⟩, s3, hD3, rfl⟩
      rw [List.getElem?_map] at hx
      obtain ⟨b, hb1, rfl⟩ := Option.map_eq_some_iff.mp hx
      obtain ⟨wv, e1, e2⟩ := Paired.get ll.at_ hb1
      refine ⟨_, rfl, b, _, rfl, SqL.of (s3 _ _ e2), ?_⟩
      refine cturn hD3 (small (by rw [List.length_map, List.length_map, List.length_take]; omega)) hi ⟨⟨_, rfl⟩, sameUpd hD s3, upd_same, ?_⟩
      rw [List.take_succ, e1, List.map_append, List.map_append]
      unfold nats
      rw [List.length_map]
      rfl
    · rintro acc σc H3 ⟨_, s3, hD3, rfl⟩
      rw [List.length_map, ll.len, List.take_length] at hD3
      refine ⟨D, ws.map fun w => (w.length : Int), rfl, SqL.of hD3, by rw [List.length_map]; omega, fun m hm => ?_, ?_⟩
      · obtain ⟨wv, hwv, rfl⟩ := List.mem_map.mp hm
        have : wv.length ≤ n := nodup_len n wv ((ok.rise wv hwv).imp fun h => Nat.ne_of_lt h) fun v hv => ok.below v (List.mem_flatten.mpr ⟨wv, hwv, hv⟩)
        omega
      rw [sum_lens]
      refine ⟨_, rfl, _, _, rfl, rfl, _, rfl, ?_⟩
      have s03 := s2.trans s3
      by_cases hlt : ws.flatten.length < n
      · refine ifT (decide_eq_true (by omega)) ?_
        obtain ⟨v, hv, hnv⟩ := missing hlt
        obtain ⟨rs, R⟩ := st.ring hb hv hnv
        exact qN H3 s03 R.reach
      · refine ifF (decide_eq_false (by omega)) ?_
        exact ⟨_, rfl, qR q as ws H3 s03 hq (ll.keep fun b o _ e => s3 _ _ e) ok (cover ok.nodup ok.below (by omega))⟩
end
end K5
namespace K5
open PySem PyProof.Rows L2 G4
theorem home_one {ps : List Pr} {n : Nat} {ws : List (List Nat)} (ok : WavesOk ps n ws) {i : Nat} {w : List Nat} {v : Nat} (h : ws[i]? = some w) (hv : v ∈ w) : v ∉ (ws.take i).flatten := by
  intro hz
  obtain ⟨hi, e⟩ := List.getElem?_eq_some_iff.mp h
  have e2 : ws = ws.take i ++ ws[i] :: ws.drop (i + 1) := by rw [List.getElem_cons_drop, List.take_append_drop]
  have h2 := ok.nodup
  rw [e2, List.flatten_append, List.flatten_cons, List.nodup_append] at h2
  exact h2.2.2 v hz v (List.mem_append_left _ (by rw [e]; exact hv)) rfl
theorem mem_take_flat {ws : List (List Nat)} {i j : Nat} {w : List Nat} {v : Nat} (h : ws[j]? = some w) (hv : v ∈ w) (hij : j < i) : v ∈ (ws.take i).flatten := by
  refine List.mem_flatten.mpr ⟨w, ?_, hv⟩
  have : (ws.take i)[j]? = some w := by rw [List.getElem?_take_of_lt hij]; exact h
  exact List.mem_of_getElem? this
open Classical in
theorem homes_exist {ps : List Pr} {n : Nat} {ws : List (List Nat)} (ok : WavesOk ps n ws) : ∃ hm, Homes ws hm := by
  let hm : Nat → Nat := fun v => if h : ∃ i w, ws[i]? = some w ∧ v ∈ w then Classical.choose h else 0
  refine ⟨hm, fun i w v h1 h2 => ?_⟩
  have h : ∃ i w, ws[i]? = some w ∧ v ∈ w := ⟨i, w, h1, h2⟩
  have e : hm v = Classical.choose h := dif_pos h
  obtain ⟨w', h3, h4⟩ := Classical.choose_spec h
  rw [e]
  rcases Nat.lt_trichotomy (Classical.choose h) i with z | z | z
  · exact absurd (mem_take_flat h3 h4 z) (home_one ok h1 h2)
  · exact z
  · exact absurd (mem_take_flat h1 h2 z) (home_one ok h3 h4)
def spRight : Sp := fun vs H Q _ => ∃ (q p : Addr) (xs : List V) (n : Nat) (ps : List Pr) (as : List Addr) (ws : List (List Nat)), vs = [.ref q, .ref p, natV n] ∧ H q = some (.lst (as.map V.ref)) ∧ ListsAt H as ws ∧ WavesOk ps n ws ∧ (∀ v, v < n → v ∈ ws.flatten) ∧ H p = some (.lst xs) ∧ PrsAt H xs ps ∧ Below n ps ∧ n ≤ 60 ∧ ps.length ≤ 1000 ∧ ∀ H' : Hp, Same H H' → Q (.bl true) H'
abbrev scI1 : Scope := { kind := .function, names := [(PySem.Str.ofString ".0", .local), (PySem.Str.ofString "_law_one", .local)], isGenerator := false, isCoroutine := false, more := [] }
abbrev scI2 : Scope := { kind := .function, names := [(PySem.Str.ofString ".0", .local), (PySem.Str.ofString "_law_one", .local), (PySem.Str.ofString "_law_home", .free), (PySem.Str.ofString "_law_least", .free)], isGenerator := false, isCoroutine := false, more := [] }
theorem ndI1 : (["_law_one"] : List Str).Nodup := by decide +kernel
theorem ndI2 : (["_law_one", "_law_home", "_law_least"] : List Str).Nodup := by decide +kernel
abbrev NI : List Str := ["_law_found", "_law_pairs_here", "_law_many", "_law_home", "_law_number", "_law_one", "_law_least", "_law_other"]
theorem scI : FnScope NI ["_law_found", "_law_pairs_here", "_law_many"] (defScope sRight) := ⟨rfl, rfl, rfl, by decide +kernel, rfl, by decide +kernel, by decide +kernel⟩
section
variable {P : Program} {w : World} {K : PySem.W.Frag} {mg : Str → Option Value} {base : Heap}
abbrev XI (P : Program) (w : World) (K : PySem.W.Frag) (mg : Str → Option Value) (base : Heap) (f : Addr) (cdv : Value) (A : Around) (outer : List Env) (s : Shared) (H : Hp) (E : XK) : Cx := (cxOf CX0 P w K mg base NI "_law_right" (defScope sRight) f cdv A outer s H E).nox
theorem csI1 {f : Addr} {cdv : Value} {A : Around} {outer : List Env} {s : Shared} {H : Hp} {E : XK} : ∃ cl, CompScope (XI P w K mg base f cdv A outer s H E) scI1 [] cl :=
  comp_scope (fun x h => cell_has h) rfl (by decide +kernel) (by decide +kernel) (show ∀ y ∈ scI1.names, y.2 = .free → (defScope sRight).names.lookup y.1 = some .cell by decide +kernel) (fun p hp => by cases hp)
theorem csI2 {f : Addr} {cdv : Value} {A : Around} {outer : List Env} {s : Shared} {H : Hp} {E : XK} : ∃ cl, CompScope (XI P w K mg base f cdv A outer s H E) scI2 [("_law_home", 3), ("_law_least", 6)] cl :=
  comp_scope (fun x h => cell_has h) rfl (by decide +kernel) (by decide +kernel) (show ∀ y ∈ scI2.names, y.2 = .free → (defScope sRight).names.lookup y.1 = some .cell by decide +kernel) (fun p hp => by
    have e : p = ((PySem.Str.ofString "_law_home"), 3) ∨ p = ((PySem.Str.ofString "_law_least"), 6) := by simpa using hp
    rcases e with e | e
    · subst e
      exact ⟨rfl, rfl, rfl⟩
    · subst e
      exact ⟨rfl, rfl, rfl⟩)
/-- the last three statements -/
theorem right_end {f : Addr} {cdv : Value} {A : Around} {outer : List Env} {s : Shared} {H : Hp} {E : XK} (T : Txt K mg) (hu : (XI P w K mg base f cdv A outer s H E).A.units + 1 < cLine) :
    ∃ t, PSs (XI P w K mg base f cdv A outer s H E) ((defBody sRight).drop 4) t ∧ ∀ (nx : L2.St → Hp → Prop) (Q : VK) (H3 : Hp) (v0 v4 v5 : Option V) (p d : Addr) (xs : List V) (n : Nat) (ps : List Pr) (ws : List (List Nat)) (kvs : List (Key × V)) (ks : List Nat) (g : Nat → Option V) (hm : Nat → Nat),
      Same H H3 → H3 p = some (.lst xs) → PrsAt H3 xs ps → Below n ps → n ≤ 60 → WavesOk ps n ws → (∀ v, v < n → v ∈ ws.flatten) → Homes ws hm → H3 d = some (.dK kvs) → DNat n kvs ks g → (∀ v, v < n → g v = some (natV (hm v))) →
      (∀ H' : Hp, Same H H' → Q (.bl true) H') → t { nx := nx, rt := Q } [v0, some (.ref p), some (natV n), some (.ref d), v4, v5, none, none] H3 := by
  obtain ⟨cl1, S1⟩ := csI1 (P := P) (w := w) (K := K) (mg := mg) (base := base) (f := f) (cdv := cdv) (A := A) (outer := outer) (s := s) (H := H) (E := E)
  obtain ⟨cl2, S2⟩ := csI2 (P := P) (w := w) (K := K) (mg := mg) (base := base) (f := f) (cdv := cdv) (A := A) (outer := outer) (s := s) (H := H) (E := E)
  refine ⟨_, pss_cons (ps_set (i := 6) scI.nd rfl (Or.inr rfl) (pe_comp (own := ["_law_one"]) (g := gName 0) S1 rfl (pi_range1 rfl T.range (pa_cons (pv 2) pa_nil)) (fun C s2 H2 fp => pg_name (i := 0) ndI1 rfl (Or.inl rfl) (Or.inr rfl)) (fun C s2 H2 fp => pe_int)))
    (pss_cons (ps_for (g := gPair K 5 7) PassesOwn.never rfl (pi_list (pv 1)) (pg_tup rfl (pgs_cons (pg_name (i := 5) scI.nd rfl (Or.inl rfl)) (pgs_cons (pg_name (i := 7) scI.nd rfl (Or.inl rfl)) pgs_nil)))
      (pss_one (ps_asg (pe_callB (call_max2 rfl) rfl T.max boot_max (pa_cons (pe_ix ix_list (pv 6) (pv 5) (fun _ _ => rfl)) (pa_cons (pe_op op_add (pe_dget hu (pv 3) (pv 7) (fun _ _ => rfl)) pe_int) pa_nil))) (pg_sub (pv 6) (pv 5) set_list))))
    (pss_one (ps_ret (pe_cmpR (op_eq2 hu) (pe_compF (own := ["_law_one"]) (g := gName 0) S2 rfl (pi_range1 rfl T.range (pa_cons (pv 2) pa_nil)) (fun C s2 H2 fp => pg_name (i := 0) ndI2 rfl (Or.inl rfl) (Or.inr rfl))
      (fun C s2 H2 fp => pt_cmpR op_ne (pe_dget hu (pv 1) (pv 0) (fun _ _ => rfl)) (pe_ix (r := rIxL K) ix_list (pv 2) (pv 0) (fun _ _ => rfl)) (nomark _)) (fun C s2 H2 fp => pv 0)) (pe_lst pa_nil) (nomark _))))), ?_⟩
  intro nx Q H3 v0 v4 v5 p d xs n ps ws kvs ks g hm s3 hp hps hb hn ok hall hh hd dn hg q
  refine ⟨_, rfl, (n : Int), rfl, by omega, by omega, fun D hD => ?_⟩
  refine comp_range (lo := 0) (n := n) (fun i acc σc H4 => (∃ v0, σc = [v0]) ∧ i ≤ n ∧ Same H3 H4 ∧ H4 D = some (.lst acc) ∧ acc = cnts i fun _ => 0) ⟨⟨none, rfl⟩, Nat.zero_le _, sameNew hD, upd_same, rfl⟩ ?_ ?_
  · rintro i acc σc H4 hi ⟨⟨v0, rfl⟩, hin, s4, hD4, rfl⟩
    refine cturn (n := n) (D := D) (i := i) (y := .int 0) (Pv := fun i acc σc H4 => (∃ v0, σc = [v0]) ∧ i ≤ n ∧ Same H3 H4 ∧ H4 D = some (.lst acc) ∧ acc = cnts i fun _ => 0) hD4 (small (by rw [cnts_len]; omega)) hi ⟨⟨_, rfl⟩, hi, sameUpd hD s4, upd_same, ?_⟩
    unfold cnts
    rw [List.range_succ, List.map_append]
    rfl
  · rintro acc σc H4 ⟨_, _, s4, hD4, rfl⟩
    have hp4 := s4 _ _ hp
    refine ⟨_, rfl, p, rfl, ⟨_, SqL.of hp4⟩, ?_⟩
    have hDp : D ≠ p := Ne.symm (ne_of_none hp hD)
    have hDd : D ≠ d := Ne.symm (ne_of_none hd hD)
    refine for_list (K := K) (a := p) (xs := xs) (fun i σ H5 => ∃ (L : Nat → Nat) (v5 v7 : Option V), σ = [v0, some (.ref p), some (natV n), some (.ref d), v4, v5, some (.ref D), v7] ∧ Same H3 H5 ∧ H5 D = some (.lst (cnts n L)) ∧ LeastOk ps i hm L)
      ⟨_, v5, none, rfl, s4, hD4, LeastOk.start⟩ (fun i σ H5 _ ⟨_, _, _, _, s5, _⟩ => SqL.of (s5 _ _ hp)) ?_ ?_
    · rintro i x σ H5 hi ⟨L, u5, u7, rfl, s5, hD5, lo⟩
      obtain ⟨pq, hpq, t, rfl, ht⟩ := Paired.get hps hi
      have hpm := hb pq (List.mem_of_getElem? hpq)
      refine ⟨t, _, rfl, SqT.of (s5 _ _ ht), rfl, _, _, rfl, _, _, rfl, rfl, ?_⟩
      have hd5 := s5 _ _ hd
      refine ⟨_, rfl, _, rfl, D, _, _, _, rfl, rfl, SqL.of hD5, atI_nat (cnts_get hpm.1), _, rfl, _, rfl, d, natV (hm pq.2), rfl, ?_, _, _, rfl, rfl, _, _, rfl, ?_⟩
      · have := DGet.k (k := Sum.inl (pq.2 : Int)) hd5
        rw [dn.val, hg pq.2 hpm.2] at this
        exact this
      have em : V.int (if (hm pq.2 : Int) + 1 > (L pq.1 : Int) then (hm pq.2 : Int) + 1 else (L pq.1 : Int)) = natV (max (L pq.1) (hm pq.2 + 1)) := by
        show V.int _ = V.int _
        congr 1
        split <;> omega
      refine ⟨_, rfl, _, rfl, D, _, _, pq.1, rfl, rfl, hD5, by rw [cnts_len]; exact ix_nat hpm.1, ?_⟩
      refine ⟨_, _, _, rfl, sameUpd hD s5, ?_, lo.step hpq⟩
      rw [upd_same]
      refine congrArg (fun z => some (HO.lst z)) ?_
      refine Eq.trans ?_ (cnts_set hpm.1)
      exact congrArg (fun z => (cnts n L).set pq.1 z) em
    · rintro σ H5 ⟨L, u5, u7, rfl, s5, hD5, lo⟩
      rw [Paired.length hps] at lo
      have hd5 := s5 _ _ hd
      refine ⟨_, rfl, (n : Int), rfl, by omega, by omega, fun D2 hD2 => ?_⟩
      refine compF_range (lo := 0) (n := n) (fun i acc σc H6 => (∃ v0, σc = [v0, some (.ref d), some (.ref D)]) ∧ Same H5 H6 ∧ H6 D2 = some (.lst acc) ∧ acc = nats []) ⟨⟨none, rfl⟩, sameNew hD2, upd_same, rfl⟩ ?_ ?_
      · rintro i acc σc H6 hi ⟨⟨v0, rfl⟩, s6, hD6, rfl⟩
        have e0 : V.int (0 + (i : Int)) = natV i := by show V.int _ = V.int _; congr 1; omega
        rw [e0]
        have hd6 := s6 _ _ hd5
        refine ⟨_, rfl, _, rfl, d, natV (hm i), rfl, ?_, _, rfl, _, rfl, D, _, _, _, rfl, rfl, SqL.of (s6 _ _ hD5), atI_nat (cnts_get hi), rfl, _, rfl, ?_⟩
        · have := DGet.k (k := Sum.inl (i : Int)) hd6
          rw [dn.val, hg i hi] at this
          exact this
        have e := lo.end ok hh (hall i hi)
        refine ifF (by rw [e]; simp) (cstep hi (acc := nats []) ⟨⟨_, rfl⟩, s6, hD6, rfl⟩)
      · rintro acc σc H6 ⟨_, s6, hD6, rfl⟩
        refine ⟨Nat.zero_le _, fun l2 hl2 => ?_⟩
        have s7 : Same H6 (upd H6 l2 (.lst [])) := sameNew hl2
        refine ⟨D2, l2, nats [], nats [], _, _, rfl, rfl, .inr ⟨SqL.of (s7 _ _ hD6), SqL.of upd_same⟩, den_nats [], den_nats [], ?_⟩
        exact q _ (s3.trans (s5.trans (s6.trans s7)))
end
end K5
namespace K5
open PySem PyProof.Rows L2 G4
theorem to_nats {ms : List Int} {l : List Nat} (hp : ms.Perm (l.map fun k : Nat => (k : Int))) (ho : ms.Pairwise (· ≤ ·)) : ∃ m : List Nat, ms = m.map (fun k : Nat => (k : Int)) ∧ m.Perm l ∧ m.Pairwise (· ≤ ·) := by
  obtain ⟨m, e⟩ : ∃ m : List Nat, ms = m.map fun k : Nat => (k : Int) := by
    refine ⟨ms.map Int.toNat, ?_⟩
    rw [List.map_map]
    have : ∀ x ∈ ms, ((fun k : Nat => (k : Int)) ∘ Int.toNat) x = x := fun x hx => by
      have := hp.mem_iff.mp hx
      obtain ⟨k, _, rfl⟩ := List.mem_map.mp this
      rfl
    rw [List.map_congr_left this, List.map_id']
  subst e
  refine ⟨m, rfl, ?_, ?_⟩
  · have := hp.map Int.toNat
    rw [List.map_map, List.map_map] at this
    have e1 : (Int.toNat ∘ fun k : Nat => (k : Int)) = id := by funext k; rfl
    rw [e1, List.map_id, List.map_id] at this
    exact this
  · have := List.pairwise_map.mp ho
    exact this.imp fun h => by omega
section
variable {P : Program} {w : World} {K : PySem.W.Frag} {mg : Str → Option Value} {base : Heap}
theorem ok_right {f : Addr} {fd : FuncData} (F : Fun K "_law_right" "_law_right" sRight f fd) (T : Txt K mg) : FnOk P w K mg base CX0 1 f fd ["_law_found", "_law_pairs_here", "_law_many"] spRight := by
  refine F.ok scI (fun vs H Q E h => ?_) (fun cdv A outer s H vs Q E hr h => ?_)
  · obtain ⟨q, p, xs, n, ps, as, ws, rfl, _⟩ := h
    rfl
  · obtain ⟨q, p, xs, n, ps, as, ws, rfl, hq, hls, ok, hall, hp, hps, hb, hn, hl, k⟩ := h
    have hu := hu_of hr
    obtain ⟨t4, h4, r4⟩ := right_end (P := P) (w := w) (K := K) (mg := mg) (base := base) (f := f) (cdv := cdv) (A := A) (outer := outer) (s := s) (H := H) (E := E) T hu
    obtain ⟨hm, hh⟩ := homes_exist ok
    refine ⟨_, pss_cons (ps_if (pt_not (pt_val (pe_callB call_isinst rfl T.isinstance boot_isinstance (pa_cons (pv 0) (pa_cons (pe_ty rfl T.list boot_list) pa_nil))))) (pss_one (ps_ret pe_bl)) pss_nil)
      (pss_cons (ps_set (i := 3) scI.nd rfl (Or.inr rfl) pe_dnewK)
      (pss_cons (ps_for PassesOwn.never rfl (pi_range1 rfl T.range (pa_cons (pe_callB call_len_seq (by rfl) T.len PySem.boot_len (pa_cons (pv 0) pa_nil)) pa_nil)) (pg_name (i := 4) scI.nd rfl (Or.inl rfl))
        (pss_cons (ps_if (PW.pt (pw_or (pt_not (pt_val (pe_callB call_isinst rfl T.isinstance boot_isinstance (pa_cons (pe_ix ix_list (pv 0) (pv 4) (fun _ _ => rfl)) (pa_cons (pe_ty rfl T.list boot_list) pa_nil)))))
          (pw_or (pt_cmpR (op_eq2 hu) (pe_ix ix_list (pv 0) (pv 4) (fun _ _ => rfl)) (pe_lst pa_nil) (nomark _))
          (pw_or1 (pt_cmpR (op_ne2 hu) (pe_ix ix_list (pv 0) (pv 4) (fun _ _ => rfl)) (pe_callB call_sorted rfl T.sorted boot_sorted (pa_cons (pe_ix ix_list (pv 0) (pv 4) (fun _ _ => rfl)) pa_nil)) (nomark _)))))) (pss_one (ps_ret pe_bl)) pss_nil)
        (pss_one (ps_for PassesOwn.never rfl (pi_list (pe_ix ix_list (pv 0) (pv 4) (fun _ _ => rfl))) (pg_name (i := 5) scI.nd rfl (Or.inl rfl))
          (pss_cons (ps_if (PW.pt (pw_or (pt_cmp (pc_din hu (pv 5) (pv 3))) (pw_or1 (pt_val (pe_callB call_isinst rfl T.isinstance boot_isinstance (pa_cons (pv 5) (pa_cons (pe_ty rfl T.bool boot_bool) pa_nil))))))) (pss_one (ps_ret pe_bl)) pss_nil)
          (pss_one (ps_dput hu (pv 3) (pv 5) (pv 4) rfl)))))))
      (pss_cons (ps_if (pt_cmpR (op_ne2 hu) (pe_callB (call_sortedD rfl) rfl T.sorted boot_sorted (pa_cons (pv 3) pa_nil)) (pe_callTy (call_listR rfl) rfl T.list boot_list (pa_cons (pe_callTy call_rangeO rfl T.range boot_range (pa_cons (pv 2) pa_nil)) pa_nil)) (nomark _)) (pss_one (ps_ret pe_bl)) pss_nil)
      h4))), ?_⟩
    refine ⟨_, rfl, _, _, _, true, rfl, .lst hq, rfl, _, rfl, iteF ?_⟩
    intro d hd
    have s1 : Same H (upd H d (.dK [])) := sameNew hd
    have hd1 : (upd H d (.dK [])) d = some (.dK []) := upd_same
    generalize upd H d (.dK []) = H1 at s1 hd1
    have hlen : as.length = ws.length := Paired.length hls
    have hfl := nodup_len n _ ok.nodup ok.below
    have hwsl : ws.length ≤ n := by
      have : ∀ l : List (List Nat), (∀ x ∈ l, x ≠ []) → l.length ≤ l.flatten.length := by
        intro l
        induction l with
        | nil => intro _; simp
        | cons a l ih =>
          intro h
          have h1 := ih fun x hx => h x (List.mem_cons_of_mem _ hx)
          have h2 := List.length_pos_iff.mpr (h a List.mem_cons_self)
          rw [List.flatten_cons, List.length_append, List.length_cons]
          omega
      have := this ws ok.full
      omega
    refine ⟨_, rfl, q, _, rfl, .inl (SqL.of (s1 _ _ hq)), ((as.map V.ref).length : Int), rfl, by omega, by rw [List.length_map]; omega, ?_⟩
    refine for_range (lo := 0) (n := ((as.map V.ref).length : Int).toNat) (fun i σ H3 => ∃ (kvs : List (Key × V)) (ks : List Nat) (g : Nat → Option V) (v4 v5 : Option V), σ = [some (.ref q), some (.ref p), some (natV n), some (.ref d), v4, v5, none, none] ∧ Same H H3 ∧ H3 d = some (.dK kvs) ∧ DNat n kvs ks g ∧
        (∀ v, g v = if v ∈ (ws.take i).flatten then some (natV (hm v)) else none))
      ⟨[], [], fun _ => none, none, none, rfl, s1, hd1, DNat.nil, by simp⟩ ?_ ?_
    · rintro i σ H3 hi ⟨kvs, ks, g, v4, v5, rfl, s3, hd3, dn, hg⟩
      have hi' : i < as.length := by rw [List.length_map] at hi; omega
      have e0 : V.int (0 + (i : Int)) = natV i := by show V.int _ = V.int _; congr 1; omega
      rw [show gName 4 (V.int (0 + (i : Int))) = gName 4 (natV i) by rw [e0]]
      obtain ⟨wv, e1, e2⟩ := Paired.get hls (i := i) (x := as[i]) (by simp [hi'])
      have hat : (as.map V.ref)[i]? = some (.ref as[i]) := by rw [List.getElem?_map, List.getElem?_eq_getElem hi']; rfl
      have hwm := List.mem_of_getElem? e1
      have hwf := ok.full wv hwm
      have hwr := ok.rise wv hwm
      have hwn : ∀ v ∈ wv, v < n := fun v hv => ok.below v (List.mem_flatten.mpr ⟨wv, hwm, hv⟩)
      have hwl : wv.length ≤ n := nodup_len n wv (hwr.imp fun h => Nat.ne_of_lt h) hwn
      have hq3 := s3 _ _ hq
      have hb3 := s3 _ _ e2
      refine ⟨_, rfl, _, rfl, q, _, _, _, rfl, rfl, SqL.of hq3, atI_nat hat, _, _, _, true, rfl, .lst hb3, rfl, _, rfl, iteF ?_⟩
      refine ⟨_, rfl, _, rfl, q, _, _, _, rfl, rfl, SqL.of hq3, atI_nat hat, Nat.zero_le _, fun l hl2 => ?_⟩
      have s4 : Same H3 (upd H3 l (.lst [])) := sameNew hl2
      refine ⟨as[i], l, nats wv, nats [], _, _, rfl, rfl, .inr ⟨SqL.of (s4 _ _ hb3), SqL.of upd_same⟩, den_nats wv, den_nats [], _, rfl, ?_⟩
      refine ifF (by show eqFs _ _ = false; rw [eqFs_nats, decide_eq_false hwf]) ?_
      generalize upd H3 l (.lst []) = H4 at s4
      have hq4 := s4 _ _ hq3
      have hb4 := s4 _ _ hb3
      refine ⟨_, rfl, _, rfl, q, _, _, _, rfl, rfl, SqL.of hq4, atI_nat hat, _, rfl, _, rfl, q, _, _, _, rfl, rfl, SqL.of hq4, atI_nat hat, as[i], wv.map (fun k : Nat => (k : Int)), rfl, SqL.of (by rw [hb4, nats_ints]), by rw [List.length_map]; omega, fun ms hperm hsort l5 hl5 => ?_⟩
      obtain ⟨m, rfl, hp2, ho2⟩ := to_nats hperm hsort
      have em : m = wv := rise_eq m wv (sort_rise hp2 ho2 (hwr.imp fun h => Nat.ne_of_lt h)) hwr fun v => hp2.mem_iff
      subst em
      have s5 : Same H4 (upd H4 l5 (.lst ((m.map fun k : Nat => (k : Int)).map V.int))) := sameNew hl5
      refine ⟨as[i], l5, nats m, nats m, _, _, rfl, rfl, .inr ⟨SqL.of (s5 _ _ hb4), SqL.of (by rw [upd_same, nats_ints])⟩, den_nats m, den_nats m, _, rfl, ?_⟩
      refine ifF (by show (!_) = false; rw [eqFs_nats, decide_eq_true rfl]; rfl) ?_
      generalize upd H4 l5 (.lst ((m.map fun k : Nat => (k : Int)).map V.int)) = H5 at s5
      have s35 := s4.trans s5
      have s05 := s3.trans s35
      refine ⟨_, rfl, _, rfl, q, _, _, _, rfl, rfl, SqL.of (s35 _ _ hq3), atI_nat hat, as[i], rfl, ⟨_, SqL.of (s35 _ _ hb3)⟩, ?_⟩
      refine for_list (K := K) (a := as[i]) (xs := nats m) (fun j σ H6 => ∃ (kvs : List (Key × V)) (ks : List Nat) (g : Nat → Option V) (v5 : Option V), σ = [some (.ref q), some (.ref p), some (natV n), some (.ref d), some (natV i), v5, none, none] ∧ Same H H6 ∧ H6 d = some (.dK kvs) ∧ DNat n kvs ks g ∧
          (∀ v, g v = if v ∈ (ws.take i).flatten ∨ v ∈ m.take j then some (natV (hm v)) else none))
        ⟨kvs, ks, g, v5, rfl, s05, s35 _ _ hd3, dn, by simpa using hg⟩ (fun j σ H6 _ ⟨_, _, _, _, _, s6, _⟩ => SqL.of (s6 _ _ e2)) ?_ ?_
      · rintro j x σ H6 hj ⟨kvs6, ks6, g6, u5, rfl, s6, hd6, dn6, hg6⟩
        obtain ⟨v, rfl, hv⟩ := get_nats hj
        have hvm := List.mem_of_getElem? hv
        have hvn := hwn v hvm
        have hno : g6 v = none := by
          rw [hg6, if_neg]
          rintro (z | z)
          · exact home_one ok e1 hvm z
          · obtain ⟨jj, hjj, ejj⟩ := List.mem_take_iff_getElem.mp z
            obtain ⟨hj1, hj2⟩ := List.getElem?_eq_some_iff.mp hv
            have := List.pairwise_iff_getElem.mp hwr jj j (by omega) hj1 (by omega)
            omega
        have hvi : hm v = i := hh i m v e1 hvm
        refine ⟨_, rfl, _, rfl, d, _, rfl, DGet.k (k := Sum.inl (v : Int)) hd6, _, rfl, ?_⟩
        rw [dn6.val, hno]
        refine ifF rfl ⟨_, rfl, _, _, _, false, rfl, .int _, rfl, _, rfl, iteF ?_⟩
        obtain ⟨ks7, dn7⟩ := dn6.put hvn (natV i)
        have l6 := dn6.len
        refine ⟨_, rfl, _, rfl, _, rfl, d, _, rfl, DPut.k (k := Sum.inl (v : Int)) hd6 (small (by omega)), ?_⟩
        refine ⟨_, ks7, _, _, rfl, sameUpd hd s6, upd_same, dn7, fun k => ?_⟩
        rw [List.take_succ, hv]
        by_cases e : k = v
        · subst e
          rw [if_pos rfl, if_pos (.inr (by simp)), hvi]
        · rw [if_neg e, hg6]
          have : (k ∈ m.take j ++ (some v).toList) ↔ k ∈ m.take j := by simp [e]
          simp only [this]
      · rintro σ H6 ⟨kvs6, ks6, g6, u5, rfl, s6, hd6, dn6, hg6⟩
        refine ⟨kvs6, ks6, g6, _, _, rfl, s6, hd6, dn6, fun v => ?_⟩
        rw [hg6]
        unfold nats
        rw [List.length_map, List.take_length, List.take_succ, e1]
        have : (v ∈ (ws.take i).flatten ∨ v ∈ m) ↔ v ∈ (ws.take i ++ (some m).toList).flatten := by simp
        simp only [this]
    · rintro σ H3 ⟨kvs, ks, g, v4, v5, rfl, s3, hd3, dn, hg⟩
      have e1 : ((as.map V.ref).length : Int).toNat = ws.length := by rw [List.length_map, hlen]; rfl
      rw [e1, List.take_length] at hg
      have hgv : ∀ v, v < n → g v = some (natV (hm v)) := fun v hv => by rw [hg, if_pos (hall v hv)]
      have el : (kvs.map fun kv => kV kv.1) = (ks.map fun k : Nat => (k : Int)).map V.int := by
        have : (kvs.map fun kv => kV kv.1) = (kvs.map (·.1)).map kV := by rw [List.map_map]; rfl
        rw [this, dn.keys, List.map_map, List.map_map]
        rfl
      have lk := dn.len
      refine ⟨_, rfl, d, kvs, ks.map fun k : Nat => (k : Int), rfl, hd3, el, by rw [List.length_map]; omega, fun ms hperm hsort l5 hl5 => ?_⟩
      obtain ⟨m, rfl, hp2, ho2⟩ := to_nats hperm hsort
      have em : m = List.range n := rise_eq m _ (sort_rise hp2 ho2 dn.nd) List.pairwise_lt_range fun v => by
        rw [hp2.mem_iff, dn.mem, List.mem_range]
        constructor
        · intro h
          exact dn.below v ((dn.mem v).mpr h)
        · intro h
          rw [hgv v h]
          exact fun z => (by cases z)
      subst em
      have s4 : Same H3 (upd H3 l5 (.lst (((List.range n).map fun k : Nat => (k : Int)).map V.int))) := sameNew hl5
      have hl6 : (upd H3 l5 (.lst (((List.range n).map fun k : Nat => (k : Int)).map V.int))) l5 = some (.lst (nats (List.range n))) := by rw [upd_same, nats_ints]
      generalize upd H3 l5 (.lst (((List.range n).map fun k : Nat => (k : Int)).map V.int)) = H4 at s4 hl6
      refine ⟨_, rfl, n, rfl, fun r hr2 => ?_⟩
      have s5 : Same H4 (upd H4 r (.rng 0 n)) := sameNew hr2
      refine ⟨r, n, rfl, upd_same, by omega, fun l7 hl7 => ?_⟩
      have s6 : Same _ (upd (upd H4 r (.rng 0 n)) l7 (.lst ((List.range n).map fun k : Nat => V.int (k : Int)))) := sameNew hl7
      refine ⟨l5, l7, nats (List.range n), nats (List.range n), _, _, rfl, rfl, .inr ⟨SqL.of (s6 _ _ (s5 _ _ hl6)), SqL.of upd_same⟩, den_nats _, den_nats _, _, rfl, ?_⟩
      refine ifF (by show (!_) = false; rw [eqFs_nats, decide_eq_true rfl]; rfl) ?_
      have sA := s4.trans (s5.trans s6)
      have sB := s3.trans sA
      exact r4 _ Q _ _ _ _ p d xs n ps ws kvs ks g hm sB (sB _ _ hp) (PrsAt.mono (fun b ys e => sB _ _ e) hps) hb hn ok hall hh (sA _ _ hd3) dn hgv k
end
end K5
namespace K5
open PySem PyProof.Rows L2 G4
def spLaw (K : PySem.W.Frag) : Sp := fun vs H Q _ => ∃ (a : Addr) (zs : List Int), vs = [.ref a] ∧ SqL K H a (zs.map V.int) ∧ ∀ H', Q (.bl true) H'
theorem kpSame {H H1 H2 : Hp} {a : Addr} (s : Same H H1) (h : H a = none) (k : Kp a H1 H2) : Same H H2 := fun b o e => k b o (s b o e) (ne_of_none e h)
theorem den_prs {K : PySem.W.Frag} {H : Hp} : ∀ {xs : List V} {ps : List Pr}, PrsAt H xs ps → Den1s K H xs (ps.map fun p => F1.tp [natV p.1, natV p.2])
  | _, _, .nil => .nil
  | _, _, .cons ⟨a, e, h⟩ t => .cons ⟨a, e, SqT.of h, rfl⟩ (den_prs t)
theorem eqFs_prs : ∀ ps : List Pr, eqFs (ps.map fun p => F1.tp [natV p.1, natV p.2]) (ps.map fun p => F1.tp [natV p.1, natV p.2]) = true
  | [] => rfl
  | p :: ps => by
    rw [List.map_cons]
    show (eqVs [natV p.1, natV p.2] [natV p.1, natV p.2] && eqFs _ _) = true
    rw [eqVs_refl rfl, eqFs_prs ps]
    rfl
theorem den_lists {K : PySem.W.Frag} {H : Hp} : ∀ {as : List Addr} {ws : List (List Nat)}, ListsAt H as ws → Paired (DenL K H) (as.map V.ref) (ws.map nats)
  | _, _, .nil => .nil
  | _, _, .cons h t => .cons ⟨_, rfl, SqL.of h, flat_nats _⟩ (den_lists t)
theorem eqLs_nil : ∀ ws : List (List Nat), eqLs (ws.map nats) [] = decide (ws = [])
  | [] => rfl
  | _ :: _ => by
    rw [decide_eq_false (by intro z; cases z)]
    rfl
abbrev scP2 : Scope := { kind := .function, names := [(PySem.Str.ofString ".0", .local), (PySem.Str.ofString "_law_pair", .local), (PySem.Str.ofString "max", .globalImplicit), (PySem.Str.ofString "min", .globalImplicit)], isGenerator := false, isCoroutine := false, more := [] }
theorem ndP2 : (["_law_pair"] : List Str).Nodup := by decide +kernel
abbrev NL : List Str := ["_law_script", "_law_k", "_law_well_here", "_law_many", "_law_pairs_here", "_law_handed", "_law_due", "_law_turn", "_law_found"]
theorem scL : FnScope NL ["_law_script"] (defScope sLaw) := ⟨rfl, rfl, rfl, by decide +kernel, rfl, by decide +kernel, by decide +kernel⟩
theorem waves_none {ws : List (List Nat)} (ok : WavesOk [] 0 ws) : ws = [] := by
  cases ws with
  | nil => rfl
  | cons w ws =>
    have h := ok.full w List.mem_cons_self
    cases w with
    | nil => exact absurd rfl h
    | cons v w => exact absurd (ok.below v (by simp)) (Nat.not_lt_zero v)
theorem waves_two {ws : List (List Nat)} (ok : WavesOk [] 2 ws) (hall : ∀ v, v < 2 → v ∈ ws.flatten) : ws = [[0, 1]] := by
  match ws, ok, hall with
  | [], _, hall => have := hall 0 (by decide); simp at this
  | [w], ok, hall =>
    have e := rise_eq w [0, 1] (ok.rise w (by simp)) (by simp) fun v => by
      constructor
      · intro hv
        have := ok.below v (by simpa using hv)
        simp
        omega
      · intro hv
        have : v < 2 := by simp at hv; omega
        simpa using hall v this
    rw [e]
  | w :: w' :: r, ok, _ =>
    have h := ok.full w' (by simp)
    cases w' with
    | nil => exact absurd rfl h
    | cons v w'' =>
      obtain ⟨m, _, hm⟩ := ok.last 0 w (v :: w'') rfl rfl v List.mem_cons_self
      cases hm
section
variable {P : Program} {w : World} {K : PySem.W.Frag} {mg : Str → Option Value} {base : Heap}
abbrev XL (P : Program) (w : World) (K : PySem.W.Frag) (mg : Str → Option Value) (base : Heap) (f : Addr) (cdv : Value) (A : Around) (outer : List Env) (s : Shared) (H : Hp) (E : XK) : Cx := (cxOf CX0 P w K mg base NL "law" (defScope sLaw) f cdv A outer s H E).nox
theorem csP2 {f : Addr} {cdv : Value} {A : Around} {outer : List Env} {s : Shared} {H : Hp} {E : XK} : ∃ cl, CompScope (XL P w K mg base f cdv A outer s H E) scP2 [] cl :=
  comp_scope (fun x h => cell_has h) rfl (by decide +kernel) (by decide +kernel) (show ∀ y ∈ scP2.names, y.2 = .free → (defScope sLaw).names.lookup y.1 = some .cell by decide +kernel) (fun p hp => by cases hp)
/-- the defs that the law calls -/
structure Defs (P : Program) (w : World) (K : PySem.W.Frag) (mg : Str → Option Value) (base : Heap) : Prop where
  T : Txt K mg
  well : ∃ f fd, FnOk P w K mg base CX0 2 f fd ["_law_script", "_law_k"] (spWell K) ∧ mg "_law_well" = some (.ref f) ∧ PySem.W.keepIn K (.ref f) = true ∧ Binds K fd ["_law_script", "_law_k"] []
  draw : ∃ f fd, FnOk P w K mg base CX0 3 f fd ["_law_well_here", "_law_most"] spDraw ∧ mg "_law_draw" = some (.ref f) ∧ PySem.W.keepIn K (.ref f) = true ∧ Binds K fd ["_law_well_here", "_law_most"] []
  pairs : ∃ f fd, FnOk P w K mg base CX0 4 f fd ["_law_well_here", "_law_many"] spPairs ∧ mg "_law_pairs" = some (.ref f) ∧ PySem.W.keepIn K (.ref f) = true ∧ Binds K fd ["_law_well_here", "_law_many"] []
  back : ∃ f fd, FnOk P w K mg base CX0 2 f fd ["_law_pairs_here", "_law_many"] spBack ∧ mg "_law_some_comes_back" = some (.ref f) ∧ PySem.W.keepIn K (.ref f) = true ∧ Binds K fd ["_law_pairs_here", "_law_many"] []
  ring : ∃ f fd, FnOk P w K mg base CX0 2 f fd ["pairs", "many"] spRing ∧ mg "ring_in" = some (.ref f) ∧ PySem.W.keepIn K (.ref f) = true ∧ Binds K fd ["pairs", "many"] []
  of_ : ∃ f fd, FnOk P w K mg base CX0 2 f fd ["pairs", "many"] spOf ∧ mg "waves_of" = some (.ref f) ∧ PySem.W.keepIn K (.ref f) = true ∧ Binds K fd ["pairs", "many"] []
  right : ∃ f fd, FnOk P w K mg base CX0 1 f fd ["_law_found", "_law_pairs_here", "_law_many"] spRight ∧ mg "_law_right" = some (.ref f) ∧ PySem.W.keepIn K (.ref f) = true ∧ Binds K fd ["_law_found", "_law_pairs_here", "_law_many"] []
/-- the last statement -/
theorem law_end {f : Addr} {cdv : Value} {A : Around} {outer : List Env} {s : Shared} {H : Hp} {E : XK} (Ds : Defs P w K mg base) (hr : Room 4 (XL P w K mg base f cdv A outer s H E).A) :
    ∃ t, PSs (XL P w K mg base f cdv A outer s H E) ((defBody sLaw).drop 1) t ∧ ∀ (nx : L2.St → Hp → Prop) (Q : VK) (H2 : Hp) (σ : L2.St), (∀ H', Q (.bl true) H') → t { nx := nx, rt := Q } σ H2 := by
  obtain ⟨T, _, _, _, _, _, ⟨fo, do_, Go, mo, ko, bo⟩, _⟩ := Ds
  have hu := hu_of hr
  have hr2 : Room 2 (XL P w K mg base f cdv A outer s H E).A := hr.mono (by decide)
  refine ⟨_, pss_one (ps_ret (pe_and (pe_cmpR (op_eq3 hu) (pe_call Go hr2 rfl mo ko bo .nil pass0 (pa_cons (pe_lst pa_nil) (pa_cons pe_int pa_nil))) (pe_lst pa_nil) (nomark _))
    (pe_one (pe_cmpR (op_eq3 hu) (pe_call Go hr2 rfl mo ko bo .nil pass0 (pa_cons (pe_lst pa_nil) (pa_cons pe_int pa_nil))) (pe_lst (pa_cons (pe_lst (pa_cons pe_int (pa_cons pe_int pa_nil))) pa_nil)) (nomark _))))), ?_⟩
  intro nx Q H2 σ q
  refine ⟨Nat.zero_le _, fun l hl => ?_⟩
  refine ⟨l, [], 0, [], rfl, upd_same, .nil, fun p hp => (by cases hp), by decide, by decide, fun H3 s3 hre => ?_, fun q1 as ws H3 s3 _ ll ok hall => ?_⟩
  · obtain ⟨v, hv⟩ := hre
    cases hv with
    | one h => cases h
    | step _ h => cases h
  · have e := waves_none ok
    subst e
    refine ⟨Nat.zero_le _, fun l2 hl2 => ?_⟩
    have s4 := sameNew (o := .lst []) hl2
    refine ⟨q1, l2, as.map V.ref, [], ([] : List (List Nat)).map nats, [], rfl, rfl, SqL.of (s4 _ _ ll.top), SqL.of upd_same, den_lists (ListsAt.same ll.at_ s4), .nil, _, rfl, ifT rfl ?_⟩
    refine ⟨Nat.zero_le _, fun l3 hl3 => ?_⟩
    refine ⟨l3, [], 2, [], rfl, upd_same, .nil, fun p hp => (by cases hp), by decide, by decide, fun H5 s5 hre => ?_, fun q2 as2 ws2 H5 s5 _ ll2 ok2 hall2 => ?_⟩
    · obtain ⟨v, hv⟩ := hre
      cases hv with
      | one h => cases h
      | step _ h => cases h
    · have e := waves_two ok2 hall2
      subst e
      refine ⟨(by show 2 ≤ sizeLine; decide), fun l4 hl4 => ⟨(by show 1 ≤ sizeLine; decide), fun l5 hl5 => ?_⟩⟩
      have s6 := sameNew (o := .lst [.int 0, .int 1]) hl4
      have s7 := sameNew (o := .lst [.ref l4]) hl5
      refine ⟨q2, l5, as2.map V.ref, [.ref l4], ([[0, 1]] : List (List Nat)).map nats, ([[0, 1]] : List (List Nat)).map nats, rfl, rfl, SqL.of (s7 _ _ (s6 _ _ ll2.top)), SqL.of upd_same, den_lists (ListsAt.same ll2.at_ (s6.trans s7)), .cons ⟨l4, rfl, SqL.of (s7 _ _ upd_same), rfl⟩ .nil, ?_⟩
      exact q _
end
end K5
namespace K5
open PySem PyProof.Rows L2 G4
section
variable {P : Program} {w : World} {K : PySem.W.Frag} {mg : Str → Option Value} {base : Heap}
/-- what is asked of drawn pairs -/
theorem law_ask {f : Addr} {cdv : Value} {A : Around} {outer : List Env} {s : Shared} {H : Hp} {E : XK} (Ds : Defs P w K mg base) (hr : Room 4 (XL P w K mg base f cdv A outer s H E).A) :
    ∃ t, PSs (XL P w K mg base f cdv A outer s H E) ((loopBody ((defBody sLaw).getD 0 (.Pass ⟨0, 0, 0, 0⟩))).drop 4) t ∧ ∀ (D : Ends) (H7 : Hp) (v0 v1 v2 v5 v6 v7 v8 : Option V) (p : Addr) (xs : List V) (n : Nat) (ps : List Pr),
      H7 p = some (.lst xs) → PrsAt H7 xs ps → Below n ps → n ≤ 60 → ps.length ≤ 1000 → (∀ (H' : Hp) (v5 v6 v7 v8 : Option V), Same H7 H' → D.nx [v0, v1, v2, some (natV n), some (.ref p), v5, v6, v7, v8] H') →
      t D [v0, v1, v2, some (natV n), some (.ref p), v5, v6, v7, v8] H7 := by
  obtain ⟨T, _, _, _, ⟨fb, db, Gb, mb, kb, bb⟩, ⟨fr, dr, Gr, mr, kr, br⟩, ⟨fo, do_, Go, mo, ko, bo⟩, ⟨fi, di, Gi, mi, ki, bi⟩⟩ := Ds
  have hu := hu_of hr
  have hr1 : Room 1 (XL P w K mg base f cdv A outer s H E).A := hr.mono (by decide)
  have hr2 : Room 2 (XL P w K mg base f cdv A outer s H E).A := hr.mono (by decide)
  refine ⟨_, pss_cons (ps_set (i := 5) scL.nd rfl (Or.inl rfl) (pe_callTy call_list_of rfl T.list boot_list (pa_cons (pv 4) pa_nil)))
    (pss_cons (ps_set (i := 6) scL.nd rfl (Or.inl rfl) (pe_not (pe_call Gb hr2 rfl mb kb bb .nil pass0 (pa_cons (pv 4) (pa_cons (pv 3) pa_nil)))))
    (pss_cons (ps_for PassesOwn.never rfl (pi_range1 rfl T.range (pa_cons pe_int pa_nil)) (pg_name (i := 7) scL.nd rfl (Or.inl rfl))
      (pss_cons (ps_set (i := 8) scL.nd rfl (Or.inl rfl) (pe_call Go hr2 rfl mo ko bo .nil pass0 (pa_cons (pv 5) (pa_cons (pv 3) pa_nil))))
      (pss_cons (ps_if (PW.pt (pw_or (pt_cmpR (op_ne2 hu) (pv 5) (pv 4) (nomark _)) (pw_or1 (pt_cmpR op_ne (pv 6) (pe_cmpR op_notN (pv 8) pe_non (nomark _)) (nomark _))))) (pss_one (ps_ret pe_bl)) pss_nil)
      (pss_cons (ps_if (PW.pt (pw_and (pt_val (pv 6)) (pw_and1 (pt_not (pt_val (pe_call Gi hr1 rfl mi ki bi .nil pass0 (pa_cons (pv 8) (pa_cons (pv 4) (pa_cons (pv 3) pa_nil))))))))) (pss_one (ps_ret pe_bl)) pss_nil)
      (pss_one (ps_if (PW.pt (pw_and (pt_val (pv 6)) (pw_and1 (pt_cmpR (op_ne3 hu) (pv 8) (pe_lst pa_nil) (nomark _)))))
        (pss_one (ps_expr (pe_bm0 PySem.F.plainAttrs_list PySem.F.slot_list_clear PySem.F.type_list_clear mt_clear (pe_bm0 PySem.F.plainAttrs_list PySem.F.slot_list_pop PySem.F.type_list_pop mt_pop (pv 8))))) pss_nil))))))
    (pss_one (ps_if (pt_cmpR op_ne (pv 6) (pe_cmpR op_isN (pe_call Gr hr2 rfl mr kr br .nil pass0 (pa_cons (pv 4) (pa_cons (pv 3) pa_nil))) pe_non (nomark _)) (nomark _)) (pss_one (ps_ret pe_bl)) pss_nil)))), ?_⟩
  intro D H7 v0 v1 v2 v5 v6 v7 v8 p xs n ps hp7 hps hb hn60 hl1000 fin
  refine ⟨_, rfl, p, xs, rfl, .inl (SqL.of hp7), fun ph hph => ?_⟩
  have s8 : Same H7 (upd H7 ph (.lst xs)) := sameNew hph
  have hph8 : (upd H7 ph (.lst xs)) ph = some (.lst xs) := upd_same
  generalize upd H7 ph (.lst xs) = H8 at s8 hph8
  have hps8 := PrsAt.mono (fun b ys e => s8 _ _ e) hps
  refine ⟨_, rfl, _, rfl, p, xs, n, ps, rfl, s8 _ _ hp7, hps8, hb, hn60, hl1000, fun b H9 s9 hbb => ?_⟩
  refine ⟨_, rfl, 2, rfl, by decide, by decide, ?_⟩
  have s79 := s8.trans s9
  refine for_range (lo := 0) (n := (2 : Int).toNat) (fun j σ H10 => ∃ v7 v8 : Option V, σ = [v0, v1, v2, some (natV n), some (.ref p), some (.ref ph), some (.bl (!b)), v7, v8] ∧ Same H9 H10) ⟨v7, v8, rfl, Same.refl H9⟩ ?_ ?_
  · rintro j σ H10 hj ⟨u7, u8, rfl, s10⟩
    have hpr10 := PrsAt.mono (fun b ys e => (s9.trans s10) _ _ e) hps8
    have hph10 := (s9.trans s10) _ _ hph8
    refine ⟨_, rfl, _, rfl, ph, xs, n, ps, rfl, hph10, hpr10, hb, hn60, hl1000, fun H11 s11 hre => ?_, fun q as ws H11 s11 hq0 ll ok hall => ?_⟩
    · have hbt : b = true := hbb.mpr hre
      subst hbt
      have s911 := s9.trans (s10.trans s11)
      have hpr11 := PrsAt.mono (fun b ys e => s911 _ _ e) hps8
      refine ⟨_, rfl, _, rfl, ph, p, xs, xs, _, _, rfl, rfl, .inr ⟨SqL.of (s911 _ _ hph8), SqL.of (s911 _ _ (s8 _ _ hp7))⟩, den_prs hpr11, den_prs hpr11, _, rfl, ?_⟩
      refine ifF (by show (!_) = false; rw [eqFs_prs]; rfl) ?_
      refine ⟨_, rfl, _, rfl, rfl, rfl, _, rfl, ifF rfl ?_⟩
      refine ⟨_, rfl, _, rfl, iteF (iteF ?_)⟩
      refine ⟨_, rfl, _, rfl, iteF (iteF ⟨_, _, rfl, s10.trans s11⟩)⟩
    · have hno : ∀ v, ¬ Reach ps v v := ok.noRing hb fun pq hpq => hall _ (hb pq hpq).2
      have hbf : b = false := by
        cases b with
        | false => rfl
        | true => obtain ⟨v, hv⟩ := hbb.mp rfl; exact absurd hv (hno v)
      subst hbf
      have s911 := s9.trans (s10.trans s11)
      have hpr11 := PrsAt.mono (fun b ys e => s911 _ _ e) hps8
      refine ⟨_, rfl, _, rfl, ph, p, xs, xs, _, _, rfl, rfl, .inr ⟨SqL.of (s911 _ _ hph8), SqL.of (s911 _ _ (s8 _ _ hp7))⟩, den_prs hpr11, den_prs hpr11, _, rfl, ?_⟩
      refine ifF (by show (!_) = false; rw [eqFs_prs]; rfl) ?_
      refine ⟨_, rfl, _, rfl, rfl, rfl, _, rfl, ifF rfl ?_⟩
      refine ⟨_, rfl, _, rfl, iteT ?_⟩
      refine ⟨_, rfl, _, rfl, _, rfl, q, p, xs, n, ps, as, ws, rfl, ll.top, ll.at_, ok, hall, s911 _ _ (s8 _ _ hp7), hpr11, hb, hn60, hl1000, fun H12 s12 => ?_⟩
      refine ⟨_, rfl, ifF rfl ?_⟩
      refine ⟨_, rfl, _, rfl, iteT ?_⟩
      have hq12 := s12 _ _ ll.top
      refine ⟨_, rfl, Nat.zero_le _, fun l hl => ?_⟩
      have s13 : Same H12 (upd H12 l (.lst [])) := sameNew hl
      refine ⟨q, l, as.map V.ref, [], ws.map nats, [], rfl, rfl, SqL.of (s13 _ _ hq12), SqL.of upd_same, den_lists (ListsAt.same ll.at_ (s12.trans s13)), .nil, _, rfl, ?_⟩
      generalize upd H12 l (.lst []) = H13 at s13
      have s1013 := s11.trans (s12.trans s13)
      by_cases he : ws = []
      · refine ifF (by show (!_) = false; rw [eqLs_nil, decide_eq_true he]; rfl) ⟨_, _, rfl, s10.trans s1013⟩
      · refine ifT (by show (!_) = true; rw [eqLs_nil, decide_eq_false he]; rfl) ?_
        have hae : as ≠ [] := fun z => he (List.eq_nil_of_length_eq_zero (by rw [← ll.len, z]; rfl))
        have hal := List.length_pos_iff.mpr hae
        have hlast : (as.map V.ref)[(as.map V.ref).length - 1]? = some (.ref as[as.length - 1]) := by
          rw [List.length_map, List.getElem?_map, List.getElem?_eq_getElem (by omega)]
          rfl
        have hq13 := s13 _ _ hq12
        refine ⟨_, rfl, .inl ⟨rfl, _, SqL.of hq13⟩, q, _, _, rfl, rfl, hq13, hlast, ?_⟩
        obtain ⟨wv, e1, e2⟩ := Paired.get ll.at_ (i := as.length - 1) (x := as[as.length - 1]) (by rw [List.getElem?_eq_getElem])
        have hbm : as[as.length - 1] ∈ as := List.getElem_mem _
        have hbq := ll.new _ hbm
        have hb14 : (upd H13 q (.lst (as.map V.ref).dropLast)) as[as.length - 1] = some (.lst (nats wv)) := by
          rw [upd_ne hbq.2]
          exact (s12.trans s13) _ _ e2
        refine ⟨.inl ⟨rfl, _, SqL.of hb14⟩, as[as.length - 1], _, rfl, rfl, hb14, ?_⟩
        exact ⟨_, _, rfl, sameUpd (s10.free hbq.1) (sameUpd (s10.free hq0) (s10.trans s1013))⟩
  · rintro σ H10 ⟨u7, u8, rfl, s10⟩
    have s810 := s9.trans s10
    have hpr10 := PrsAt.mono (fun b ys e => s810 _ _ e) hps8
    refine ⟨_, rfl, _, rfl, _, rfl, p, xs, n, ps, rfl, s810 _ _ (s8 _ _ hp7), hpr10, hb, hn60, hl1000, fun H11 s11 hno => ?_, fun r rs H11 s11 _ _ R => ?_⟩
    · have hbf : b = false := by
        cases b with
        | false => rfl
        | true => obtain ⟨v, hv⟩ := hbb.mp rfl; exact absurd hv (hno v)
      subst hbf
      refine ⟨rfl, rfl, _, rfl, ifF rfl ?_⟩
      exact fin _ _ _ _ _ (s79.trans (s10.trans s11))
    · have hbt : b = true := hbb.mpr R.reach
      subst hbt
      refine ⟨rfl, rfl, _, rfl, ifF rfl ?_⟩
      exact fin _ _ _ _ _ (s79.trans (s10.trans s11))
theorem ok_law {f : Addr} {fd : FuncData} (F : Fun K "law" "law" sLaw f fd) (Ds : Defs P w K mg base) : FnOk P w K mg base CX0 5 f fd ["_law_script"] (spLaw K) := by
  refine F.ok scL (fun vs H Q E h => ?_) (fun cdv A outer s H vs Q E hr h => ?_)
  · obtain ⟨a, zs, rfl, _⟩ := h
    rfl
  · obtain ⟨a, zs, rfl, hS, q⟩ := h
    obtain ⟨t1, h1, r1⟩ := law_end (f := f) (cdv := cdv) (A := A) (outer := outer) (s := s) (H := H) (E := E) Ds hr
    obtain ⟨t2, h2, r2⟩ := law_ask (f := f) (cdv := cdv) (A := A) (outer := outer) (s := s) (H := H) (E := E) Ds hr
    obtain ⟨cl, S⟩ := csP2 (P := P) (w := w) (K := K) (mg := mg) (base := base) (f := f) (cdv := cdv) (A := A) (outer := outer) (s := s) (H := H) (E := E)
    obtain ⟨T, ⟨fw, dw, Gw, mw, kw, bw⟩, ⟨fdr, ddr, Gd, md, kd, bd⟩, ⟨fp, dp, Gp, mp, kp, bp⟩, _⟩ := Ds
    have hr2 : Room 2 (XL P w K mg base f cdv A outer s H E).A := hr.mono (by decide)
    have hr3 : Room 3 (XL P w K mg base f cdv A outer s H E).A := hr.mono (by decide)
    refine ⟨_, pss_cons (ps_for PassesOwn.never rfl (pi_range2 rfl T.range (pa_cons pe_int (pa_cons pe_int pa_nil))) (pg_name (i := 1) scL.nd rfl (Or.inl rfl))
      (pss_cons (ps_set (i := 2) scL.nd rfl (Or.inl rfl) (pe_call Gw hr2 rfl mw kw bw .nil pass0 (pa_cons (pv 0) (pa_cons (pv 1) pa_nil))))
      (pss_cons (ps_set (i := 3) scL.nd rfl (Or.inl rfl) (pe_ix ix_list (pe_lst (pa_cons (pe_call Gd hr3 rfl md kd bd .nil pass0 (pa_cons (pv 2) (pa_cons pe_int pa_nil))) (pa_cons (pe_call Gd hr3 rfl md kd bd .nil pass0 (pa_cons (pv 2) (pa_cons pe_int pa_nil))) pa_nil)))
        (pe_callTy call_int1 rfl T.int boot_int (pa_cons (pe_cmpR op_eq (pv 1) pe_int (nomark _)) pa_nil)) (fun _ _ => rfl)))
      (pss_cons (ps_set (i := 4) scL.nd rfl (Or.inl rfl) (pe_call Gp hr rfl mp kp bp .nil pass0 (pa_cons (pv 2) (pa_cons (pv 3) pa_nil))))
      (pss_cons (ps_if (pt_cmpR op_eq (pe_call Gd hr3 rfl md kd bd .nil pass0 (pa_cons (pv 2) (pa_cons pe_int pa_nil))) pe_int (nomark _))
        (pss_one (ps_setCompF (i := 4) scL.nd rfl (Or.inl rfl) (own := ["_law_pair"]) (g := gName 0) S rfl (pi_list (pv 4)) (fun C s2 H2 fp => pg_name (i := 0) ndP2 rfl (Or.inl rfl) (Or.inr rfl))
          (fun C s2 H2 fp => pt_cmpR op_ne (pe_ix (r := rIxT K) ix_tup (pv 0) pe_int (fun _ _ => rfl)) (pe_ix (r := rIxT K) ix_tup (pv 0) pe_int (fun _ _ => rfl)) (nomark _))
          (fun C s2 H2 fp => pe_tup (pa_cons (pe_callB (r := rMaxT K) (call_maxK rfl rfl) rfl T.max boot_max (pa_cons (pv 0) pa_nil)) (pa_cons (pe_callB (r := rMinT K) (call_minK rfl rfl) rfl T.min boot_min (pa_cons (pv 0) pa_nil)) pa_nil))))) pss_nil)
      h2))))) h1, ?_⟩
    refine ⟨1, 7, rfl, ⟨by decide, by decide, by decide, by decide⟩, ?_⟩
    refine for_range (lo := 1) (n := ((7 : Int) - 1).toNat) (fun i σ H2 => ∃ v1 v2 v3 v4 v5 v6 v7 v8 : Option V, σ = [some (.ref a), v1, v2, v3, v4, v5, v6, v7, v8] ∧ Same H H2) ⟨none, none, none, none, none, none, none, none, rfl, Same.refl H⟩ ?_ ?_
    · rintro i σ H2 hi ⟨v1, v2, v3, v4, v5, v6, v7, v8, rfl, s2⟩
      refine ⟨_, rfl, _, rfl, a, _, zs, rfl, s2.seq hS, by omega, fun w1 H3 s3 hw1 W3 => ?_⟩
      have hw0 : H w1 = none := s2.free hw1
      refine ⟨_, rfl, w1, 10, rfl, W3, by decide, by decide, fun n1 H4 hn1 kp4 W4 => ?_⟩
      refine ⟨_, rfl, w1, 61, rfl, W4, by decide, by decide, fun n2 H5 hn2 kp5 W5 => ?_⟩
      have s5 : Same H H5 := kpSame (kpSame (s2.trans s3) hw0 kp4) hw0 kp5
      refine ⟨(by show 2 ≤ sizeLine; decide), fun l hl => ?_⟩
      have s6 := sameNew (o := .lst [natV n1, natV n2]) hl
      refine ⟨_, rfl, rfl, .inr ⟨_, rfl, ?_⟩⟩
      obtain ⟨n, hn, hn60⟩ : ∃ n : Nat, atI [natV n1, natV n2] (if decide (V.int (1 + (i : Int)) = V.int 1) = true then 1 else 0) = some (natV n) ∧ n ≤ 60 := by
        split
        · exact ⟨n2, rfl, by omega⟩
        · exact ⟨n1, rfl, by omega⟩
      refine ⟨l, _, _, _, rfl, rfl, SqL.of upd_same, hn, ?_⟩
      have W6 := W5.new (o := .lst [natV n1, natV n2]) hl
      generalize upd H5 l (.lst [natV n1, natV n2]) = H6 at s6 W6
      have s06 := s5.trans s6
      refine ⟨_, rfl, _, rfl, w1, n, rfl, W6, hn60, fun p xs ps H7 kp7 W7 hp6 hp7 hps hb hl1000 => ?_⟩
      have s7 : Same H H7 := kpSame s06 hw0 kp7
      have hpw : p ≠ w1 := W6.ne hp6
      refine ⟨_, rfl, w1, 2, rfl, W7, by decide, by decide, fun coin H8 hco kp8 W8 => ?_⟩
      have s8 : Same H H8 := kpSame s7 hw0 kp8
      have hp8 := kp8 _ _ hp7 hpw
      have hps8 := PrsAt.mono (fun b ys e => kp8.tup W7 e) hps
      refine ⟨rfl, _, rfl, ?_⟩
      refine ite2 (fun _ => ?_) (fun _ => r2 _ H8 _ _ _ _ _ _ _ p xs n ps hp8 hps8 hb hn60 hl1000 fun H' _ _ _ _ sm => ⟨_, _, _, _, _, _, _, _, rfl, s8.trans sm⟩)
      refine ⟨_, rfl, p, rfl, ⟨_, SqL.of hp8⟩, fun D hD => ?_⟩
      have hlen := Paired.length hps8
      refine compF_listG (K := K) (a := p) (D := D) (xs := xs) (fun j acc σc H9 => (∃ v0, σc = [v0]) ∧ Same H8 H9 ∧ H9 D = some (.lst acc) ∧ ∃ qs : List Pr, PrsAt H9 acc qs ∧ Below n qs ∧ qs.length ≤ j)
        ⟨⟨none, rfl⟩, sameNew hD, upd_same, [], .nil, (fun p hp => (by cases hp)), Nat.le_refl _⟩ (fun j acc σc H9 _ ⟨_, s9, _⟩ => SqL.of (s9 _ _ hp8)) ?_ ?_
      · rintro j x acc σc H9 hj hx ⟨⟨v0, rfl⟩, s9, hD9, qs, hqs, hbq, hlq⟩
        obtain ⟨pq, hpq, t, rfl, ht⟩ := Paired.get hps8 hx
        have hpm := hb pq (List.mem_of_getElem? hpq)
        have ht9 := s9 _ _ ht
        refine ⟨_, rfl, t, _, _, _, rfl, rfl, SqT.of ht9, rfl, _, rfl, t, _, _, _, rfl, rfl, SqT.of ht9, rfl, rfl, _, rfl, ?_⟩
        refine ite2 (fun _ => ?_) (fun _ => cstep hj (acc := acc) ⟨⟨_, rfl⟩, s9, hD9, qs, hqs, hbq, by omega⟩)
        have hin : ∀ m : Int, m ∈ [(pq.1 : Int), (pq.2 : Int)] → ∃ k : Nat, m = k ∧ k < n := fun m hm => by
          simp at hm
          rcases hm with rfl | rfl
          · exact ⟨_, rfl, hpm.1⟩
          · exact ⟨_, rfl, hpm.2⟩
        refine ⟨_, rfl, t, [(pq.1 : Int), (pq.2 : Int)], rfl, SqT.of ht9, by simp, fun m1 hm1 _ => ?_⟩
        refine ⟨_, rfl, t, [(pq.1 : Int), (pq.2 : Int)], rfl, SqT.of ht9, by simp, fun m2 hm2 _ => ?_⟩
        obtain ⟨k1, rfl, hk1⟩ := hin m1 hm1
        obtain ⟨k2, rfl, hk2⟩ := hin m2 hm2
        refine ⟨(by show 2 ≤ sizeLine; decide), fun t2 ht2 => ?_⟩
        have s10 : Same H9 (upd H9 t2 (.tup [natV k1, natV k2])) := sameNew ht2
        have hD10 := s10 _ _ hD9
        have hl3 := Paired.length hqs
        refine cturn hD10 (small (by omega)) hj ?_
        have kt : ∀ b ys, (upd H9 t2 (.tup [natV k1, natV k2])) b = some (.tup ys) → (upd (upd H9 t2 (.tup [natV k1, natV k2])) D (.lst (acc ++ [.ref t2]))) b = some (.tup ys) := fun b ys e => by
          rw [upd_ne (ne_of e hD10 (by intro z; cases z))]
          exact e
        refine ⟨⟨_, rfl⟩, sameUpd hD (s9.trans s10), upd_same, qs ++ [(k1, k2)], Paired.snoc' (PrsAt.mono (fun b ys e => kt b ys (s10 _ _ e)) hqs) ⟨t2, rfl, kt _ _ upd_same⟩, fun q hq => ?_, by simp; omega⟩
        rcases List.mem_append.mp hq with z | z
        · exact hbq q z
        · rw [List.mem_singleton] at z
          subst z
          exact ⟨hk1, hk2⟩
      · rintro acc σc H9 ⟨_, s9, hD9, qs, hqs, hbq, hlq⟩
        exact r2 _ H9 _ _ _ _ _ _ _ D acc n qs hD9 hqs hbq hn60 (by omega) fun H' _ _ _ _ sm => ⟨_, _, _, _, _, _, _, _, rfl, s8.trans (s9.trans sm)⟩
    · rintro σ H2 ⟨_, _, _, _, _, _, _, _, rfl, s2⟩
      exact r1 _ Q H2 _ q
end
end K5
namespace K5
open PySem PyProof.Rows L2 G4
theorem all_mk {l : PySem.W.OpenLaw} {w : World} {K : PySem.W.Frag} {h : Heap} {mg : Str → Option Value} {fa f_ahead f_ring f_cell f_mixed f_twice f_well f_draw f_pairs f_comes f_back f_of f_right f_law : Addr} (X : K.In h) (G : h.Ns mainGlobals mg) (hfa : mg "law" = some (.ref fa))
    {od_ahead an_ahead od_ring an_ring od_cell an_cell od_mixed an_mixed od_twice an_twice od_well an_well od_draw an_draw od_pairs an_pairs od_comes an_comes od_back an_back od_of an_of od_right an_right od_law an_law : Option Addr} {sl_ahead sl_ring sl_cell sl_mixed sl_twice sl_well sl_draw sl_pairs sl_comes sl_back sl_of sl_right sl_law : Array (Option Value)} {oc_ahead kV_ahead dc_ahead pm_ahead cd_ahead ct_ahead oc_ring kV_ring dc_ring pm_ring cd_ring ct_ring oc_cell kV_cell dc_cell pm_cell cd_cell ct_cell oc_mixed kV_mixed dc_mixed pm_mixed cd_mixed ct_mixed oc_twice kV_twice dc_twice pm_twice cd_twice ct_twice oc_well kV_well dc_well pm_well cd_well ct_well oc_draw kV_draw dc_draw pm_draw cd_draw ct_draw oc_pairs kV_pairs dc_pairs pm_pairs cd_pairs ct_pairs oc_comes kV_comes dc_comes pm_comes cd_comes ct_comes oc_back kV_back dc_back pm_back cd_back ct_back oc_of kV_of dc_of pm_of cd_of ct_of oc_right kV_right dc_right pm_right cd_right ct_right oc_law kV_law dc_law pm_law cd_law ct_law : Value}
    (a_ahead : PySem.W.nsIn K mainGlobals "waves_ahead" = some (some (.ref f_ahead)))
    (l_ahead : K.lookup f_ahead = some ⟨oc_ahead, od_ahead, .func (PySem.W.fnOf "waves_ahead" "waves_ahead" (defArgs sAhead) (defBody sAhead) (defScope sAhead) .none kV_ahead dc_ahead pm_ahead an_ahead cd_ahead ct_ahead), sl_ahead⟩)
    (c_ahead : PySem.W.codeIn K cd_ahead "waves_ahead" = true)
    (k_ahead : PySem.W.keepIn K (.ref f_ahead) = true)
    (a_ring : PySem.W.nsIn K mainGlobals "ring_in" = some (some (.ref f_ring)))
    (l_ring : K.lookup f_ring = some ⟨oc_ring, od_ring, .func (PySem.W.fnOf "ring_in" "ring_in" (defArgs sRing) (defBody sRing) (defScope sRing) .none kV_ring dc_ring pm_ring an_ring cd_ring ct_ring), sl_ring⟩)
    (c_ring : PySem.W.codeIn K cd_ring "ring_in" = true)
    (k_ring : PySem.W.keepIn K (.ref f_ring) = true)
    (a_cell : PySem.W.nsIn K mainGlobals "_law_cell" = some (some (.ref f_cell)))
    (l_cell : K.lookup f_cell = some ⟨oc_cell, od_cell, .func (PySem.W.fnOf "_law_cell" "_law_cell" (defArgs sCell) (defBody sCell) (defScope sCell) .none kV_cell dc_cell pm_cell an_cell cd_cell ct_cell), sl_cell⟩)
    (c_cell : PySem.W.codeIn K cd_cell "_law_cell" = true)
    (k_cell : PySem.W.keepIn K (.ref f_cell) = true)
    (a_mixed : PySem.W.nsIn K mainGlobals "_law_mixed" = some (some (.ref f_mixed)))
    (l_mixed : K.lookup f_mixed = some ⟨oc_mixed, od_mixed, .func (PySem.W.fnOf "_law_mixed" "_law_mixed" (defArgs sMixed) (defBody sMixed) (defScope sMixed) .none kV_mixed dc_mixed pm_mixed an_mixed cd_mixed ct_mixed), sl_mixed⟩)
    (c_mixed : PySem.W.codeIn K cd_mixed "_law_mixed" = true)
    (k_mixed : PySem.W.keepIn K (.ref f_mixed) = true)
    (a_twice : PySem.W.nsIn K mainGlobals "_law_twice" = some (some (.ref f_twice)))
    (l_twice : K.lookup f_twice = some ⟨oc_twice, od_twice, .func (PySem.W.fnOf "_law_twice" "_law_twice" (defArgs sTwice) (defBody sTwice) (defScope sTwice) .none kV_twice dc_twice pm_twice an_twice cd_twice ct_twice), sl_twice⟩)
    (c_twice : PySem.W.codeIn K cd_twice "_law_twice" = true)
    (k_twice : PySem.W.keepIn K (.ref f_twice) = true)
    (a_well : PySem.W.nsIn K mainGlobals "_law_well" = some (some (.ref f_well)))
    (l_well : K.lookup f_well = some ⟨oc_well, od_well, .func (PySem.W.fnOf "_law_well" "_law_well" (defArgs sWell) (defBody sWell) (defScope sWell) .none kV_well dc_well pm_well an_well cd_well ct_well), sl_well⟩)
    (c_well : PySem.W.codeIn K cd_well "_law_well" = true)
    (k_well : PySem.W.keepIn K (.ref f_well) = true)
    (a_draw : PySem.W.nsIn K mainGlobals "_law_draw" = some (some (.ref f_draw)))
    (l_draw : K.lookup f_draw = some ⟨oc_draw, od_draw, .func (PySem.W.fnOf "_law_draw" "_law_draw" (defArgs sDraw) (defBody sDraw) (defScope sDraw) .none kV_draw dc_draw pm_draw an_draw cd_draw ct_draw), sl_draw⟩)
    (c_draw : PySem.W.codeIn K cd_draw "_law_draw" = true)
    (k_draw : PySem.W.keepIn K (.ref f_draw) = true)
    (a_pairs : PySem.W.nsIn K mainGlobals "_law_pairs" = some (some (.ref f_pairs)))
    (l_pairs : K.lookup f_pairs = some ⟨oc_pairs, od_pairs, .func (PySem.W.fnOf "_law_pairs" "_law_pairs" (defArgs sPairs) (defBody sPairs) (defScope sPairs) .none kV_pairs dc_pairs pm_pairs an_pairs cd_pairs ct_pairs), sl_pairs⟩)
    (c_pairs : PySem.W.codeIn K cd_pairs "_law_pairs" = true)
    (k_pairs : PySem.W.keepIn K (.ref f_pairs) = true)
    (a_comes : PySem.W.nsIn K mainGlobals "_law_comes_to" = some (some (.ref f_comes)))
    (l_comes : K.lookup f_comes = some ⟨oc_comes, od_comes, .func (PySem.W.fnOf "_law_comes_to" "_law_comes_to" (defArgs sComes) (defBody sComes) (defScope sComes) .none kV_comes dc_comes pm_comes an_comes cd_comes ct_comes), sl_comes⟩)
    (c_comes : PySem.W.codeIn K cd_comes "_law_comes_to" = true)
    (k_comes : PySem.W.keepIn K (.ref f_comes) = true)
    (a_back : PySem.W.nsIn K mainGlobals "_law_some_comes_back" = some (some (.ref f_back)))
    (l_back : K.lookup f_back = some ⟨oc_back, od_back, .func (PySem.W.fnOf "_law_some_comes_back" "_law_some_comes_back" (defArgs sBack) (defBody sBack) (defScope sBack) .none kV_back dc_back pm_back an_back cd_back ct_back), sl_back⟩)
    (c_back : PySem.W.codeIn K cd_back "_law_some_comes_back" = true)
    (k_back : PySem.W.keepIn K (.ref f_back) = true)
    (a_of : PySem.W.nsIn K mainGlobals "waves_of" = some (some (.ref f_of)))
    (l_of : K.lookup f_of = some ⟨oc_of, od_of, .func (PySem.W.fnOf "waves_of" "waves_of" (defArgs sOf) (defBody sOf) (defScope sOf) .none kV_of dc_of pm_of an_of cd_of ct_of), sl_of⟩)
    (c_of : PySem.W.codeIn K cd_of "waves_of" = true)
    (k_of : PySem.W.keepIn K (.ref f_of) = true)
    (a_right : PySem.W.nsIn K mainGlobals "_law_right" = some (some (.ref f_right)))
    (l_right : K.lookup f_right = some ⟨oc_right, od_right, .func (PySem.W.fnOf "_law_right" "_law_right" (defArgs sRight) (defBody sRight) (defScope sRight) .none kV_right dc_right pm_right an_right cd_right ct_right), sl_right⟩)
    (c_right : PySem.W.codeIn K cd_right "_law_right" = true)
    (k_right : PySem.W.keepIn K (.ref f_right) = true)
    (a_law : PySem.W.nsIn K mainGlobals "law" = some (some (.ref f_law)))
    (l_law : K.lookup f_law = some ⟨oc_law, od_law, .func (PySem.W.fnOf "law" "law" (defArgs sLaw) (defBody sLaw) (defScope sLaw) .none kV_law dc_law pm_law an_law cd_law ct_law), sl_law⟩)
    (c_law : PySem.W.codeIn K cd_law "law" = true)
    (k_law : PySem.W.keepIn K (.ref f_law) = true)
    (z_isinstance : PySem.W.nsIn K mainGlobals "isinstance" = some none)
    (z_int : PySem.W.nsIn K mainGlobals "int" = some none)
    (z_bool : PySem.W.nsIn K mainGlobals "bool" = some none)
    (z_list : PySem.W.nsIn K mainGlobals "list" = some none)
    (z_len : PySem.W.nsIn K mainGlobals "len" = some none)
    (z_range : PySem.W.nsIn K mainGlobals "range" = some none)
    (z_min : PySem.W.nsIn K mainGlobals "min" = some none)
    (z_max : PySem.W.nsIn K mainGlobals "max" = some none)
    (z_sorted : PySem.W.nsIn K mainGlobals "sorted" = some none)
    (z_sum : PySem.W.nsIn K mainGlobals "sum" = some none)
    : ∃ fd : FuncData, (∀ (s : Shared) (v : Value), BindsTo s fd ⟨[v], []⟩ [("_law_script", v)]) ∧ ∀ base : Heap, K.In base → base.Ns mainGlobals mg → FnOk l.prog w K mg base CX0 5 fa fd ["_law_script"] (spLaw K) := by
  have e := hfa.symm.trans (PySem.W.mg_of X G a_law)
  cases e
  have T : Txt K mg := ⟨PySem.W.mg_none_of X G z_isinstance, PySem.W.mg_none_of X G z_int, PySem.W.mg_none_of X G z_bool, PySem.W.mg_none_of X G z_list, PySem.W.mg_none_of X G z_len, PySem.W.mg_none_of X G z_range, PySem.W.mg_none_of X G z_min, PySem.W.mg_none_of X G z_max, PySem.W.mg_none_of X G z_sorted, PySem.W.mg_none_of X G z_sum⟩
  have F_ahead := fun_mk (st := sAhead) l_ahead c_ahead k_ahead
  have F_ring := fun_mk (st := sRing) l_ring c_ring k_ring
  have F_cell := fun_mk (st := sCell) l_cell c_cell k_cell
  have F_mixed := fun_mk (st := sMixed) l_mixed c_mixed k_mixed
  have F_twice := fun_mk (st := sTwice) l_twice c_twice k_twice
  have F_well := fun_mk (st := sWell) l_well c_well k_well
  have F_draw := fun_mk (st := sDraw) l_draw c_draw k_draw
  have F_pairs := fun_mk (st := sPairs) l_pairs c_pairs k_pairs
  have F_comes := fun_mk (st := sComes) l_comes c_comes k_comes
  have F_back := fun_mk (st := sBack) l_back c_back k_back
  have F_of := fun_mk (st := sOf) l_of c_of k_of
  have F_right := fun_mk (st := sRight) l_right c_right k_right
  have F_law := fun_mk (st := sLaw) l_law c_law k_law
  have b_ahead := F_ahead.binds (ps := ["pairs", "many"]) fun _ _ _ _ _ _ us hl => match us, hl with | [_, _], _ => rfl
  have b_ring := F_ring.binds (ps := ["pairs", "many"]) fun _ _ _ _ _ _ us hl => match us, hl with | [_, _], _ => rfl
  have b_cell := F_cell.binds (ps := ["_law_script", "_law_k"]) fun _ _ _ _ _ _ us hl => match us, hl with | [_, _], _ => rfl
  have b_mixed := F_mixed.binds (ps := ["_law_cell_here", "_law_k"]) fun _ _ _ _ _ _ us hl => match us, hl with | [_, _], _ => rfl
  have b_twice := F_twice.binds (ps := ["_law_cell_here", "_law_k"]) fun _ _ _ _ _ _ us hl => match us, hl with | [_, _], _ => rfl
  have b_well := F_well.binds (ps := ["_law_script", "_law_k"]) fun _ _ _ _ _ _ us hl => match us, hl with | [_, _], _ => rfl
  have b_draw := F_draw.binds (ps := ["_law_well_here", "_law_most"]) fun _ _ _ _ _ _ us hl => match us, hl with | [_, _], _ => rfl
  have b_pairs := F_pairs.binds (ps := ["_law_well_here", "_law_many"]) fun _ _ _ _ _ _ us hl => match us, hl with | [_, _], _ => rfl
  have b_comes := F_comes.binds (ps := ["_law_nexts", "_law_one"]) fun _ _ _ _ _ _ us hl => match us, hl with | [_, _], _ => rfl
  have b_back := F_back.binds (ps := ["_law_pairs_here", "_law_many"]) fun _ _ _ _ _ _ us hl => match us, hl with | [_, _], _ => rfl
  have b_of := F_of.binds (ps := ["pairs", "many"]) fun _ _ _ _ _ _ us hl => match us, hl with | [_, _], _ => rfl
  have b_right := F_right.binds (ps := ["_law_found", "_law_pairs_here", "_law_many"]) fun _ _ _ _ _ _ us hl => match us, hl with | [_, _, _], _ => rfl
  have m_ahead := PySem.W.mg_of X G a_ahead
  have m_ring := PySem.W.mg_of X G a_ring
  have m_cell := PySem.W.mg_of X G a_cell
  have m_mixed := PySem.W.mg_of X G a_mixed
  have m_twice := PySem.W.mg_of X G a_twice
  have m_well := PySem.W.mg_of X G a_well
  have m_draw := PySem.W.mg_of X G a_draw
  have m_pairs := PySem.W.mg_of X G a_pairs
  have m_comes := PySem.W.mg_of X G a_comes
  have m_back := PySem.W.mg_of X G a_back
  have m_of := PySem.W.mg_of X G a_of
  have m_right := PySem.W.mg_of X G a_right
  refine ⟨PySem.W.fnOf "law" "law" (defArgs sLaw) (defBody sLaw) (defScope sLaw) .none kV_law dc_law pm_law an_law cd_law ct_law, fun s v => .of_eq rfl, fun base _ _ => ?_⟩
  have Gdraw : FnOk l.prog w K mg base CX0 3 f_draw _ ["_law_well_here", "_law_most"] spDraw := ok_draw F_draw F_twice m_twice b_twice (ok_twice F_twice F_mixed m_mixed b_mixed)
  exact ok_law F_law ⟨T, ⟨_, _, ok_well F_well F_cell m_cell b_cell T, m_well, k_well, b_well⟩, ⟨_, _, Gdraw, m_draw, k_draw, b_draw⟩, ⟨_, _, ok_pairs F_pairs Gdraw m_draw k_draw b_draw T, m_pairs, k_pairs, b_pairs⟩, ⟨_, _, ok_back F_back F_comes m_comes b_comes T, m_back, k_back, b_back⟩, ⟨_, _, ok_ring F_ring F_ahead m_ahead b_ahead T, m_ring, k_ring, b_ring⟩, ⟨_, _, ok_of F_of F_ahead m_ahead b_ahead T, m_of, k_of, b_of⟩, ⟨_, _, ok_right F_right T, m_right, k_right, b_right⟩⟩
theorem walk {l : PySem.W.OpenLaw} {q : Program} {loose : List Str} {XP : (Str → Option Value) → Heap → Prop} {YP : World → Heap → Prop} {d : DefRec} {K : Params → PySem.W.Frag} (hn : l.most = some 63) (hdf : d.params.defaults = [])
    (hY : ∀ (w : World) (h : Heap), YP w h → (K w.params).In h)
    (F : ∀ (w : World) (mg : Str → Option Value) (fa : Addr) (h : Heap), (K w.params).In h → h.Ns mainGlobals mg → mg d.name = some (.ref fa) →
      ∃ fd : FuncData, (∀ (s : Shared) (u : Value), BindsTo s fd ⟨[u], []⟩ [("_law_script", u)]) ∧ ∀ base : Heap, (K w.params).In base → base.Ns mainGlobals mg → FnOk l.prog w (K w.params) mg base CX0 5 fa fd ["_law_script"] (spLaw (K w.params))) :
    PySem.W.WalkO q loose XP YP l.row.toRowW d [] (fun f vs => PySem.call f vs) :=
  L2.walk_of (n := 63) (k := 5) (x := "_law_script") (CX := fun _ => CX0) (sp := fun w => spLaw (K w.params)) hn (by decide) hdf ⟨rfl, by decide, by decide⟩ hY F (fun _ _ a ns _ _ hS => ⟨a, ns, rfl, hS, fun _ => rfl⟩) fun _ _ _ _ _ z => z
end K5
open PySem PySem.W PyProof.Rows
set_option maxRecDepth 100000 in
set_option maxHeartbeats 0 in
theorem PySem.Challenge.cw_slanttiles_k41_waves_of_pieces_holds : PySem.Challenge.rw_slanttiles_k41_waves_of_pieces.Holds := by
  w_on; o_law; k_head; (case hw => w_witness2)
  k_fill
  refine K5.walk (l := PySem.Challenge.rw_slanttiles_k41_waves_of_pieces) rfl rfl (fun w h Y => PySem.W.kIn_of Y) ?F
  case F =>
    intro w mg fa h KX G hmg
    refine' K5.all_mk KX G hmg ?a_ahead ?l_ahead ?c_ahead ?k_ahead ?a_ring ?l_ring ?c_ring ?k_ring ?a_cell ?l_cell ?c_cell ?k_cell ?a_mixed ?l_mixed ?c_mixed ?k_mixed ?a_twice ?l_twice ?c_twice ?k_twice ?a_well ?l_well ?c_well ?k_well ?a_draw ?l_draw ?c_draw ?k_draw ?a_pairs ?l_pairs ?c_pairs ?k_pairs ?a_comes ?l_comes ?c_comes ?k_comes ?a_back ?l_back ?c_back ?k_back ?a_of ?l_of ?c_of ?k_of ?a_right ?l_right ?c_right ?k_right ?a_law ?l_law ?c_law ?k_law ?z_isinstance ?z_int ?z_bool ?z_list ?z_len ?z_range ?z_min ?z_max ?z_sorted ?z_sum
    (case a_ahead => k_is); (case l_ahead => k_is); (case c_ahead => k_is); (case k_ahead => k_is); (case a_ring => k_is)
    (case l_ring => k_is); (case c_ring => k_is); (case k_ring => k_is); (case a_cell => k_is); (case l_cell => k_is)
    (case c_cell => k_is); (case k_cell => k_is); (case a_mixed => k_is); (case l_mixed => k_is); (case c_mixed => k_is)
    (case k_mixed => k_is); (case a_twice => k_is); (case l_twice => k_is); (case c_twice => k_is); (case k_twice => k_is)
    (case a_well => k_is); (case l_well => k_is); (case c_well => k_is); (case k_well => k_is); (case a_draw => k_is)
    (case l_draw => k_is); (case c_draw => k_is); (case k_draw => k_is); (case a_pairs => k_is); (case l_pairs => k_is)
    (case c_pairs => k_is); (case k_pairs => k_is); (case a_comes => k_is); (case l_comes => k_is); (case c_comes => k_is)
    (case k_comes => k_is); (case a_back => k_is); (case l_back => k_is); (case c_back => k_is); (case k_back => k_is)
    (case a_of => k_is); (case l_of => k_is); (case c_of => k_is); (case k_of => k_is); (case a_right => k_is)
    (case l_right => k_is); (case c_right => k_is); (case k_right => k_is); (case a_law => k_is); (case l_law => k_is)
    (case c_law => k_is); (case k_law => k_is); (case z_isinstance => k_is); (case z_int => k_is); (case z_bool => k_is)
    (case z_list => k_is); (case z_len => k_is); (case z_range => k_is); (case z_min => k_is); (case z_max => k_is)
    (case z_sorted => k_is); (case z_sum => k_is)
