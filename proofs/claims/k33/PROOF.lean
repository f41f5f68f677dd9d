import PyProof.Rows.All
import Wide.All
import OpenK.AllK
import Wide.FinOn
import Lean
import PyProof.EqAt
import PyProof.EqKinds
import PyProof.TupleCall
import PyProof.NeKinds
import PyProof.EnumStmt
import PyProof.EnumMake
import PyProof.EnumFor
import PyProof.ListMulRoad
import PyProof.CompFree
import PyProof.CompMap
import PyProof.Rows.SortWalk
import PyProof.Rows.MinMaxN
import PyProof.Rows.SeqMore2
import PyProof.Rows.SetFrom
import KE.KDictList
import PyProof.SumWalk
import PyProof.WalksMore
import PyProof.TupleIter
import PyProof.ListRange
import KE.KDictSum
import PyProof.AutoListH
import PyProof.FactsAll.list_3
import PyProof.MinMaxWalk
import PyProof.WalkInts
import KE.KMinBuiltin
import PyProof.Rows.CallKwBuiltin
import PyProof.ZipIter
import KE.KItemsList
import PyProof.DictWalks
import PyProof.FactsAll.dict_4
import PyProof.ConsumeWalk
import KE.KRevSl
import KE.KDictOf
import PyProof.Cells
import OpenK.KLine
import KE.KIsAll
import PyProof.AttrMissHeap
import PyProof.DictUpdate
import PyProof.FactsAll.dict_3
import PyProof.SliceStr2
import PyProof.StrLaws
import PyProof.StrLawsIn
import PyProof.StrCalls
import PyProof.StrCalls2
import PyProof.FString
import PyProof.Draws
import PyProof.StrWalks
import PyProof.StrLoop
import KE.KIntText
import KE.IntTextLaws
import PyProof.SetKind
import PyProof.DictFindH
import PyProof.IsRules
import PyProof.TupleKey
import PyProof.CollectIter
import PyProof.FactsAll.set
import PyProof.DictIter
import KE.KSortTup
import PyProof.PureInt
import PyProof.EqAt
import PyProof.FactsAll.list
import PyProof.FactsAll.tuple
import PyProof.Rows.SortShell
import PyProof.Rows.IntRules
import PyProof.Walks
import PyProof.StationsW
import PyProof.InstStoreFacts
import PyProof.StrBlock2
import PyProof.Rows.CountFlat
import PySem.Challenge.RW_slanttiles_k33_how_far_takes_reach
set_option Elab.async false
set_option linter.all false
set_option maxRecDepth 100000
namespace L2
open PySem PySem.Spec PyProof.Rows
abbrev Key:=Sum Int Str
def aA2:Key->Value->Bool
 | .inl k,v=>Value.isInt k v
 | .inr x,v=>Value.isStrOf x v
def aTn (w:World):Key->Int
 | .inl k=>hashInt k
 | .inr x=>hashStr w x
theorem cX:∀{k:Key} {v:Value},aA2 k v=true->(∃i t,k=Sum.inl i/\v=Value.int i t)∨(∃x t,k=Sum.inr x/\v=Value.str x t)
 | .inl i,v,h=>by
  obtain⟨t,e⟩:=Value.isInt_shape (k:=i) (v:=v) h
  exact .inl ⟨i,t,rfl,e⟩
 | .inr x,v,h=>by
  obtain⟨t,e⟩:=Value.isStrOf_shape (x:=x) (v:=v) h
  exact .inr ⟨x,t,rfl,e⟩
theorem aHn (i:Int) (t:Tok):aA2 (.inl i) (.int i t)=true:=by simp [aA2,Value.isInt]
theorem aHu (x:Str) (t:Tok):aA2 (.inr x) (.str x t)=true:=by simp [aA2,Value.isStrOf]
theorem aPv (a b:Int):decide ((Sum.inl a:Key)=Sum.inl b)=(a==b):=by
 by_cases e:a=b
 ·subst e;simp
 ·have h:¬(Sum.inl a:Key)=Sum.inl b:=fun q=>e (Sum.inl.inj q)
  rw [decide_eq_false h]
  exact(beq_eq_false_iff_ne.mpr e).symm
theorem aRg (a b:Str):decide ((Sum.inr a:Key)=Sum.inr b)=decide (a=b):=by
 by_cases e:a=b
 ·subst e;simp
 ·have h:¬(Sum.inr a:Key)=Sum.inr b:=fun q=>e (Sum.inr.inj q)
  rw [decide_eq_false h,decide_eq_false e]
theorem aP0 (a:Int) (b:Str):decide ((Sum.inl a:Key)=Sum.inr b)=false:=decide_eq_false (fun q=>nomatch q)
theorem aP4 (a:Str) (b:Int):decide ((Sum.inr a:Key)=Sum.inl b)=false:=decide_eq_false (fun q=>nomatch q)
def dN (prog:Program) (w:World):PySem.KeyKind prog w Key where
 is:=aA2
 hash:=aTn w
 inj:=fun v a b ha hb=>by
  rcases cX ha with ⟨i,t,rfl,rfl⟩|⟨x,t,rfl,rfl⟩
  ·rcases cX hb with ⟨j,u,rfl,e⟩|⟨y,u,rfl,e⟩
   ·injection e with e1 _;rw [e1]
   ·exact nomatch e
  ·rcases cX hb with ⟨j,u,rfl,e⟩|⟨y,u,rfl,e⟩
   ·exact nomatch e
   ·injection e with e1 _;rw [e1]
 byValue:=fun k v h=>by
  rcases cX h with ⟨i,t,rfl,rfl⟩|⟨x,t,rfl,rfl⟩<;>rfl
 pyHash:=fun hv h=>by
  rcases cX hv with ⟨i,t,rfl,rfl⟩|⟨x,t,rfl,rfl⟩
  ·exact wpAny_pyHash_int h
  ·exact wpAny_pyHash_str h
 eqBool:=fun hu hv h=>by
  rcases cX hu with ⟨i,t,rfl,rfl⟩|⟨x,t,rfl,rfl⟩
  ·rcases cX hv with ⟨j,u,rfl,rfl⟩|⟨y,u,rfl,rfl⟩
   ·rw [aPv]at h;exact wpAny_eqBool_int h
   ·rw [aP0]at h;exact SeqAt.EqAt.int_str i t y u _ _ _ _ h
  ·rcases cX hv with ⟨j,u,rfl,rfl⟩|⟨y,u,rfl,rfl⟩
   ·rw [aP4]at h;exact SeqAt.EqAt.str_int x t j u _ _ _ _ h
   ·rw [aRg]at h;exact wpAny_eqBool_str h
 «strs»:=fun k x t v h=>by
  rcases cX h with ⟨i,u,rfl,e⟩|⟨y,u,rfl,e⟩
  ·exact nomatch e
  ·injection e with e1 _
   subst e1
   cases v<;>rfl
theorem aDs (prog:Program) (w:World) (i:Int) (t:Tok):(dN prog w).is (.inl i) (.int i t)=true:=aHn i t
theorem aDl (prog:Program) (w:World) (x:Str) (t:Tok):(dN prog w).is (.inr x) (.str x t)=true:=aHu x t
end L2
namespace L2
open PySem PySem.Spec PyProof.Rows
inductive V where
 |non|bl (b:Bool)|int (i:Int)|str (x:Str)|byt (b:Array UInt8)|flt (b:UInt64)|ref (a:Addr)|ty (n:String)
 deriving DecidableEq
def RelV:V->Value->Prop
 | .non,u=>u=Value.none
 | .bl b,u=>u=Value.bool b
 | .int i,u=>∃t,u=Value.int i t
 | .str x,u=>∃t,u=Value.str x t
 | .byt b,u=>∃t,u=Value.bytes b t
 | .flt b,u=>∃t,u=Value.float b t
 | .ref a,u=>u=Value.ref a
 | .ty n,u=>u=Value.type n
abbrev Vals:List V->List Value->Prop:=Paired RelV
theorem Vals.length {xs:List V} {us:List Value} (r:Vals xs us):xs.length=us.length:=Paired.length r
theorem Vals.get:∀{xs:List V} {us:List Value} {i:Nat} {x:V},Vals xs us->xs[i]? =some x->∃u,us[i]? =some u/\RelV x u
 |_,_,_,_,.nil,e=>by simp at e
 |_,_,0,_,.cons r _,e=>by simp at e;subst e;exact⟨_,rfl,r⟩
 |_,_,i+1,x,.cons _ t,e=>by
  obtain⟨u,h1,h2⟩:=Vals.get (i:=i) (x:=x) t (by simpa using e)
  exact⟨u,by simpa using h1,h2⟩
theorem Vals.set {x:V} {u:Value} (r:RelV x u):∀{xs:List V} {us:List Value} (i:Nat),Vals xs us->Vals (xs.set i x) (us.set i u)
 |_,_,_,.nil=> .nil
 |_,_,0,.cons _ t=> .cons r t
 |_,_,i+1,.cons q t=> .cons q (Vals.set r i t)
theorem Vals.append:∀{xs ys:List V} {us ws:List Value},Vals xs us->Vals ys ws->Vals (xs++ys) (us++ws)
 |_,_,_,_,.nil,s=>s
 |_,_,_,_,.cons r t,s=> .cons r (Vals.append t s)
def qX:Option V->Option Value->Prop
 |some v,some u=>RelV v u
 |none,none=>True
 |_,_=>False
def KV {κ:Type}:List (κ×V)->List (κ×Value)->Prop:=Paired fun(p:κ×V) (q:κ×Value)=>p.1=q.1/\RelV p.2 q.2
def kV:Key->V
 | .inl i=> .int i
 | .inr x=> .str x
inductive HO where
 |lst (xs:List V)
 |tup (xs:List V)
 |dK (kvs:List (Key×V))|dT (kvs:List (List Key×V))
 |set (S:Int->Bool) (n:Nat)
 |ins (C dx:Addr) (fs:List (Str×V))
 |own (x:Addr)
 |xd (fs:List (Str×V))
 |met (f x:Addr)
 |rng (lo hi:Int)
 |frz (o:Obj) (u:HO)
 |tbl (ps:Array Value)
 |ext (φ:Heap->Prop)
abbrev Hp:=Addr->Option HO
def upd (H:Hp) (a:Addr) (o:HO):Hp:=fun b=>if b=a then some o else H b
theorem aJ {H:Hp} {a:Addr} {o:HO}:upd H a o a=some o:=by unfold upd;rw [if_pos rfl]
theorem aQ {H:Hp} {a b:Addr} {o:HO} (h:b≠a):upd H a o b=H b:=by unfold upd;rw [if_neg h]
theorem aS2 {H:Hp} {a b:Addr} {o u:HO} (h:H a=some o) (h':H b=some u) (d:o≠u):a≠b:=by
 intro e;subst e;rw [h]at h';exact d (Option.some.inj h')
theorem aU {H:Hp} {a b:Addr} {o:HO} (h:H a=some o) (h':H b=none):a≠b:=by
 intro e;subst e;rw [h]at h';cases h'
section
variable (P:Program) (w:World)
def cQ (H:Hp) (h:Heap) (a:Addr):HO->Prop
 | .lst xs=>xs.length<=sizeLine/\∃(its:List Value) (n:Nat),Vals xs its/\h.get? a=some {cls:= .type "list",data:= .seq its.toArray n}
 | .tup xs=>xs.length<=sizeLine/\∃its:List Value,Vals xs its/\IsTup h a its.toArray
 | .dK kvs=>kvs.length<=sizeLine/\(a==sysModules)=false/\∃vs,KV kvs vs/\h.DictOf (dN P w) a vs
 | .dT kvs=>kvs.length<=sizeLine/\(a==sysModules)=false/\∃xs:List (List Key×Addr×Value),
   Paired (fun(p:List Key×V) (q:List Key×Addr×Value)=>p.1=q.1/\H q.2.1=some (.tup (p.1.map kV))/\RelV p.2 q.2.2) kvs xs/\
   ∃o es ep,h.get? a=some o/\o.ExactDict/\o.data= .dict es ep/\es.toList=xs.map (entryOfKey (tupleKind (dN P w)))/\(xs.map (·.1)).Nodup
 | .set S n=>h.SetOf (intKind P w) a S n
 | .ins C dx fs=>H dx=some (.own a)/\fs.length<=1000/\dx≠a/\h.get? a=some (PySem.W.instObj C dx)/\
   ∃mA,h.Ns1 dx mA/\(∀f,qX (fs.lookup f) (mA f))/\PySem.Within mA (fs.map (·.1))
 | .own _=>∃o,h.get? a=some o
 | .xd fs=>∃mA,h.Ns1 a mA/\∀f,qX (fs.lookup f) (mA f)
 | .rng lo hi=>∃t u v,h.get? a=some {cls:= .type "range",data:= .fields #[.int lo t,.int hi u,.int 1 v]}
 | .frz o u=>h.get? a=some o/\cQ H h a u
 | .tbl ps=>h.get? a=some {cls:= .none,data:= .fields ps}
 | .met f x=>h.get? a=some (PySem.W.methodObj (.ref f) (.ref x))
 | .ext φ=>φ h/\(∃o,h.get? a=some o)/\∀h1 h2:Heap,φ h1->(∀o,h1.get? a=some o->h2.get? a=some o)->φ h2
def HOk (H:Hp) (h:Heap):Prop:=∀a o,H a=some o->cQ P w H h a o
end
section
variable {P:Program} {w:World} {H H':Hp} {h h':Heap} {a:Addr} {o:HO}
theorem cQ.lt (x:cQ P w H h a o):a<h.objs.size:=by
 cases o with
 |lst xs=>obtain⟨_,_,_,_,e⟩:=x;exact Heap.lt_size e
 |tup xs=>obtain⟨_,_,_,p⟩:=x;exact p.lt
 |dK kvs=>obtain⟨_,_,_,_,o,_,_,e,_⟩:=x;exact Heap.lt_size e
 |dT kvs=>obtain⟨_,_,_,_,o,_,_,e,_⟩:=x;exact Heap.lt_size e
 |set S n=>obtain⟨o,_,_,_,e,_⟩:=x;exact Heap.lt_size e
 |ins C dx fs=>obtain⟨_,_,_,e,_⟩:=x;exact Heap.lt_size e
 |own y=>obtain⟨_,e⟩:=x;exact Heap.lt_size e
 |xd fs=>obtain⟨_,⟨_,_,_,e,_⟩,_⟩:=x;exact Heap.lt_size e
 |rng lo hi=>obtain⟨_,_,_,e⟩:=x;exact Heap.lt_size e
 |frz ob u=>obtain⟨e,_⟩:=x;exact Heap.lt_size e
 |tbl ps=>exact Heap.lt_size (show h.get? a=some _ from x)
 |met f y=>exact Heap.lt_size (show h.get? a=some _ from x)
 |ext φ=>obtain⟨_,⟨_,e⟩,_⟩:=x;exact Heap.lt_size e
theorem Paired.mapP {α β:Type} {F G:α->β->Prop}:∀{l₁:List α} {l₂:List β},Paired F l₁ l₂->(∀a b,F a b->G a b)->Paired G l₁ l₂
 |_,_,.nil,_=> .nil
 |_,_,.cons r t,f=> .cons (f _ _ r) (Paired.mapP t f)
theorem cQ.stay (x:cQ P w H h a o) (k:∀b u,(b=a∨H b=some (.own a))->h.get? b=some u->h'.get? b=some u)
  (ho:∀b,H b=some (.own a)->H' b=some (.own a)) (ht:∀b xs,H b=some (.tup xs)->H' b=some (.tup xs)):cQ P w H' h' a o:=by
 induction o with
 |lst xs=>obtain⟨z,its,n,r,e⟩:=x;exact⟨z,its,n,r,k _ _ (.inl rfl) e⟩
 |tup xs=>obtain⟨z,its,r,ob,e,c⟩:=x;exact⟨z,its,r,ob,k _ _ (.inl rfl) e,c⟩
 |dK kvs=>obtain⟨z,y,vs,r,ob,es,ep,e,c⟩:=x;exact⟨z,y,vs,r,ob,es,ep,k _ _ (.inl rfl) e,c⟩
 |dT kvs=>
  obtain⟨z,y,xs,r,ob,es,ep,e,c⟩:=x
  exact⟨z,y,xs,Paired.mapP r fun p q z=>⟨z.1,ht _ _ z.2.1,z.2.2⟩,ob,es,ep,k _ _ (.inl rfl) e,c⟩
 |set S n=>obtain⟨ob,es,ep,t,e,c⟩:=x;exact⟨ob,es,ep,t,k _ _ (.inl rfl) e,c⟩
 |ins C dx fs=>
  obtain⟨d,z,ne,e,mA,⟨od,es,ep,e2,c⟩,r⟩:=x
  exact⟨ho _ d,z,ne,k _ _ (.inl rfl) e,mA,⟨od,es,ep,k _ _ (.inr d) e2,c⟩,r⟩
 |own y=>obtain⟨ob,e⟩:=x;exact⟨ob,k _ _ (.inl rfl) e⟩
 |xd fs=>obtain⟨mA,⟨od,es,ep,e,c⟩,r⟩:=x;exact⟨mA,⟨od,es,ep,k _ _ (.inl rfl) e,c⟩,r⟩
 |rng lo hi=>obtain⟨t,u,v,e⟩:=x;exact⟨t,u,v,k _ _ (.inl rfl) e⟩
 |frz ob u ih=>obtain⟨e,q⟩:=x;exact⟨k _ _ (.inl rfl) e,ih q⟩
 |tbl ps=>
  have e:h.get? a=some {cls:= .none,data:= .fields ps}:=x
  show h'.get? a=some {cls:= .none,data:= .fields ps}
  exact k a _ (.inl rfl) e
 |met f y=>
  have e:h.get? a=some (PySem.W.methodObj (.ref f) (.ref y)):=x
  show h'.get? a=some (PySem.W.methodObj (.ref f) (.ref y))
  exact k a _ (.inl rfl) e
 |ext φ=>obtain⟨p,⟨o,e⟩,st⟩:=x;exact⟨st _ _ p fun o q=>k _ _ (.inl rfl) q,⟨o,k _ _ (.inl rfl) e⟩,st⟩
theorem HOk.lt (x:HOk P w H h) (e:H a=some o):a<h.objs.size:=(x a o e).lt
theorem HOk.fresh (x:HOk P w H h) (e:h.objs.size<=a):H a=none:=by
 cases q:H a with
 |none=>rfl
 |some u=>exact absurd (Nat.lt_of_lt_of_le (x.lt q) e) (Nat.lt_irrefl _)
theorem HOk.kept (x:HOk P w H h) (k:∀b u,h.get? b=some u->h'.get? b=some u):HOk P w H h':=fun a o e=>
 (x a o e).stay (fun b u _ q=>k b u q) (fun _ q=>q) fun _ _ q=>q
theorem HOk.laid (x:HOk P w H h) (k:∀b u,h.get? b=some u->h'.get? b=some u) (hp:h.objs.size<=a) (new:cQ P w (upd H a o) h' a o):HOk P w (upd H a o) h':=fun b u e=>by
 have hn:=x.fresh hp
 by_cases hb:b=a
 ·subst hb;rw [aJ]at e;cases e;exact new
 ·rw [aQ hb]at e
  exact(x b u e).stay (fun c v _ q=>k c v q) (fun c q=>by rw [aQ (aU q hn)];exact q) fun c xs q=>by rw [aQ (aU q hn)];exact q
end
def Rd (H:Hp) (a:Addr) (u:HO):Prop:=H a=some u∨∃o,H a=some (.frz o u)
theorem Rd.ok {P:Program} {w:World} {H:Hp} {h:Heap} {a:Addr} {u:HO} (r:Rd H a u) (x:HOk P w H h):cQ P w H h a u:=by
 rcases r with r|⟨o,r⟩
 ·exact x a u r
 ·obtain⟨_,q⟩:=x a _ r
  exact q
def Mut:Option HO->Prop
 |some (.lst _)=>True
 |some (.dK _)=>True
 |some (.dT _)=>True
 |some (.set _ _)=>True
 |some (.ins _ _ _)=>True
 |some (.ext _)=>True
 |_=>False
section
variable {P:Program} {w:World} {H:Hp} {h h':Heap} {x e:Addr} {o':HO}
theorem HOk.write (ok:HOk P w H h) (mu:Mut (H x)) (he:e=x∨H e=some (.own x)) (k:∀b u,b≠e->h.get? b=some u->h'.get? b=some u) (heo:∃u,h'.get? e=some u)
  (new:cQ P w (upd H x o') h' x o'):HOk P w (upd H x o') h':=fun b u q=>by
 have nown:∀c y,H c=some (.own y)->c≠x:=fun c y r z=>by subst z;rw [r]at mu;exact mu
 have ntup:∀c xs,H c=some (.tup xs)->c≠x:=fun c xs r z=>by subst z;rw [r]at mu;exact mu
 by_cases hb:b=x
 ·subst hb;rw [aJ]at q;cases q;exact new
 ·rw [aQ hb]at q
  by_cases hbe:b=e
  ·have q':H b=some (.own x):=by
    rcases he with z|z
    ·exact absurd (hbe.trans z) hb
    ·rw [hbe];exact z
   rw [q]at q';cases q'
   obtain⟨v,hv⟩:=heo
   exact⟨v,by rw [hbe];exact hv⟩
  ·refine(ok b u q).stay (fun c v hc r=>k c v ?_ r) (fun c r=>by rw [aQ (nown c b r)];exact r) fun c xs r=>by rw [aQ (ntup c xs r)];exact r
   rcases hc with rfl|hc
   ·exact hbe
   ·rintro rfl
    rcases he with z|z
    ·exact nown c b hc z
    ·rw [hc]at z;cases z;exact hb rfl
end
structure Un (fs ex:List Addr) (H H':Hp) (h h':Heap):Prop where
 keep:∀b o,h.get? b=some o->H b=none->b∉fs->b∉ex->h'.get? b=some o
 slot:∀b o,h.get? b=some o->H b=none->b∈fs->b∉ex->∃sl,h'.get? b=some {o with slots:=sl}
 free:∀b o,h.get? b=some o->H b=none->b∉ex->H' b=none
 there:∀b o,h.get? b=some o->b∉ex->∃o',h'.get? b=some o'
 tups:∀b xs,H b=some (.tup xs)->H' b=some (.tup xs)
 frzs:∀b o u,H b=some (.frz o u)->H' b=some (.frz o u)
 tbls:∀b ps,H b=some (.tbl ps)->∃more,H' b=some (.tbl (ps++more))
section
variable {fs fs' ex ex':List Addr} {H H1 H2:Hp} {h h1 h2 h':Heap} {a x e:Addr} {o:HO}
theorem Un.any (u:Un fs ex H H1 h h1) {b:Addr} {ob:Obj} (q:h.get? b=some ob) (n:H b=none) (hx:b∉ex):∃sl,h1.get? b=some {ob with slots:=sl}:=by
 by_cases hb:b∈fs
 ·exact u.slot b ob q n hb hx
 ·exact⟨ob.slots,u.keep b ob q n hb hx⟩
theorem Un.kept (k:∀b u,h.get? b=some u->h'.get? b=some u):Un fs ex H H h h':=
 ⟨fun b ob q _ _ _=>k b ob q,fun b ob q _ _ _=>⟨ob.slots,k b ob q⟩,fun _ _ _ n _=>n,fun b ob q _=>⟨ob,k b ob q⟩,fun _ _ q=>q,fun _ _ _ q=>q,fun _ ps q=>⟨#[],by rw [q];simp⟩⟩
theorem Un.refl:Un fs ex H H h h:=Un.kept fun _ _ q=>q
theorem Un.laid (k:∀b u,h.get? b=some u->h'.get? b=some u) (hp:h.objs.size<=a) (hn:H a=none):Un fs ex H (upd H a o) h h' where
 keep:=fun b u q _ _ _=>k b u q
 slot:=fun b u q _ _ _=>⟨u.slots,k b u q⟩
 free:=fun b u q n _=>by rw [aQ (Nat.ne_of_lt (Nat.lt_of_lt_of_le (Heap.lt_size q) hp))];exact n
 there:=fun b u q _=>⟨u,k b u q⟩
 tups:=fun b xs q=>by rw [aQ (aU q hn)];exact q
 frzs:=fun b u xs q=>by rw [aQ (aU q hn)];exact q
 tbls:=fun b ps q=>⟨#[],by rw [aQ (aU q hn),q];simp⟩
theorem Un.write (mu:Mut (H x)) (he:e=x∨H e=some (.own x)) (k:∀b u,b≠e->h.get? b=some u->h'.get? b=some u) (heo:∃u,h'.get? e=some u):Un fs ex H (upd H x o) h h':=by
 have hx:∀b,H b=none->b≠x:=fun b n z=>by subst z;rw [n]at mu;exact mu
 have hb:∀b,H b=none->b≠e:=fun b n z=>by
  subst z
  rcases he with r|r
  ·exact hx b n r
  ·rw [n]at r;cases r
 have hm:∀b u,H b=some u->¬Mut (some u)->b≠x:=fun b u q nm z=>by subst z;rw [q]at mu;exact nm mu
 refine⟨fun b u q n _ _=>k b u (hb b n) q,fun b u q n _ _=>⟨u.slots,k b u (hb b n) q⟩,fun b u q n _=>by rw [aQ (hx b n)];exact n,fun b u q _=>?_,
  fun b xs q=>by rw [aQ (hm b _ q fun z=>z)];exact q,fun b u xs q=>by rw [aQ (hm b _ q fun z=>z)];exact q,fun b ps q=>⟨#[],by rw [aQ (hm b _ q fun z=>z),q];simp⟩⟩
 by_cases hbe:b=e
 ·subst hbe;exact heo
 ·exact⟨u,k b u hbe q⟩
end
def trk (h:Heap) (H:Hp):List Addr:=(List.range h.objs.size).filter fun a=>(H a).isSome
def aCl (h:Heap) (H:Hp):Heap:=PySem.W.hideAll h (trk h H)
theorem aIr (h:Heap) (H:Hp):(aCl h H).objs.size=h.objs.size:=PySem.W.hideAll_size _ _
theorem aL0 {h:Heap} {H:Hp} {b:Addr} {o:Obj} (e:h.get? b=some o) (n:H b=none):(aCl h H).get? b=some o:=
 PySem.W.hideAll_get _ e fun hm=>by
  have q:(H b).isSome=true:=(List.mem_filter.mp hm).2
  rw [n]at q;simp at q
theorem aM8 {h:Heap} {H:Hp} {b:Addr} {o:Obj} (e:(aCl h H).get? b=some o):h.get? b=some o/\H b=none:=by
 have e':h.get? b=some o:=PySem.W.of_hideAll (trk h H) e
 refine⟨e',?_⟩
 cases q:H b with
 |none=>rfl
 |some x=>
  have hm:b∈trk h H:=List.mem_filter.mpr ⟨List.mem_range.mpr (Heap.lt_size e'),by simp [q]⟩
  have z:(aCl h H).get? b=none:=PySem.W.hideAll_none (trk h H) hm
  rw [z]at e;cases e
end L2
namespace L2
open PySem PySem.Spec PyProof.Rows
structure Mod (K:PySem.W.Frag) (mg:Str->Option Value) (base:Heap):Prop where
 kin:K.In base
 glob:base.Ns mainGlobals mg
 blt:∃mb,base.Ns builtinsNs mb/\∀x:Str,x≠"__name__"->mb x=bootBuiltins x
 nolimit:base.NoLimit
structure Cx where
 prog:Program
 w:World
 K:PySem.W.Frag
 mg:Str->Option Value
 base:Heap
 A:Around
 N:List Str
 s₀:Shared
 H₀:Hp
 env:Env
 outer:List Env
 stack:List Env
 ex:List Addr
 fn:Str->Bool
 calm:Bool
 pn:List (Addr×Obj)
 xe:Value->Shared->Prop
def frs (l:List Env):List Addr:=l.filterMap (·.frame)
abbrev Cx.fs (X:Cx):List Addr:=frs X.outer
def Vis (sc:Scope) (x:Str):Prop:=sc.names.lookup x=some .local∨sc.names.lookup x=some .cell∨sc.names.lookup x=some .free
def Loc (sc:Scope) (x:Str):Prop:=sc.names.lookup x=some .local∨sc.names.lookup x=some .cell
def Look (env:Env) (h:Heap) (m:Str->Option Value) (x:Str) (u:Value):Prop:=
 (env.kindOf x=some .local/\m x=some u)∨((env.kindOf x=some .cell∨env.kindOf x=some .free)/\∃c,env.cells.lookup x=some c/\h.IsCell c (some u))
structure Cx.Ok (X:Cx):Prop where
 mod:Mod X.K X.mg X.base
 kind:X.env.scope.kind= .function
 glob:X.env.globals=mainGlobals
 blt:X.env.builtins=builtinsNs
 above:X.s₀.heap.objs.size<=X.env.locals
 inj:∀x y c,X.env.cells.lookup x=some c->X.env.cells.lookup y=some c->x=y
 has:∀x,(X.env.kindOf x=some .cell∨X.env.kindOf x=some .free)->∃c,X.env.cells.lookup x=some c
 cab:∀x c,X.fn x=true->X.env.cells.lookup x=some c->X.s₀.heap.objs.size<=c
 hd:X.calm=true->X.A.handled=none
 frames:X.A.frames=some X.stack
 stk:X.stack=X.outer∨(X.stack=X.env::X.outer/\X.env.frame=some X.env.locals)
 exf:∀b∈X.ex,b≠X.env.locals/\∀x c,X.env.cells.lookup x=some c->c≠b
 bs:∀b o,X.base.get? b=some o->X.s₀.heap.get? b=some o/\X.H₀ b=none
 bsz:X.base.objs.size<=X.s₀.heap.objs.size
 noex:∀b o,X.base.get? b=some o->b∉X.ex
 exfs:∀b∈X.ex,b∉X.fs
 funs:X.s₀.heap.FunFrames X.base X.outer
 frf:∀b∈X.fs,X.H₀ b=none
structure Inv (X:Cx) (pins:List (Addr×Obj)) (σ:List (Option V)) (H:Hp) (s:Shared):Prop where
 ok:X.Ok
 os:s.os=X.s₀.os
 bare:AllBare s.gens
 base:Un X.fs X.ex X.H₀ H X.s₀.heap s.heap
 loc:∃m,s.heap.Ns X.env.locals m/\∀(i:Nat) (x:Str) (v:V),X.N[i]? =some x->σ[i]? =some (some v)->Vis X.env.scope x->∃u,RelV v u/\Look X.env s.heap m x u
 cell:∀x c,X.env.cells.lookup x=some c->∃v,s.heap.IsCell c v
 free:H X.env.locals=none
 freeC:∀x c,X.env.cells.lookup x=some c->H c=none
 pin:∀p∈X.pn++pins,s.heap.get? p.1=some p.2/\H p.1=none/\p.1≠X.env.locals/\p.1∉X.fs/\∀v,p.2.data≠ .cell v
 hok:HOk X.prog X.w H s.heap
 len:σ.length=X.N.length
section
variable {X:Cx} {pins:List (Addr×Obj)} {σ:List (Option V)} {H H':Hp} {s:Shared} {h':Heap}
theorem Cx.Ok.nofr (ok:X.Ok) {b:Addr} {o:Obj} (e:X.base.get? b=some o):b∉X.fs:=fun hb=>by
 have:=(ok.funs.mem hb).1
 rw [e]at this;cases this
theorem Inv.bs (I:Inv X pins σ H s):∀b o,X.base.get? b=some o->s.heap.get? b=some o/\H b=none:=fun b o e=>
 ⟨I.base.keep b o (I.ok.bs b o e).1 (I.ok.bs b o e).2 (I.ok.nofr e) (I.ok.noex b o e),I.base.free b o (I.ok.bs b o e).1 (I.ok.bs b o e).2 (I.ok.noex b o e)⟩
theorem Inv.bk (I:Inv X pins σ H s):∀b o,X.base.get? b=some o->s.heap.get? b=some o:=fun b o e=>(I.bs b o e).1
theorem Inv.mod (I:Inv X pins σ H s):Mod X.K X.mg X.base:=I.ok.mod
theorem Inv.kIn (I:Inv X pins σ H s):X.K.In s.heap:=I.ok.mod.kin.keeps I.bk
theorem Inv.lt (I:Inv X pins σ H s):X.env.locals<s.heap.objs.size:=let⟨_,hn,_⟩:=I.loc;hn.lt
theorem Inv.sz (I:Inv X pins σ H s):X.s₀.heap.objs.size<=s.heap.objs.size:=Nat.le_trans I.ok.above (Nat.le_of_lt I.lt)
theorem Inv.nofs (I:Inv X pins σ H s) {a:Addr} (h:s.heap.objs.size<=a):a∉X.fs:=fun hb=>by
 obtain⟨_,o,ho,_⟩:=I.ok.funs.mem hb
 exact absurd (Nat.lt_of_lt_of_le (Heap.lt_size ho) (Nat.le_trans I.sz h)) (Nat.lt_irrefl _)
theorem Inv.cne (I:Inv X pins σ H s):∀x c,X.env.cells.lookup x=some c->c≠X.env.locals:=fun x c e z=>by
 obtain⟨v,o,ho,hd⟩:=I.cell x c e
 obtain⟨m,⟨o',es,ep,ho',hd',_⟩,_⟩:=I.loc
 rw [z,ho']at ho;cases ho;rw [hd']at hd;cases hd
theorem Inv.funs (I:Inv X pins σ H s):s.heap.FunFrames X.base X.outer:=by
 have all:∀(l:List Env),(∀b∈frs l,b∈X.fs)->X.s₀.heap.FunFrames X.base l->s.heap.FunFrames X.base l:=by
  intro l
  induction l with
  |nil=>intro _ _;trivial
  |cons env r ih=>
   intro hs hl
   obtain⟨hk,⟨L,o,hf,hn,ho,hd⟩,hr⟩:=hl
   have hL:L∈X.fs:=hs L (by unfold frs;rw [List.filterMap_cons,hf];exact List.mem_cons_self)
   obtain⟨sl,e⟩:=I.base.slot L o ho (I.ok.frf L hL) hL fun z=>I.ok.exfs L z hL
   exact⟨hk,⟨L,_,hf,hn,e,hd⟩,ih (fun b hb=>hs b (by unfold frs;rw [List.filterMap_cons,hf];exact List.mem_cons_of_mem _ hb)) hr⟩
 exact all X.outer (fun _ hb=>hb) I.ok.funs
theorem Inv.stack (I:Inv X pins σ H s):s.heap.FunFrames X.base X.stack:=by
 rcases I.ok.stk with e|⟨e,hf⟩
 ·rw [e];exact I.funs
 ·rw [e]
  obtain⟨m,hn,_⟩:=I.loc
  refine .cons (by rw [I.ok.kind];decide) hf hn ?_ I.funs
  exact Heap.get?_none_of_le (Nat.le_trans I.ok.bsz I.ok.above)
theorem Inv.stkSub (I:Inv X pins σ H s):∀b∈frs X.stack,b∈X.env.locals::X.fs:=fun b hb=>by
 rcases I.ok.stk with e|⟨e,hf⟩
 ·rw [e]at hb;exact List.mem_cons_of_mem _ hb
 ·rw [e]at hb
  unfold frs at hb
  rw [List.filterMap_cons,hf]at hb
  exact hb
theorem Inv.stkFree (I:Inv X pins σ H s):∀b∈frs X.stack,H b=none:=fun b hb=>by
 rcases List.mem_cons.mp (I.stkSub b hb)with e|hb
 ·rw [e];exact I.free
 ·obtain⟨_,o,ho,_⟩:=I.ok.funs.mem hb
  exact I.base.free b o ho (I.ok.frf b hb) fun z=>I.ok.exfs b z hb
theorem Inv.step {g':Array GenState} {t':Nat} {d':Drawn} {ch:List Addr} (I:Inv X pins σ H s)
  (hch:∀b∈ch,(b∈X.ex∨X.s₀.heap.objs.size<=b)/\b≠X.env.locals/\(∀x c,X.env.cells.lookup x=some c->c≠b)/\∀p∈X.pn++pins,p.1≠b)
  (keep:∀b o,b≠X.env.locals->b∉X.fs->b∉ch->s.heap.get? b=some o->H b=none->h'.get? b=some o)
  (slot:∀b o,b≠X.env.locals->b∈X.fs->b∉ch->s.heap.get? b=some o->H b=none->∃sl,h'.get? b=some {o with slots:=sl}) (free:∀b o,b∉ch->s.heap.get? b=some o->H b=none->H' b=none)
  (there:∀b o,b∉ch->s.heap.get? b=some o->∃o',h'.get? b=some o')
  (tups:∀b xs,H b=some (.tup xs)->H' b=some (.tup xs)) (frzs:∀b o u,H b=some (.frz o u)->H' b=some (.frz o u)) (tbls:∀b ps,H b=some (.tbl ps)->∃more,H' b=some (.tbl (ps++more)))
  (ns:∀m,s.heap.Ns X.env.locals m->h'.Ns X.env.locals m) (hok:HOk X.prog X.w H' h') (hg:AllBare g'):
  Inv X pins σ H' {s with heap:=h',gens:=g',drawn:=d',toks:=t'}:=by
 have neL:∀b o,X.s₀.heap.get? b=some o->b≠X.env.locals:=fun b o e=>Nat.ne_of_lt (Nat.lt_of_lt_of_le (Heap.lt_size e) I.ok.above)
 have neC:∀b o,X.s₀.heap.get? b=some o->b∉X.ex->b∉ch:=fun b o e hx hb=>by
  rcases (hch b hb).1 with z|z
  ·exact hx z
  ·exact absurd (Nat.lt_of_lt_of_le (Heap.lt_size e) z) (Nat.lt_irrefl _)
 have cellK:∀x c,X.env.cells.lookup x=some c->∀v,s.heap.IsCell c v->h'.IsCell c v:=fun x c e v ⟨o,ho,hd⟩=>by
  have nch:c∉ch:=fun z=>(hch c z).2.2.1 x c e rfl
  by_cases hc:c∈X.fs
  ·obtain⟨sl,q⟩:=slot c o (I.cne x c e) hc nch ho (I.freeC x c e)
   exact⟨_,q,hd⟩
  ·exact⟨o,keep c o (I.cne x c e) hc nch ho (I.freeC x c e),hd⟩
 refine⟨I.ok,I.os,hg,⟨fun b o e n hb hx=>?_,fun b o e n hb hx=>?_,fun b o e n hx=>?_,fun b o e hx=>?_,fun b xs e=>tups b xs (I.base.tups b xs e),fun b o xs e=>frzs b o xs (I.base.frzs b o xs e),fun b ps e=>?_⟩,?_,fun x c e=>?_,?_,fun x c e=>?_,fun p hp=>?_,hok,I.len⟩
 ·exact keep b o (neL b o e) hb (neC b o e hx) (I.base.keep b o e n hb hx) (I.base.free b o e n hx)
 ·obtain⟨sl,e1⟩:=I.base.slot b o e n hb hx
  obtain⟨sl',e2⟩:=slot b _ (neL b o e) hb (neC b o e hx) e1 (I.base.free b o e n hx)
  exact⟨sl',e2⟩
 ·obtain⟨o',e1⟩:=I.base.there b o e hx
  exact free b o' (neC b o e hx) e1 (I.base.free b o e n hx)
 ·obtain⟨o',e1⟩:=I.base.there b o e hx
  exact there b o' (neC b o e hx) e1
 ·obtain⟨m1,e1⟩:=I.base.tbls b ps e
  obtain⟨m2,e2⟩:=tbls b _ e1
  exact⟨m1++m2,by rw [e2,Array.append_assoc]⟩
 ·obtain⟨m,hn,hl⟩:=I.loc
  refine⟨m,ns m hn,fun i x v e1 e2 e3=>?_⟩
  obtain⟨u,r,l⟩:=hl i x v e1 e2 e3
  refine⟨u,r,?_⟩
  rcases l with l|⟨k,c,e,z⟩
  ·exact .inl l
  ·exact .inr ⟨k,c,e,cellK x c e _ z⟩
 ·obtain⟨v,z⟩:=I.cell x c e
  exact⟨v,cellK x c e v z⟩
 ·obtain⟨m,⟨o,_,_,ho,_⟩,_⟩:=I.loc
  exact free _ o (fun z=>(hch _ z).2.1 rfl) ho I.free
 ·obtain⟨v,o,ho,hd⟩:=I.cell x c e
  exact free c o (fun z=>(hch c z).2.2.1 x c e rfl) ho (I.freeC x c e)
 ·obtain⟨e,n,ne,nf,d⟩:=I.pin p hp
  have nch:p.1∉ch:=fun z=>(hch p.1 z).2.2.2 p hp rfl
  exact⟨keep p.1 p.2 ne nf nch e n,free p.1 p.2 nch e n,ne,nf,d⟩
theorem Inv.un {t':Nat} (I:Inv X pins σ H s) (u:Un X.fs [] H H' s.heap h') (hok:HOk X.prog X.w H' h'):Inv X pins σ H' {s with heap:=h',toks:=t'}:=by
 obtain⟨m,⟨o,es,ep,ho,r⟩,_⟩:=id I.loc
 obtain⟨sl,hL⟩:=u.any ho I.free (by simp)
 exact I.step (g':=s.gens) (d':=s.drawn) (ch:=[]) (fun _ z=>nomatch z) (fun b o _ hb _ e n=>u.keep b o e n hb (by simp)) (fun b o _ hb _ e n=>u.slot b o e n hb (by simp)) (fun b o _ e n=>u.free b o e n (by simp)) (fun b o _ e=>u.there b o e (by simp)) u.tups u.frzs u.tbls (fun m' hm=>by
  obtain⟨o',es',ep',ho',r'⟩:=hm
  rw [ho]at ho';cases ho'
  exact⟨_,es',ep',hL,r'⟩) hok I.bare
theorem Inv.call {g':Array GenState} {t':Nat} {d':Drawn} {ch:List Addr} (I:Inv X pins σ H s) (u:Un (frs X.stack) ch H H' s.heap h') (hok:HOk X.prog X.w H' h') (hg:AllBare g')
  (hch:∀b∈ch,(b∈X.ex∨X.s₀.heap.objs.size<=b)/\b≠X.env.locals/\(∀x c,X.env.cells.lookup x=some c->c≠b)/\∀p∈X.pn++pins,p.1≠b):
  Inv X pins σ H' {s with heap:=h',gens:=g',drawn:=d',toks:=t'}:=by
 obtain⟨m,⟨o,es,ep,ho,r⟩,_⟩:=id I.loc
 obtain⟨sl,hL⟩:=u.any ho I.free fun z=>(hch _ z).2.1 rfl
 exact I.step (ch:=ch) hch (fun b o hL hb hc e n=>u.keep b o e n (fun z=>(List.mem_cons.mp (I.stkSub b z)).elim hL hb) hc) (fun b o _ _ hc e n=>u.any e n hc) (fun b o hc e n=>u.free b o e n hc) (fun b o hc e=>u.there b o e hc) u.tups u.frzs u.tbls (fun m' hm=>by
  obtain⟨o',es',ep',ho',r'⟩:=hm
  rw [ho]at ho';cases ho'
  exact⟨_,es',ep',hL,r'⟩) hok hg
theorem Inv.turned {t':Nat} {it:Addr} (I:Inv X pins σ H s) (k:∀b o,b≠it->s.heap.get? b=some o->h'.get? b=some o) (hn:H it=none) (hL:it≠X.env.locals)
  (h1:it∈X.ex∨X.s₀.heap.objs.size<=it) (h2:∀x c,X.env.cells.lookup x=some c->c≠it) (h3:∀p∈X.pn++pins,p.1≠it):Inv X pins σ H {s with heap:=h',toks:=t'}:=by
 have nit:∀b u,H b=some u->b≠it:=fun b u e z=>by rw [z,hn]at e;cases e
 refine I.step (g':=s.gens) (d':=s.drawn) (ch:=[it]) (fun b hb=>?_) (fun b o _ _ hc e _=>k b o (fun z=>hc (by simp [z])) e) (fun b o _ _ hc e _=>⟨o.slots,k b o (fun z=>hc (by simp [z])) e⟩) (fun _ _ _ _ n=>n)
  (fun b o hc e=>⟨o,k b o (fun z=>hc (by simp [z])) e⟩) (fun _ _ e=>e) (fun _ _ _ e=>e) (fun b ps e=>⟨#[],by rw [e];simp⟩) (fun m hm=>?_) (fun b u e=>?_) I.bare
 ·have e:b=it:=by simpa using hb
  subst e
  exact⟨h1,hL,h2,h3⟩
 ·obtain⟨o,es,ep,ho,r⟩:=hm
  exact⟨o,es,ep,k _ o (Ne.symm hL) ho,r⟩
 ·refine(I.hok b u e).stay (fun c v hc q=>k c v ?_ q) (fun _ q=>q) fun _ _ q=>q
  rcases hc with z|z
  ·rw [z];exact nit b u e
  ·exact nit c _ z
theorem Inv.tok (I:Inv X pins σ H s) (t:Nat):Inv X pins σ H {s with toks:=t}:=I.un (h':=s.heap) (t':=t) Un.refl I.hok
theorem Inv.kept {t':Nat} (I:Inv X pins σ H s) (k:∀b u,s.heap.get? b=some u->h'.get? b=some u):Inv X pins σ H {s with heap:=h',toks:=t'}:=I.un (Un.kept k) (I.hok.kept k)
theorem Inv.laid {a:Addr} {o:HO} {t':Nat} (I:Inv X pins σ H s) (k:∀b u,s.heap.get? b=some u->h'.get? b=some u) (hp:s.heap.objs.size<=a) (new:cQ X.prog X.w (upd H a o) h' a o):
  Inv X pins σ (upd H a o) {s with heap:=h',toks:=t'}:=I.un (Un.laid k hp (I.hok.fresh hp)) (I.hok.laid k hp new)
theorem Inv.write {x e:Addr} {o:HO} {t':Nat} (I:Inv X pins σ H s) (mu:Mut (H x)) (he:e=x∨H e=some (.own x)) (k:∀b u,b≠e->s.heap.get? b=some u->h'.get? b=some u) (heo:∃u,h'.get? e=some u)
  (new:cQ X.prog X.w (upd H x o) h' x o):Inv X pins σ (upd H x o) {s with heap:=h',toks:=t'}:=I.un (Un.write mu he k heo) (I.hok.write mu he k heo new)
theorem Inv.pins_of {pins':List (Addr×Obj)} (I:Inv X pins σ H s) (h:∀p∈pins',s.heap.get? p.1=some p.2/\H p.1=none/\p.1≠X.env.locals/\p.1∉X.fs/\∀v,p.2.data≠ .cell v):Inv X pins' σ H s:=
 ⟨I.ok,I.os,I.bare,I.base,I.loc,I.cell,I.free,I.freeC,fun p hp=>(List.mem_append.mp hp).elim (fun z=>I.pin p (List.mem_append_left _ z)) (h p),I.hok,I.len⟩
theorem aD7 {N:List Str} (hN:N.Nodup) {i j:Nat} {x:Str} (a:N[i]? =some x) (b:N[j]? =some x):i=j:=by
 obtain⟨h1,e1⟩:=List.getElem?_eq_some_iff.mp a
 obtain⟨h2,e2⟩:=List.getElem?_eq_some_iff.mp b
 exact(List.getElem_inj hN).mp (e1.trans e2.symm)
theorem uR {M:Model} {A:Around} {E:Value->Shared->Prop} {i:Nat} {x:Str} {v:V} {u:Value} {Q:Unit->Shared->Prop} (I:Inv X pins σ H s) (hN:X.N.Nodup) (hi:X.N[i]? =some x) (hx:Loc X.env.scope x) (r:RelV v u)
  (h:∀s',Inv X pins (σ.set i (some v)) H s'->(∃a,Heap.SameBut a s.heap s'.heap/\(a=X.env.locals∨X.env.cells.lookup x=some a))->Q () s') (hf:X.fn x=true∨X.env.scope.names.lookup x=some .local:=by first|exact .inl rfl|exact .inr rfl|assumption):wpAny M A (storeName X.env x u) Q E s:=by
 obtain⟨m,hn,hl⟩:=id I.loc
 have hcls:(X.env.scope.kind== .class || (X.env.scope.kind== .module && X.env.locals != X.env.globals))=false:=by rw [I.ok.kind];rfl
 have hiσ:i<σ.length:=by rw [I.len];exact(List.getElem?_eq_some_iff.mp hi).1
 have cne:=I.cne
 have tracked:∀{a:Addr} {h':Heap},(∃o,s.heap.get? a=some o/\H a=none)->Heap.SameBut a s.heap h'->HOk X.prog X.w H h':=fun{a h'} ha hs b ob e=>by
  obtain⟨_,_,hfree⟩:=ha
  refine(I.hok b ob e).stay (fun c w' hc q=>(hs.2 c ?_).trans q) (fun _ q=>q) fun _ _ q=>q
  rintro rfl
  rcases hc with rfl|hc
  ·rw [hfree]at e;cases e
  ·rw [hfree]at hc;cases hc
 rcases hx with hk|hk
 ·refine wpAny_storeName_local hk hn (fun h' hn' hs=>?_) hcls
  obtain⟨oL,_,_,hoL,_⟩:=id hn
  refine h _ ⟨I.ok,I.os,I.bare,⟨fun b o e n hb hx=>?_,fun b o e n hb hx=>?_,I.base.free,fun b o e hx=>?_,I.base.tups,I.base.frzs,I.base.tbls⟩,⟨_,hn',fun j y v' e1 e2 e3=>?_⟩,fun y c e=>?_,I.free,I.freeC,fun p hp=>?_,tracked ⟨oL,hoL,I.free⟩ hs,by simpa using I.len⟩ ⟨_,hs,.inl rfl⟩
  ·exact(hs.2 b (Nat.ne_of_lt (Nat.lt_of_lt_of_le (Heap.lt_size e) I.ok.above))).trans (I.base.keep b o e n hb hx)
  ·obtain⟨sl,e1⟩:=I.base.slot b o e n hb hx
   exact⟨sl,(hs.2 b (Nat.ne_of_lt (Nat.lt_of_lt_of_le (Heap.lt_size e) I.ok.above))).trans e1⟩
  ·obtain⟨o',e1⟩:=I.base.there b o e hx
   exact⟨o',(hs.2 b (Nat.ne_of_lt (Nat.lt_of_lt_of_le (Heap.lt_size e) I.ok.above))).trans e1⟩
  ·by_cases hj:j=i
   ·subst hj
    rw [hi]at e1;cases e1
    rw [List.getElem?_set_self hiσ]at e2
    cases e2
    exact⟨u,r,.inl ⟨hk,by simp⟩⟩
   ·rw [List.getElem?_set_ne (Ne.symm hj)]at e2
    obtain⟨u',r',q⟩:=hl j y v' e1 e2 e3
    refine⟨u',r',?_⟩
    rcases q with ⟨k,e⟩|⟨k,c,e,z⟩
    ·refine .inl ⟨k,?_⟩
     have:y≠x:=fun e=>hj (aD7 hN e1 (e▸hi))
     simp [this,e]
    ·exact .inr ⟨k,c,e,z.sameBut hs (cne y c e)⟩
  ·obtain⟨w',z⟩:=I.cell y c e
   exact⟨w',z.sameBut hs (cne y c e)⟩
  ·obtain⟨e,n,ne,nf,d⟩:=I.pin p hp
   exact⟨(hs.2 p.1 ne).trans e,n,ne,nf,d⟩
 ·have hfn:X.fn x=true:=by
   rcases hf with z|z
   ·exact z
   ·rw [z]at hk;cases hk
  obtain⟨c,hc⟩:=I.ok.has x (.inl hk)
  obtain⟨w',z⟩:=I.cell x c hc
  refine wpAny_storeName_cell I.ok.kind hk hc z (fun h' hc' hs=>?_)
  obtain⟨oc,hoc,hocd⟩:=id z
  refine h {s with heap:=h'} ⟨I.ok,I.os,I.bare,⟨fun b o e n hb hx=>?_,fun b o e n hb hx=>?_,I.base.free,fun b o e hx=>?_,I.base.tups,I.base.frzs,I.base.tbls⟩,⟨m,hn.sameBut hs (Ne.symm (cne x c hc)),fun j y v' e1 e2 e3=>?_⟩,fun y c' e=>?_,I.free,I.freeC,fun p hp=>?_,tracked ⟨oc,hoc,I.freeC x c hc⟩ hs,by simpa using I.len⟩ ⟨c,hs,.inr hc⟩
  ·exact(hs.2 b (Nat.ne_of_lt (Nat.lt_of_lt_of_le (Heap.lt_size e) (I.ok.cab x c hfn hc)))).trans (I.base.keep b o e n hb hx)
  ·obtain⟨sl,e1⟩:=I.base.slot b o e n hb hx
   exact⟨sl,(hs.2 b (Nat.ne_of_lt (Nat.lt_of_lt_of_le (Heap.lt_size e) (I.ok.cab x c hfn hc)))).trans e1⟩
  ·obtain⟨o',e1⟩:=I.base.there b o e hx
   exact⟨o',(hs.2 b (Nat.ne_of_lt (Nat.lt_of_lt_of_le (Heap.lt_size e) (I.ok.cab x c hfn hc)))).trans e1⟩
  ·by_cases hj:j=i
   ·subst hj
    rw [hi]at e1;cases e1
    rw [List.getElem?_set_self hiσ]at e2
    cases e2
    exact⟨u,r,.inr ⟨.inl hk,c,hc,hc'⟩⟩
   ·rw [List.getElem?_set_ne (Ne.symm hj)]at e2
    obtain⟨u',r',q⟩:=hl j y v' e1 e2 e3
    refine⟨u',r',?_⟩
    rcases q with q|⟨k,c',e,z'⟩
    ·exact .inl q
    ·refine .inr ⟨k,c',e,z'.sameBut hs ?_⟩
     rintro rfl
     exact hj (aD7 hN e1 (I.ok.inj _ _ _ e hc▸hi))
  ·by_cases hcc:c'=c
   ·subst hcc;exact⟨_,hc'⟩
   ·obtain⟨w2,z2⟩:=I.cell y c' e
    exact⟨w2,z2.sameBut hs hcc⟩
  ·obtain⟨e,n,ne,nf,d⟩:=I.pin p hp
   refine⟨(hs.2 p.1 ?_).trans e,n,ne,nf,d⟩
   intro q
   rw [q,hoc]at e
   have q':oc=p.2:=Option.some.inj e
   exact d w' (by rw [<-q'];exact hocd)
theorem aC0 {M:Model} {A:Around} {E:Value->Shared->Prop} {i:Nat} {x:Str} {v:V} {u:Value} {Q:Unit->Shared->Prop} (I:Inv X pins σ H s) (hN:X.N.Nodup) (hi:X.N[i]? =some x) (hx:Loc X.env.scope x) (r:RelV v u)
  (h:∀s',Inv X pins (σ.set i (some v)) H s'->Q () s') (hf:X.fn x=true∨X.env.scope.names.lookup x=some .local:=by first|exact .inl rfl|exact .inr rfl|assumption):wpAny M A (storeName X.env x u) Q E s:=
 uR I hN hi hx r (fun s' I' _=>h s' I') hf
theorem Inv.call' {s':Shared} {ch:List Addr} (I:Inv X pins σ H s) (ho:s'.os=s.os) (u:Un (frs X.stack) ch H H' s.heap s'.heap) (hok:HOk X.prog X.w H' s'.heap) (hg:AllBare s'.gens)
  (hch:∀b∈ch,(b∈X.ex∨X.s₀.heap.objs.size<=b)/\b≠X.env.locals/\(∀x c,X.env.cells.lookup x=some c->c≠b)/\∀p∈X.pn++pins,p.1≠b):Inv X pins σ H' s':=by
 obtain⟨h',g',d',t',o'⟩:=s'
 have e:o'=s.os:=ho
 subst e
 exact I.call (g':=g') (t':=t') (d':=d') u hok hg hch
end
abbrev XK:=Value->Option Addr->Hp->Prop
abbrev St:=List (Option V)
abbrev VK:=V->Hp->Prop
abbrev TE:=St->Hp->VK->Prop
abbrev TT:=St->Hp->(Bool->Hp->Prop)->Prop
abbrev TA:=St->Hp->(List V->Hp->Prop)->Prop
structure Ends where
 nx:St->Hp->Prop
 rt:VK
 bk:St->Hp->Prop:=fun _ _=>False
 ct:St->Hp->Prop:=fun _ _=>False
abbrev TS:=Ends->St->Hp->Prop
def EP (X:Cx) (pins:List (Addr×Obj)) (σ:St) (Q:VK) (u:Value) (s':Shared):Prop:=∃v H',Inv X pins σ H' s'/\RelV v u/\Q v H'
def TP (X:Cx) (pins:List (Addr×Obj)) (σ:St) (Q:Bool->Hp->Prop) (b:Bool) (s':Shared):Prop:=∃H',Inv X pins σ H' s'/\Q b H'
def AP (X:Cx) (pins:List (Addr×Obj)) (σ:St) (Q:List V->Hp->Prop) (us:List Value) (s':Shared):Prop:=∃vs H',Inv X pins σ H' s'/\Vals vs us/\Q vs H'
def SP (X:Cx) (pins:List (Addr×Obj)) (D:Ends) (f:Flow) (s':Shared):Prop:=
 match f with
 | .next=>∃σ' H',Inv X pins σ' H' s'/\D.nx σ' H'
 | .brk=>∃σ' H',Inv X pins σ' H' s'/\D.bk σ' H'
 | .cont=>∃σ' H',Inv X pins σ' H' s'/\D.ct σ' H'
 | .ret u=>∃v σ' H',Inv X pins σ' H' s'/\RelV v u/\D.rt v H'
def PE (X:Cx) (e:Expr) (t:TE):Prop:=
 ∀(pins:List (Addr×Obj)) (s:Shared) (σ:St) (H:Hp) (Q:VK),Inv X pins σ H s->t σ H Q->wpAny (model X.prog X.w) X.A (eval e X.env) (EP X pins σ Q) X.xe s
def PT (X:Cx) (e:Expr) (t:TT):Prop:=
 ∀(pins:List (Addr×Obj)) (s:Shared) (σ:St) (H:Hp) (Q:Bool->Hp->Prop),Inv X pins σ H s->t σ H Q->wpAny (model X.prog X.w) X.A (isTrue e X.env (eval e X.env)) (TP X pins σ Q) X.xe s
def PW (X:Cx) (e:Expr) (t:TT):Prop:=
 ∀(whole:Sem Value) (pins:List (Addr×Obj)) (s:Shared) (σ:St) (H:Hp) (Q:Bool->Hp->Prop),Inv X pins σ H s->t σ H Q->wpAny (model X.prog X.w) X.A (isTrue e X.env whole) (TP X pins σ Q) X.xe s
theorem PW.pt {X:Cx} {e:Expr} {t:TT} (h:PW X e t):PT X e t:=h _
def PA (X:Cx) (es:List Expr) (t:TA):Prop:=
 ∀(pos:Pos) (pins:List (Addr×Obj)) (s:Shared) (σ:St) (H:Hp) (Q:List V->Hp->Prop),Inv X pins σ H s->t σ H Q->wpAny (model X.prog X.w) X.A (spliced (backTo pos (starEach es X.env))) (AP X pins σ Q) X.xe s
def PS (X:Cx) (st:Stmt) (t:TS):Prop:=
 ∀(pins:List (Addr×Obj)) (s:Shared) (σ:St) (H:Hp) (D:Ends),Inv X pins σ H s->t D σ H->wpAny (model X.prog X.w) X.A (exec st X.env) (SP X pins D) X.xe s
def PSs (X:Cx) (st:List Stmt) (t:TS):Prop:=
 ∀(pins:List (Addr×Obj)) (s:Shared) (σ:St) (H:Hp) (D:Ends),Inv X pins σ H s->t D σ H->wpAny (model X.prog X.w) X.A (execs st X.env) (SP X pins D) X.xe s
theorem thn {α:Type} {t:Sem α} {Q Q':α->Shared->Prop} {M:Model} {A:Around} {E:Value->Shared->Prop} {s:Shared} (h:wpAny M A t Q E s) (hQ:∀a s,Q a s->Q' a s):wpAny M A t Q' E s:=wpAny_mono h hQ fun _ _ x=>x
end L2
namespace L2
open PySem PySem.Spec PyProof.Rows
section
variable {X:Cx}
def aRq (i:Nat):TE:=fun σ H Q=>∃v,σ[i]? =some (some v)/\Q v H
def tC (v:V):TE:=fun _ H Q=>Q v H
theorem uX {i:Nat} {x:Str} {pos:Pos} (hN:X.N[i]? =some x) (hv:Vis X.env.scope x) (hd:(x==("__debug__":Str))=false:=by decide) (hcd:(x==("__classdict__":Str))=false:=by decide):PE X (.Name x pos) (aRq i):=by
 intro pins s σ H Q I h
 obtain⟨v,e,h⟩:=h
 obtain⟨m,hn,hl⟩:=I.loc
 obtain⟨u,r,l⟩:=hl i x v hN e hv
 have fin:EP X pins σ Q u s:=⟨v,H,I,r,h⟩
 rcases l with ⟨hk,hm⟩|⟨hk,c,hc,hcell⟩
 ·exact wpAny_Name (wpAny_loadName_local I.ok.kind hk hn hm fin) hd
 ·rcases hk with hk|hk
  ·exact wpAny_Name (wpAny_loadName_cell I.ok.kind hk hc hcell fin) hd
  ·exact wpAny_Name (wpAny_loadName_free I.ok.kind hk hc hcell fin hcd) hd
theorem dF {i j pos}:PE X (.Constant (.int i) j pos) (tC (.int i)):=fun _ _ _ H _ I h=>wpAny_Constant_int ⟨.int i,H,I.tok _,⟨_,rfl⟩,h⟩
theorem aR2 {b j pos}:PE X (.Constant (.bool b) j pos) (tC (.bl b)):=fun _ _ _ H _ I h=>Constant_bool ⟨.bl b,H,I,rfl,h⟩
theorem aQt {j pos}:PE X (.Constant .none j pos) (tC .non):=fun _ _ _ H _ I h=>Constant_none ⟨.non,H,I,rfl,h⟩
theorem bK {x j pos}:PE X (.Constant (.str x) j pos) (tC (.str x)):=fun _ _ _ H _ I h=>Calls.Constant_str ⟨.str x,H,I.tok _,⟨_,rfl⟩,h⟩
def Gl (X:Cx) (x:Str):Prop:=X.env.kindOf x=some .globalImplicit
theorem aCu {E:Value->Shared->Prop} {pins:List (Addr×Obj)} {s:Shared} {σ:St} {H:Hp} {x:Str} {u:Value} {pos:Pos} {Q:Value->Shared->Prop} (I:Inv X pins σ H s) (hg:Gl X x) (hm:X.mg x=some u) (h:Q u s)
  (hd:(x==("__debug__":Str))=false:=by decide):wpAny (model X.prog X.w) X.A (eval (.Name x pos) X.env) Q E s:=
 Calls.Name_function_global I.ok.kind hg (Calls.loadGlobal_global (by rw [I.ok.glob];exact I.mod.glob.keeps I.bk) hm h) hd
theorem rZ {E:Value->Shared->Prop} {pins:List (Addr×Obj)} {s:Shared} {σ:St} {H:Hp} {x:Str} {u:Value} {pos:Pos} {Q:Value->Shared->Prop} (I:Inv X pins σ H s) (hg:Gl X x) (hm:X.mg x=none) (hv:bootBuiltins x=some u) (h:Q u s)
  (hn:x≠"__name__":=by decide) (hd:(x==("__debug__":Str))=false:=by decide):wpAny (model X.prog X.w) X.A (eval (.Name x pos) X.env) Q E s:=by
 obtain⟨mb,h1,h2⟩:=I.mod.blt
 exact Calls.Name_function_global I.ok.kind hg (Calls.loadGlobal_builtin (by rw [I.ok.glob];exact I.mod.glob.keeps I.bk) hm (by rw [I.ok.blt];exact h1.keeps I.bk) ((h2 x hn).trans hv) h) hd
theorem wC {x:Str} {v:V} {u:Value} {pos:Pos} (hg:Gl X x) (hm:X.mg x=some u) (r:RelV v u) (hd:(x==("__debug__":Str))=false:=by decide):PE X (.Name x pos) (tC v):=
 fun _ _ _ H _ I h=>aCu I hg hm ⟨v,H,I,r,h⟩ hd
theorem aGu {x:Str} {v:V} {u:Value} {pos:Pos} (hg:Gl X x) (hm:X.mg x=none) (hv:bootBuiltins x=some u) (r:RelV v u) (hn:x≠"__name__":=by decide) (hd:(x==("__debug__":Str))=false:=by decide):PE X (.Name x pos) (tC v):=
 fun _ _ _ H _ I h=>rZ I hg hm hv ⟨v,H,I,r,h⟩ hn hd
variable {a b:Expr} {ta tb:TE} {pos:Pos}
def PC (X:Cx) (op:CmpOp) (a b:Expr) (t:TE):Prop:=
 ∀(pins:List (Addr×Obj)) (s:Shared) (σ:St) (H:Hp) (Q:VK),Inv X pins σ H s->t σ H Q->
  wpAny (model X.prog X.w) X.A (eval a X.env) (fun v s₁=>wpAny (model X.prog X.w) X.A (eval b X.env) (fun u s₂=>wpAny (model X.prog X.w) X.A (compareOp op v u) (EP X pins σ Q) X.xe s₂) X.xe s₁) X.xe s
theorem aJf (b:Expr) {op:CmpOp} (h:op≠ .In) (h2:op≠ .NotIn):behindInMarks op b=false:=by
 have e1:(op==CmpOp.In)=false:=by cases op<;>first|rfl|exact absurd rfl h
 have e2:(op==CmpOp.NotIn)=false:=by cases op<;>first|rfl|exact absurd rfl h2
 cases b<;>simp [behindInMarks,e1,e2]
def aOj (ta:TE):TE:=fun σ H Q=>ta σ H fun x H1=>Q (.bl (!decide (x= .non))) H1
theorem RelV.none_iff {x:V} {v:Value} (r:RelV x v):(v==Value.none)=decide (x= .non):=by
 cases x with
 |non=>cases r;rfl
 |bl _=>cases r;rfl
 |int _=>obtain⟨t,rfl⟩:=r;rfl
 |str _=>obtain⟨t,rfl⟩:=r;rfl
 |byt _=>obtain⟨t,rfl⟩:=r;rfl
 |flt _=>obtain⟨t,rfl⟩:=r;rfl
 |ref _=>cases r;rfl
 |ty _=>cases r;rfl
theorem aM6 {j pos'} (ha:PE X a ta):PC X .IsNot a (.Constant .none j pos') (aOj ta):=by
 intro pins s σ H Q I h
 refine thn (ha pins s σ H _ I h) fun v s1 ⟨x,H1,I1,r1,q1⟩=>?_
 exact Constant_none (isnot_none_gen ⟨.bl _,H1,I1,by rw [r1.none_iff];rfl,q1⟩)
def tB (t:TE):TT:=fun σ H Q=>t σ H fun x H1=>∃c,x= .bl c/\Q c H1
theorem aQf {op:CmpOp} {t:TE} (h:PC X op a b t) (h1:behindInMarks op b=false:=by first|exact aJf _ (by decide) (by decide)|rfl):PT X (.Compare a [op] [b] pos) (tB t):=by
 intro pins s σ H Q I hw
 refine wpAny_isTrue_Compare1 (thn (h pins s σ H _ I hw) fun v s1 h1=>thn h1 fun u s2 h2=>thn h2 fun c s3 ⟨x,H1,I1,r1,q1⟩=>?_) h1
 obtain⟨d,rfl,q⟩:=q1
 cases r1
 exact wpAny_truthy_bool ⟨H1,I1,q⟩
theorem xU {e:Expr} {t:TE} (h:PE X e t) (he:∀whole,isTrue e X.env whole=(do let v<-whole;standAt e.pos;holding [v] (truthy v)):=by intro _;rfl):PT X e (tB t):=by
 intro pins s σ H Q I hw
 refine isTrue_plain (thn (h pins s σ H _ I hw) fun v s1 ⟨x,H1,I1,r1,q1⟩=>?_) (he _)
 obtain⟨d,rfl,q⟩:=q1
 cases r1
 exact wpAny_truthy_bool ⟨H1,I1,q⟩
variable {tA tB':TT} {rest:List Expr}
def aUp (t u:TT):TT:=fun σ H Q=>t σ H fun c H1=>if c=true then u σ H1 Q else Q false H1
def tOr (t u:TT):TT:=fun σ H Q=>t σ H fun c H1=>if c=true then Q true H1 else u σ H1 Q
def aT8 (t:TT):TT:=fun σ H Q=>t σ H fun c H1=>Q (!c) H1
theorem aG1 (ha:PT X a tA):PW X (.BoolOp .And [a] pos) tA:=by
 intro wh pins s σ H Q I h
 refine isTrue_and (thn (ha pins s σ H Q I h) fun c s1 e=>?_)
 cases c with
 |true=>exact isTrue_and_nil e
 |false=>exact e
theorem aKe (ha:PT X a tA):PW X (.BoolOp .Or [a] pos) tA:=by
 intro wh pins s σ H Q I h
 refine isTrue_or (thn (ha pins s σ H Q I h) fun c s1 e=>?_)
 cases c with
 |false=>exact isTrue_or_nil e
 |true=>exact e
theorem aLy (ha:PT X a tA) (hb:PW X (.BoolOp .And (b::rest) pos) tB'):PW X (.BoolOp .And (a::b::rest) pos) (aUp tA tB'):=by
 intro wh pins s σ H Q I h
 refine isTrue_and (thn (ha pins s σ H _ I h) fun c s1 ⟨H1,I1,q1⟩=>?_)
 cases c with
 |true=>exact hb wh pins s1 σ H1 Q I1 q1
 |false=>exact⟨H1,I1,q1⟩
theorem aO5 (ha:PT X a tA) (hb:PW X (.BoolOp .Or (b::rest) pos) tB'):PW X (.BoolOp .Or (a::b::rest) pos) (tOr tA tB'):=by
 intro wh pins s σ H Q I h
 refine isTrue_or (thn (ha pins s σ H _ I h) fun c s1 ⟨H1,I1,q1⟩=>?_)
 cases c with
 |true=>exact⟨H1,I1,q1⟩
 |false=>exact hb wh pins s1 σ H1 Q I1 q1
theorem aBi (ha:PT X a tA):PT X (.UnaryOp .Not a pos) (aT8 tA):=by
 intro pins s σ H Q I h
 exact isTrue_not (ha pins s σ H (fun c H1=>Q (!c) H1) I h)
def aSt (ta tb:TE):TE:=fun σ H Q=>ta σ H fun x H1=>∃c,x= .bl c/\if c=true then tb σ H1 Q else Q (.bl false) H1
def aSa (ta:TE):TE:=fun σ H Q=>ta σ H fun x H1=>∃c,x= .bl c/\Q (.bl (!c)) H1
theorem aJs {op} {t:TE} (h:PE X a t):PE X (.BoolOp op [a] pos) t:=fun pins s σ H Q I hw=>BoolOp_one (h pins s σ H Q I hw)
theorem aLm (ha:PE X a ta) (hb:PE X (.BoolOp .And (b::rest) pos) tb):PE X (.BoolOp .And (a::b::rest) pos) (aSt ta tb):=by
 intro pins s σ H Q I h
 refine BoolOp_and (thn (ha pins s σ H _ I h) fun v s1 ⟨x,H1,I1,r1,q1⟩=>?_)
 obtain⟨c,rfl,q1⟩:=q1
 cases r1
 refine wpAny_truthy_bool ?_
 cases c with
 |true=>exact hb pins s1 σ H1 Q I1 q1
 |false=>exact⟨.bl false,H1,I1,rfl,q1⟩
theorem aPx (ha:PE X a ta):PE X (.UnaryOp .Not a pos) (aSa ta):=by
 intro pins s σ H Q I h
 refine UnaryOp_ (thn (ha pins s σ H _ I h) fun v s1 ⟨x,H1,I1,r1,q1⟩=>?_)
 obtain⟨c,rfl,q1⟩:=q1
 cases r1
 exact not_of (wpAny_truthy_bool ⟨.bl (!c),H1,I1,rfl,q1⟩)
end
end L2
namespace L2
open PySem PySem.Spec PyProof.Rows
def SqL (K:PySem.W.Frag) (H:Hp) (a:Addr) (xs:List V):Prop:=
 Rd H a (.lst xs)∨
  ∃(o:Obj) (its:Array Value) (n:Nat),K.lookup a=some o/\o.cls= .type "list"/\o.dict=none/\o.data= .seq its n/\its.size<=sizeLine/\Vals xs its.toList
def SqT (K:PySem.W.Frag) (H:Hp) (a:Addr) (xs:List V):Prop:=
 Rd H a (.tup xs)∨
  ∃(o:Obj) (its:Array Value) (n:Nat),K.lookup a=some o/\o.cls= .type "tuple"/\o.data= .seq its n/\its.size<=sizeLine/\Vals xs its.toList
def aTy:Value->Option V
 | .none=>some .non
 | .bool b=>some (.bl b)
 | .int i _=>some (.int i)
 | .str x _=>some (.str x)
 | .bytes b _=>some (.byt b)
 | .float b _=>some (.flt b)
 | .ref a=>some (.ref a)
 | .type n=>some (.ty n)
 |_=>none
theorem RelV.abs {x:V} {u:Value} (r:RelV x u):aTy u=some x:=by
 cases x with
 |non=>cases r;rfl
 |bl _=>cases r;rfl
 |int _=>obtain⟨t,rfl⟩:=r;rfl
 |str _=>obtain⟨t,rfl⟩:=r;rfl
 |byt _=>obtain⟨t,rfl⟩:=r;rfl
 |flt _=>obtain⟨t,rfl⟩:=r;rfl
 |ref _=>cases r;rfl
 |ty _=>cases r;rfl
theorem RelV.inj {x y:V} {u:Value} (r:RelV x u) (q:RelV y u):x=y:=Option.some.inj (r.abs.symm.trans q.abs)
theorem Vals.inj:∀{xs ys:List V} {us:List Value},Vals xs us->Vals ys us->xs=ys
 |_,_,_,.nil,.nil=>rfl
 |_,_,_,.cons r t,.cons r' t'=>by rw [r.inj r',Vals.inj t t']
section
variable {X:Cx} {pins:List (Addr×Obj)} {σ:St} {H:Hp} {s:Shared} {a:Addr} {xs ys:List V}
theorem SqL.of {K:PySem.W.Frag} (h:H a=some (.lst xs)):SqL K H a xs:= .inl (.inl h)
theorem SqT.of {K:PySem.W.Frag} (h:H a=some (.tup xs)):SqT K H a xs:= .inl (.inl h)
theorem Inv.list (I:Inv X pins σ H s) (h:SqL X.K H a xs):∃its:List Value,Vals xs its/\PlainL s.heap a its.toArray/\xs.length<=sizeLine:=by
 rcases h with h|⟨o,its,n,hk,hc,hd,hs,hz,r⟩
 ·obtain⟨z,its,n,r,e⟩:=h.ok I.hok
  exact⟨its,r,⟨_,n,e,rfl,rfl,rfl⟩,z⟩
 ·refine⟨its.toList,r,⟨o,n,I.kIn a o hk,hc,hd,by simpa using hs⟩,?_⟩
  have e:=r.length
  simp only [Array.length_toList]at e
  omega
theorem Inv.tuple (I:Inv X pins σ H s) (h:SqT X.K H a xs):∃its:List Value,Vals xs its/\IsTup s.heap a its.toArray/\xs.length<=sizeLine:=by
 rcases h with h|⟨o,its,n,hk,hc,hs,hz,r⟩
 ·obtain⟨z,its,r,p⟩:=h.ok I.hok
  exact⟨its,r,p,z⟩
 ·refine⟨its.toList,r,⟨o,I.kIn a o hk,hc,n,by simpa using hs⟩,?_⟩
  have e:=r.length
  simp only [Array.length_toList]at e
  omega
theorem Inv.list_inj (I:Inv X pins σ H s) (h:SqL X.K H a xs) (h':SqL X.K H a ys):xs=ys:=by
 obtain⟨its,r,⟨o,n,e,_,_,d⟩,_⟩:=I.list h
 obtain⟨its',r',⟨o',n',e',_,_,d'⟩,_⟩:=I.list h'
 rw [e]at e';cases e'
 rw [d]at d'
 injection d' with d1 _
 have:its=its':=by simpa using congrArg Array.toList d1
 subst this
 exact r.inj r'
theorem Inv.tuple_inj (I:Inv X pins σ H s) (h:SqT X.K H a xs) (h':SqT X.K H a ys):xs=ys:=by
 obtain⟨its,r,⟨o,e,_,n,d⟩,_⟩:=I.tuple h
 obtain⟨its',r',⟨o',e',_,n',d'⟩,_⟩:=I.tuple h'
 rw [e]at e';cases e'
 rw [d]at d'
 injection d' with d1 _
 have:its=its':=by simpa using congrArg Array.toList d1
 subst this
 exact r.inj r'
end
abbrev Cx.wish (X:Cx) (E:Value->Shared->Prop):Cx:={X with xe:=E}
abbrev Cx.nox (X:Cx):Cx:=X.wish fun _ _=>False
theorem Cx.Ok.wish {X:Cx} (ok:X.Ok) (E:Value->Shared->Prop):(X.wish E).Ok:=
 ⟨ok.mod,ok.kind,ok.glob,ok.blt,ok.above,ok.inj,ok.has,ok.cab,ok.hd,ok.frames,ok.stk,ok.exf,ok.bs,ok.bsz,ok.noex,ok.exfs,ok.funs,ok.frf⟩
theorem Cx.Ok.unwish {X:Cx} {E:Value->Shared->Prop} (ok:(X.wish E).Ok):X.Ok:=
 ⟨ok.mod,ok.kind,ok.glob,ok.blt,ok.above,ok.inj,ok.has,ok.cab,ok.hd,ok.frames,ok.stk,ok.exf,ok.bs,ok.bsz,ok.noex,ok.exfs,ok.funs,ok.frf⟩
section
variable {X:Cx} {pins:List (Addr×Obj)} {σ:St} {H:Hp} {s:Shared} {E:Value->Shared->Prop}
theorem Inv.wish (I:Inv X pins σ H s) (E:Value->Shared->Prop):Inv (X.wish E) pins σ H s:=⟨I.ok.wish E,I.os,I.bare,I.base,I.loc,I.cell,I.free,I.freeC,I.pin,I.hok,I.len⟩
theorem Inv.unwish (I:Inv (X.wish E) pins σ H s):Inv X pins σ H s:=⟨I.ok.unwish,I.os,I.bare,I.base,I.loc,I.cell,I.free,I.freeC,I.pin,I.hok,I.len⟩
theorem SP.unwish {D:Ends} {f:Flow} {s':Shared} (h:SP (X.wish E) pins D f s'):SP X pins D f s':=by
 cases f with
 |next=>obtain⟨σ',H',I,q⟩:=h;exact⟨σ',H',I.unwish,q⟩
 |brk=>obtain⟨σ',H',I,q⟩:=h;exact⟨σ',H',I.unwish,q⟩
 |cont=>obtain⟨σ',H',I,q⟩:=h;exact⟨σ',H',I.unwish,q⟩
 |ret u=>obtain⟨v,σ',H',I,r,q⟩:=h;exact⟨v,σ',H',I.unwish,r,q⟩
theorem PSs.nox {st:List Stmt} {t:TS} (h:PSs X.nox st t):PSs X st t:=fun pins s σ H D I hw=>
 wpAny_mono (h pins s σ H D (I.wish _) hw) (fun _ _ q=>q.unwish) fun _ _ z=>False.elim z
end
section
variable {X:Cx} {st:Stmt} {rest:List Stmt} {t u:TS} {e:Expr} {te:TE} {pos:Pos}
def aR7:TS:=fun D σ H=>D.nx σ H
def aUk (t u:TS):TS:=fun D σ H=>t {D with nx:=u D} σ H
theorem bQ:PSs X [] aR7:=fun _ _ σ H _ I h=>wpAny_execs_nil ⟨σ,H,I,h⟩
theorem aD (h1:PS X st t) (h2:PSs X rest u):PSs X (st::rest) (aUk t u):=by
 intro pins s σ H D I h
 refine wpAny_execs_cons (thn (h1 pins s σ H {D with nx:=u D} I h) fun f s1 q=>?_)
 cases f with
 |next=>
  obtain⟨σ',H',I',q⟩:=q
  exact h2 pins s1 σ' H' D I' q
 |ret v=>exact q
 |brk=>exact q
 |cont=>exact q
theorem aP (h1:PS X st t):PSs X [st] t:=by
 intro pins s σ H D I h
 refine wpAny_execs_cons (thn (h1 pins s σ H D I h) fun f s1 q=>?_)
 cases f with
 |next=>exact wpAny_execs_nil q
 |ret v=>exact q
 |brk=>exact q
 |cont=>exact q
theorem Inv.quiet {pins:List (Addr×Obj)} {σ:St} {H:Hp} {s:Shared} (I:Inv X pins σ H s):interactive X.env=false:=by simp [interactive,I.ok.kind]
def aS5 (te:TE):TS:=fun D σ H=>te σ H fun _ H1=>D.nx σ H1
theorem cL (he:PE X e te) (hs:swapsWith e none pos.line X.env=pure false:=by rfl):PS X (.Expr e pos) (aS5 te):=by
 intro pins s σ H D I h
 exact wpAny_Expr_any (thn (he pins s σ H _ I h) fun v s1 ⟨x,H1,I1,r1,q1⟩=>⟨σ,H1,I1,q1⟩) I.quiet hs
def aT4 (te:TE):TS:=fun D σ H=>te σ H D.rt
theorem bU (he:PE X e te):PS X (.Return (some e) pos) (aT4 te):=by
 intro pins s σ H D I h
 exact wpAny_Return_some (thn (he pins s σ H _ I h) fun v s1 ⟨x,H1,I1,r1,q1⟩=>⟨x,σ,H1,I1,r1,q1⟩)
def aUd (c:TT) (t u:TS):TS:=fun D σ H=>c σ H fun b H1=>if b=true then t D σ H1 else u D σ H1
theorem dX {c:Expr} {a b:List Stmt} {tc:TT} (hc:PT X c tc) (ha:PSs X a t) (hb:PSs X b u):PS X (.If c a b pos) (aUd tc t u):=by
 intro pins s σ H D I h
 refine wpAny_If (thn (hc pins s σ H _ I h) fun d s1 ⟨H1,I1,q1⟩=>?_)
 cases d with
 |true=>exact ha pins s1 σ H1 D I1 q1
 |false=>exact hb pins s1 σ H1 D I1 q1
def aPf:TS:=fun _ _ _=>False
theorem dB:PS X st aPf:=fun _ _ _ _ _ _ h=>h.elim
end
abbrev TG:=V->St->Hp->(St->Hp->Prop)->Prop
abbrev TGs:=List V->St->Hp->(St->Hp->Prop)->Prop
def PG (X:Cx) (target:Expr) (t:TG):Prop:=
 ∀(pins:List (Addr×Obj)) (s:Shared) (σ:St) (H:Hp) (v:V) (u:Value) (Q:St->Hp->Prop),Inv X pins σ H s->RelV v u->t v σ H Q->
  wpAny (model X.prog X.w) X.A (assign target X.env u) (fun _ s'=>∃σ' H',Inv X pins σ' H' s'/\Q σ' H') X.xe s
def PGs (X:Cx) (ts:List Expr) (t:TGs):Prop:=
 ∀(pins:List (Addr×Obj)) (s:Shared) (σ:St) (H:Hp) (vs:List V) (us:List Value) (Q:St->Hp->Prop),Inv X pins σ H s->Vals vs us->t vs σ H Q->
  wpAny (model X.prog X.w) X.A (assignInOrder ((assignEach ts X.env).map (·.2)) us) (fun _ s'=>∃σ' H',Inv X pins σ' H' s'/\Q σ' H') X.xe s
abbrev aPr:=V->V->V->Hp->(Hp->Prop)->Prop
def aSb (X:Cx) (t:aPr):Prop:=
 ∀(pins:List (Addr×Obj)) (s:Shared) (σ:St) (H:Hp) (o i v:V) (ov iv u:Value) (Q:Hp->Prop),Inv X pins σ H s->RelV o ov->RelV i iv->RelV v u->t o i v H Q->
  wpAny (model X.prog X.w) X.A (setItem ov iv u) (fun _ s'=>∃H',Inv X pins σ H' s'/\Q H') X.xe s
section
variable {X:Cx} {pos:Pos}
def oX (i:Nat):TG:=fun v σ H Q=>Q (σ.set i (some v)) H
theorem bJ {i:Nat} {x:Str} (hN:X.N.Nodup) (hi:X.N[i]? =some x) (hx:Loc X.env.scope x) (hf:X.fn x=true∨X.env.scope.names.lookup x=some .local:=by first|exact .inl rfl|exact .inr rfl|assumption):PG X (.Name x pos) (oX i):=by
 intro pins s σ H v u Q I r h
 exact wpAny_assign_Name (aC0 I hN hi hx r (fun s' I'=>⟨_,H,I',h⟩) hf)
def aR3:TGs:=fun vs σ H Q=>vs=[]/\Q σ H
def aO2 (t:TG) (u:TGs):TGs:=fun vs σ H Q=>∃v r,vs=v::r/\t v σ H fun σ' H'=>u r σ' H' Q
theorem wO:PGs X [] aR3:=by
 intro pins s σ H vs us Q I r h
 obtain⟨e,h⟩:=h
 subst e
 cases r
 exact assignInOrder_nil ⟨σ,H,I,h⟩
theorem lB {e:Expr} {es:List Expr} {t:TG} {u:TGs} (h1:PG X e t) (h2:PGs X es u)
  (hs:(assignEach (e::es) X.env).map (·.2)=assign e X.env::(assignEach es X.env).map (·.2):=by rfl):PGs X (e::es) (aO2 t u):=by
 intro pins s σ H vs us Q I r h
 obtain⟨v,vr,e1,h⟩:=h
 subst e1
 cases r with
 |cons r rr=>
  rw [hs]
  refine assignInOrder_cons (thn (h1 pins s σ H _ _ _ I r h) fun _ s1 ⟨σ1,H1,I1,q1⟩=>?_)
  exact h2 pins s1 σ1 H1 _ _ Q I1 rr q1
def aSs (K:PySem.W.Frag) (n:Nat) (t:TGs):TG:=fun v σ H Q=>∃a xs,v= .ref a/\SqT K H a xs/\xs.length=n/\t xs σ H Q
theorem aBl {es:List Expr} {k:Nat} {t:TGs} {n:Nat} (hc:X.calm=true) (h:PGs X es t)
  (hn:(assignEach es X.env).length=n:=by rfl) (hst:(assignEach es X.env).findIdx? (·.1)=none:=by rfl):PG X (.Tuple es k pos) (aSs X.K n t):=by
 intro pins s σ H v u Q I r hw
 obtain⟨a,xs,e1,hq,hl,hw⟩:=hw
 subst e1
 cases r
 obtain⟨its,rv,ht,hz⟩:=I.tuple hq
 refine assign_Tuple_tuple (I.ok.hd hc) ht (by simp [hn, <-hl,rv.length]) hst fun h' hx=>?_
 have I1:Inv X pins σ H {s with heap:=h'}:=I.kept (t':=s.toks) fun b o e=>hx b o (Nat.ne_of_lt (Heap.lt_size e)) e
 exact h pins _ σ H xs _ Q I1 (by simpa using rv) hw
def aTu (to ti:TE) (t:aPr):TG:=fun v σ H Q=>to σ H fun o H1=>ti σ H1 fun i H2=>t o i v H2 fun H3=>Q σ H3
theorem aLu {o i:Expr} {to ti:TE} {t:aPr} (ho:PE X o to) (hi:PE X i ti) (hs:aSb X t)
  (ha:∀v,assign (.Subscript o i pos) X.env v=(do
   let ov<-holding [v] (eval o X.env)
   let iv<-holding [v,ov] (eval i X.env)
   standAt pos
   holding [v,ov,iv] (setItem ov iv v)
   release [v,ov,iv] []):=by intro _;rfl):PG X (.Subscript o i pos) (aTu to ti t):=by
 intro pins s σ H v u Q I r h
 rw [ha]
 refine wpAny_bind (wpAny_holding (thn (ho pins s σ H _ I h) fun ov s1 ⟨x,H1,I1,r1,q1⟩=>?_))
 refine wpAny_bind (wpAny_holding (thn (hi pins s1 σ H1 _ I1 q1) fun iv s2 ⟨y,H2,I2,r2,q2⟩=>?_))
 refine wpAny_bind (wpAny_standAt (wpAny_bind (wpAny_holding (thn (hs pins s2 σ H2 x y v ov iv u _ I2 r1 r2 r q2) fun _ s3 ⟨H3,I3,q3⟩=>?_))))
 exact wpAny_release ⟨σ,H3,I3,q3⟩
def aH6 (te:TE) (g:TG):TS:=fun D σ H=>te σ H fun x H1=>g x σ H1 D.nx
theorem aFh {tg e:Expr} {te:TE} {g:TG} (he:PE X e te) (hg:PG X tg g) (hs:swapsWithSole [tg] e pos.line X.env=pure false:=by rfl) (hw:swappedStores [tg] e X.env=pure none:=by rfl)
  (h1:(assignEach [tg] X.env).map (·.2)=[assign tg X.env]:=by rfl):PS X (.Assign [tg] e pos) (aH6 te g):=by
 intro pins s σ H D I h
 refine wpAny_Assign_stores (thn (he pins s σ H _ I h) fun v s1 ⟨x,H1,I1,r1,q1⟩=>?_) hs hw
 rw [h1]
 exact thn (hg pins s1 σ H1 x v _ I1 r1 q1) fun _ s2 q=>q
theorem fX {i:Nat} {x:Str} {e:Expr} {te:TE} {pos':Pos} (hN:X.N.Nodup) (hi:X.N[i]? =some x) (hx:Loc X.env.scope x) (he:PE X e te) (hs:swapsWith e (some (.Name x pos')) pos.line X.env=pure false:=by rfl) (hf:X.fn x=true∨X.env.scope.names.lookup x=some .local:=by first|exact .inl rfl|exact .inr rfl|assumption):
  PS X (.Assign [.Name x pos'] e pos) (aH6 te (oX i)):=by
 intro pins s σ H D I h
 refine wpAny_Assign_Name (thn (he pins s σ H _ I h) fun v s1 ⟨y,H1,I1,r1,q1⟩=>?_) hs
 exact aC0 I1 hN hi hx r1 (fun s2 I2=>⟨_,H1,I2,q1⟩) hf
end
section
variable {X:Cx} {pos:Pos}
def aPm (c:TT) (tb:TS):TS:=fun D σ H=>∃W:Nat->St->Hp->Prop,(∃m,W m σ H)/\∀m σ H,W m σ H->
 c σ H fun b H1=>if b=true then∃N:St->Hp->Prop,(∀σ' H',N σ' H'->∃m',m'<m/\W m' σ' H')/\tb {D with nx:=N,ct:=N,bk:=D.nx} σ H1 else D.nx σ H1
theorem uB {c:Expr} {body:List Stmt} {tc:TT} {tb:TS} (hp:PassesOwn (model X.prog X.w) X.A X.env X.xe) (hc:PT X c tc) (hb:PSs X body tb):PS X (.While c body [] pos) (aPm tc tb):=by
 intro pins s σ H D I h
 obtain⟨W,⟨m0,w0⟩,turn⟩:=h
 refine wpAny_While (codeAny_whileLoop (fun n s'=>∃σ' H',Inv X pins σ' H' s'/\W n σ' H') ?_ m0 ⟨σ,H,I,w0⟩)
 rintro n s1 ⟨σ1,H1,I1,w1⟩
 refine wpAny_passesOwn hp (thn (hc pins s1 σ1 H1 _ I1 (turn n σ1 H1 w1)) fun b s2 ⟨H2,I2,q2⟩=>?_)
 cases b with
 |true=>
  obtain⟨N,hN,q2⟩:=q2
  rw [if_pos rfl]
  refine wpAny_passesOwn hp (thn (hb pins s2 σ1 H2 _ I2 q2) fun f s3 q3=>?_)
  cases f with
  |next=>
   obtain⟨σ3,H3,I3,n3⟩:=q3
   obtain⟨m',hm,w3⟩:=hN σ3 H3 n3
   exact⟨m',hm,σ3,H3,I3,w3⟩
  |cont=>
   obtain⟨σ3,H3,I3,n3⟩:=q3
   obtain⟨m',hm,w3⟩:=hN σ3 H3 n3
   exact⟨m',hm,σ3,H3,I3,w3⟩
  |brk=>exact q3
  |ret v=>exact q3
 |false=>
  rw [if_neg Bool.false_ne_true]
  exact wpAny_execs_nil ⟨σ1,H2,I2,q2⟩
end
structure It where
 go:Nat->Hp->Prop
 yld:Nat->Hp->V->Hp->Prop
 stop:Nat->Hp->Prop
def aAa (X:Cx) (pins:List (Addr×Obj)) (H:Hp) (b:Addr):Prop:=
 H b=none/\b≠X.env.locals/\b∉X.fs/\(b∈X.ex∨X.s₀.heap.objs.size<=b)/\(∀x c,X.env.cells.lookup x=some c->c≠b)/\∀p∈X.pn++pins,p.1≠b
theorem Inv.fpOk {X:Cx} {pins:List (Addr×Obj)} {σ:St} {H H':Hp} {s:Shared} {b:Addr} (I:Inv X pins σ H s) (hb:s.heap.objs.size<=b) (hn:H' b=none):aAa X pins H' b:=by
 refine⟨hn,Nat.ne_of_gt (Nat.lt_of_lt_of_le I.lt hb),I.nofs hb,.inr (Nat.le_trans I.sz hb),fun x c e z=>?_,fun p hp z=>?_⟩
 ·obtain⟨v,q⟩:=I.cell x c e
  exact absurd (Nat.lt_of_lt_of_le q.lt (by rw [z];exact hb)) (Nat.lt_irrefl _)
 ·exact absurd (Nat.lt_of_lt_of_le (Heap.lt_size (I.pin p hp).1) (by rw [z];exact hb)) (Nat.lt_irrefl _)
structure Turn (P:Program) (w:World) (K:PySem.W.Frag) (tg:Expr) (J:It) (fp:List Addr) (it:Addr) (tn:Nat->Heap->Prop):Prop where
 mem:it∈fp
 obj:∀i h,tn i h->∀b∈fp,∃o,h.get? b=some o/\∀v,o.data≠ .cell v
 keep:∀i h h',tn i h->(∀b∈fp,∀o,h.get? b=some o->h'.get? b=some o)->tn i h'
 item:∀(X:Cx),X.prog=P->X.w=w->X.K=K->X.calm=true->∀(i:Nat) (pins:List (Addr×Obj)) (s:Shared) (σ:St) (H:Hp) (E:Value->Shared->Prop),Inv X pins σ H s->(∀b∈fp,aAa X pins H b)->tn i s.heap->J.go i H->
  wpAny (model P w) X.A (pyNext (.ref it)) (fun r s1=>∃u,r=some u/\
   wpAny (model P w) X.A (letOwnedTupleGo tg (.ref it) u) (fun _ s2=>∃x H',Inv X pins σ H' s2/\RelV x u/\J.yld i H x H'/\tn (i+1) s2.heap/\∀b∈fp,H' b=none) E s1) E s
 done:∀(X:Cx),X.prog=P->X.w=w->X.K=K->X.calm=true->∀(i:Nat) (pins:List (Addr×Obj)) (s:Shared) (σ:St) (H:Hp) (E:Value->Shared->Prop),Inv X pins σ H s->(∀b∈fp,aAa X pins H b)->tn i s.heap->J.stop i H->
  wpAny (model P w) X.A (pyNext (.ref it)) (fun r s1=>r=none/\Inv X pins σ H s1) E s
 self:∀(A:Around) (i:Nat) (s:Shared) (Q:Value->Shared->Prop) (E:Value->Shared->Prop),tn i s.heap->Q (.ref it) s->wpAny (model P w) A (pyIter (.ref it)) Q E s
abbrev TI:=St->Hp->(It->Hp->Prop)->Prop
def PIE (X:Cx) (pins:List (Addr×Obj)) (σ:St) (tg:Expr) (R:It->Hp->Prop) (itv:Value) (s2:Shared):Prop:=
 ∃(it:Addr) (fp:List Addr) (tn:Nat->Heap->Prop) (J:It) (H':Hp),itv= .ref it/\Inv X pins σ H' s2/\Turn X.prog X.w X.K tg J fp it tn/\tn 0 s2.heap/\(∀b∈fp,aAa X pins H' b)/\R J H'
def PI (X:Cx) (tg iter:Expr) (wi:TI):Prop:=
 ∀(pins:List (Addr×Obj)) (s:Shared) (σ:St) (H:Hp) (R:It->Hp->Prop),Inv X pins σ H s->wi σ H R->
  wpAny (model X.prog X.w) X.A (eval iter X.env) (fun v s1=>wpAny (model X.prog X.w) X.A (pyIter v) (PIE X pins σ tg R) X.xe s1) X.xe s
theorem aGy {M : Model} {A : Around} {E : Value → Shared → Prop} {s : Shared} {tg : Expr} {it : Addr} {u : Value} {o : Obj} {n : String} {vs : Array Value} {Q : Unit → Shared → Prop} (ho : s.heap.get? it = some o) (hc : o.cls = .type n) (hd : o.data = .fields vs)
    (hn : ["enumerate", "zip", "dict_itemiterator", "dict_reverseitemiterator", "odict_iterator", "itertools.zip_longest", "itertools.pairwise"].contains n = false) (hQ : Q () s) : wpAny M A (letOwnedTupleGo tg (.ref it) u) Q E s := by
  unfold letOwnedTupleGo
  cases tg <;> first
    | exact wpAny_pure hQ
    | (cases u <;> first
        | exact wpAny_pure hQ
        | (refine wpAny_bind (wpAny_load ho ?_)
           rw [hc, hd]
           show wpAny M A (if (["enumerate", "zip", "dict_itemiterator", "dict_reverseitemiterator", "odict_iterator", "itertools.zip_longest", "itertools.pairwise"].contains n && vs[0]? == some (rawInt _)) = true then _ else _) Q E s
           rw [if_neg (by intro h; rw [hn, Bool.false_and] at h; cases h)]
           exact wpAny_pure hQ))
def Itl (K:PySem.W.Frag) (a:Addr):It:=
 ⟨fun i H=>∃xs x,SqL K H a xs/\xs[i]? =some x,fun i H x H'=>H'=H/\∀xs,SqL K H a xs->xs[i]? =some x,fun i H=>∃xs,SqL K H a xs/\xs.length<=i⟩
def Itt (K:PySem.W.Frag) (a:Addr):It:=
 ⟨fun i H=>∃xs x,SqT K H a xs/\xs[i]? =some x,fun i H x H'=>H'=H/\∀xs,SqT K H a xs->xs[i]? =some x,fun i H=>∃xs,SqT K H a xs/\xs.length<=i⟩
def Itr (lo:Int) (n:Nat):It:=⟨fun i _=>i<n,fun i H x H'=>H'=H/\x= .int (lo+i),fun i _=>n<=i⟩
theorem aHr {P:Program} {w:World} {K:PySem.W.Frag} {tg:Expr} (a it:Addr):Turn P w K tg (Itl K a) [it] it (fun i h=>h.IsListIter it a i) where
 mem:=by simp
 obj:=fun i h st b hb=>by
  have e:b=it:=by simpa using hb
  subst e
  obtain⟨o,e,c,d⟩:=st
  exact⟨o,e,fun v z=>by rw [d]at z;cases z⟩
 keep:=fun i h h' st k=>st.at fun o e=>k it (by simp) o e
 item:=by
  intro X hP hw hK hc i pins s σ H E I hf st hg
  subst hP hw hK
  obtain⟨xs,x,hq,hx⟩:=hg
  obtain⟨its,rv,p,hz⟩:=I.list hq
  obtain⟨u,hu,ru⟩:=rv.get hx
  obtain⟨f0,f1,f2,f3,f4,f5⟩:=hf it (by simp)
  refine wpAny_pyNext_list_item st p.isList (x:=u) (by simpa using hu) fun h' st' sb=>?_
  have I1:Inv X pins σ H {s with heap:=h'}:=I.turned (t':=s.toks) (fun b o hb e=>(sb.2 b hb).trans e) f0 f1 f3 f4 f5
  obtain⟨o,e,c,d⟩:=id st'
  exact⟨u,rfl,aGy (s:={s with heap:=h'}) e c d (by decide) ⟨x,H,I1,ru,⟨rfl,fun ys hy=>by rw [I.list_inj hy hq];exact hx⟩,st',fun b hb=>(hf b hb).1⟩⟩
 done:=by
  intro X hP hw hK hc i pins s σ H E I hf st hg
  subst hP hw hK
  obtain⟨xs,hq,hx⟩:=hg
  obtain⟨its,rv,p,hz⟩:=I.list hq
  obtain⟨f0,f1,f2,f3,f4,f5⟩:=hf it (by simp)
  have hl:=rv.length
  exact wpAny_pyNext_list_end (I.ok.hd hc) st p.isList (by simp;omega) fun h' eb=>⟨rfl,I.turned (t':=s.toks) (fun b o hb e=>eb b o hb e) f0 f1 f3 f4 f5⟩
 self:=fun _ _ _ _ _ st h=>wpAny_pyIter_listiter st h
theorem aEo {P:Program} {w:World} {K:PySem.W.Frag} {tg:Expr} (a it:Addr):Turn P w K tg (Itt K a) [it] it (fun i h=>h.IsTupleIter it a i) where
 mem:=by simp
 obj:=fun i h st b hb=>by
  have e:b=it:=by simpa using hb
  subst e
  obtain⟨o,e,c,d⟩:=st
  exact⟨o,e,fun v z=>by rw [d]at z;cases z⟩
 keep:=fun i h h' st k=>st.at fun o e=>k it (by simp) o e
 item:=by
  intro X hP hw hK hc i pins s σ H E I hf st hg
  subst hP hw hK
  obtain⟨xs,x,hq,hx⟩:=hg
  obtain⟨its,rv,p,hz⟩:=I.tuple hq
  obtain⟨u,hu,ru⟩:=rv.get hx
  obtain⟨f0,f1,f2,f3,f4,f5⟩:=hf it (by simp)
  refine wpAny_pyNext_tuple_item st (show s.heap.IsTuple a its.toArray from p) (x:=u) (by simpa using hu) fun h' st' sb=>?_
  have I1:Inv X pins σ H {s with heap:=h'}:=I.turned (t':=s.toks) (fun b o hb e=>(sb.2 b hb).trans e) f0 f1 f3 f4 f5
  obtain⟨o,e,c,d⟩:=id st'
  exact⟨u,rfl,aGy (s:={s with heap:=h'}) e c d (by decide) ⟨x,H,I1,ru,⟨rfl,fun ys hy=>by rw [I.tuple_inj hy hq];exact hx⟩,st',fun b hb=>(hf b hb).1⟩⟩
 done:=by
  intro X hP hw hK hc i pins s σ H E I hf st hg
  subst hP hw hK
  obtain⟨xs,hq,hx⟩:=hg
  obtain⟨its,rv,p,hz⟩:=I.tuple hq
  obtain⟨f0,f1,f2,f3,f4,f5⟩:=hf it (by simp)
  have hl:=rv.length
  exact wpAny_pyNext_tuple_end (I.ok.hd hc) st (show s.heap.IsTuple a its.toArray from p) (by simp;omega) fun h' eb=>⟨rfl,I.turned (t':=s.toks) (fun b o hb e=>eb b o hb e) f0 f1 f3 f4 f5⟩
 self:=fun _ _ _ _ _ st h=>wpAny_pyIter_tupleiter st h
theorem aFp {P:Program} {w:World} {K:PySem.W.Frag} {tg:Expr} (it:Addr) (lo:Int) (n:Nat):Turn P w K tg (Itr lo n) [it] it (fun i h=>IsRangeIter h it (lo+(i:Nat)*1) ((n:Int)-(i:Nat)) 1) where
 mem:=by simp
 obj:=fun i h st b hb=>by
  have e:b=it:=by simpa using hb
  subst e
  exact⟨_,st,fun v z=>by
   have z':Data.fields _=Data.cell v:=z
   cases z'⟩
 keep:=fun i h h' st k=>k it (by simp) _ st
 item:=by
  intro X hP hw hK hc i pins s σ H E I hf st hg
  subst hP hw hK
  obtain⟨f0,f1,f2,f3,f4,f5⟩:=hf it (by simp)
  have W:=Walks.range (prog:=X.prog) (w:=X.w) (I.ok.hd hc) it lo 1 n
  refine W.item i s _ _ hg st fun v h' tk hv st' kk=>?_
  obtain⟨t,rfl⟩:=hv
  have I1:Inv X pins σ H {s with heap:=h',toks:=tk}:=I.turned (fun b o hb e=>kk b o (by simpa using hb) e) f0 f1 f3 f4 f5
  refine⟨_,rfl,aGy (s:={s with heap:=h',toks:=tk}) (n:="range_iterator") st' rfl rfl (by decide) ⟨.int (lo+i),H,I1,⟨t,?_⟩,⟨rfl,rfl⟩,st',fun b hb=>(hf b hb).1⟩⟩
  rw [Int.mul_one]
 done:=by
  intro X hP hw hK hc i pins s σ H E I hf st hg
  subst hP hw hK
  obtain⟨f0,f1,f2,f3,f4,f5⟩:=hf it (by simp)
  exact wpAny_pyNext_range_end (I.ok.hd hc) st (by have:n<=i:=hg;omega) fun h' eb=>⟨rfl,I.turned (t':=s.toks) (fun b o hb e=>eb b o hb e) f0 f1 f3 f4 f5⟩
 self:=fun _ _ _ _ _ st h=>wpAny_pyIter_rangeiter st h
end L2
namespace L2
open PySem PySem.Spec PyProof.Rows
section
variable {X:Cx} {tg:Expr}
def aR8 (K:PySem.W.Frag) (tl:TE):TI:=fun σ H R=>tl σ H fun x H1=>∃a,x= .ref a/\(∃xs,SqL K H1 a xs)/\R (Itl K a) H1
def aTr (K:PySem.W.Frag) (tl:TE):TI:=fun σ H R=>tl σ H fun x H1=>∃a,x= .ref a/\(∃xs,SqT K H1 a xs)/\R (Itt K a) H1
theorem aGi {l:Expr} {tl:TE} (hl:PE X l tl):PI X tg l (aR8 X.K tl):=by
 intro pins s σ H R I h
 refine thn (hl pins s σ H _ I h) fun v s1 ⟨x,H1,I1,r1,q1⟩=>?_
 obtain⟨a,e,⟨xs,hq⟩,q⟩:=q1
 subst e
 cases r1
 obtain⟨its,rv,p,hz⟩:=I1.list hq
 refine wpAny_pyIter_list p.isList ?_
 refine⟨s1.heap.objs.size,[s1.heap.objs.size],_,_,H1,rfl,I1.kept (t':=s1.toks) fun b o e=>Heap.get?_push_of_some _ e,aHr a _,⟨_,Heap.get?_push_size _ rfl,rfl,rfl⟩,fun b hb=>?_,q⟩
 have e:b=s1.heap.objs.size:=by simpa using hb
 subst e
 exact I1.fpOk (Nat.le_refl _) (I1.hok.fresh (Nat.le_refl _))
theorem aMn {l:Expr} {tl:TE} (hl:PE X l tl):PI X tg l (aTr X.K tl):=by
 intro pins s σ H R I h
 refine thn (hl pins s σ H _ I h) fun v s1 ⟨x,H1,I1,r1,q1⟩=>?_
 obtain⟨a,e,⟨xs,hq⟩,q⟩:=q1
 subst e
 cases r1
 obtain⟨its,rv,p,hz⟩:=I1.tuple hq
 refine wpAny_pyIter_tuple (show s1.heap.IsTuple a its.toArray from p) ?_
 refine⟨s1.heap.objs.size,[s1.heap.objs.size],_,_,H1,rfl,I1.kept (t':=s1.toks) fun b o e=>Heap.get?_push_of_some _ e,aEo a _,⟨_,Heap.get?_push_size _ rfl,rfl,rfl⟩,fun b hb=>?_,q⟩
 have e:b=s1.heap.objs.size:=by simpa using hb
 subst e
 exact I1.fpOk (Nat.le_refl _) (I1.hok.fresh (Nat.le_refl _))
theorem aCx {pins:List (Addr×Obj)} {σ:St} {H:Hp} {s:Shared} {R:It->Hp->Prop} {E:Value->Shared->Prop} {lo hi:Int} {t u v:Tok} {tk:Nat} (I:Inv X pins σ H s) (h1: -(2 ^ 62)<=lo) (h2:lo<2 ^ 62) (h3: -(2 ^ 62)<=hi) (h4:hi<2 ^ 62)
  (q:R (Itr lo (hi-lo).toNat) H):wpAny (model X.prog X.w) X.A (pyIter (.ref s.heap.objs.size)) (PIE X pins σ tg R) E {s with heap:=s.heap.push {cls:= .type "range",data:= .fields #[.int lo t,.int hi u,.int 1 v]},toks:=tk}:=by
 refine wpAny_pyIter_range (IsRange.new ..) (small_one h1 h2 h3 h4) ?_
 have I1:Inv X pins σ H {s with heap:=s.heap.push {cls:= .type "range",data:= .fields #[.int lo t,.int hi u,.int 1 v]},toks:=tk}:=I.kept fun b o e=>Heap.get?_push_of_some _ e
 refine⟨(s.heap.push {cls:= .type "range",data:= .fields #[.int lo t,.int hi u,.int 1 v]}).objs.size,[(s.heap.push {cls:= .type "range",data:= .fields #[.int lo t,.int hi u,.int 1 v]}).objs.size],_,_,H,rfl,
  I1.kept (t':=tk) fun b o e=>Heap.get?_push_of_some _ e,aFp _ lo (hi-lo).toNat,?_,fun b hb=>?_,q⟩
 ·have e1:lo+((0:Nat):Int)*1=lo:=by simp
  have e2:(((hi-lo).toNat:Nat):Int)-((0:Nat):Int)=Builtin.Range.rangeSize lo hi 1:=by rw [rangeSize_one];split<;>omega
  show IsRangeIter _ _ (lo+((0:Nat):Int)*1) ((((hi-lo).toNat:Nat):Int)-((0:Nat):Int)) 1
  rw [e1,e2]
  exact Heap.get?_push_size _ rfl
 ·have e:b=(s.heap.push {cls:= .type "range",data:= .fields #[.int lo t,.int hi u,.int 1 v]}).objs.size:=by simpa using hb
  subst e
  exact I1.fpOk (Nat.le_refl _) (I1.hok.fresh (Nat.le_refl _))
def aSg (ta:TA):TI:=fun σ H R=>ta σ H fun vs H1=>∃j:Int,vs=[.int j]/\ -(2 ^ 62)<=j/\j<2 ^ 62/\R (Itr 0 j.toNat) H1
def aTa (ta:TA):TI:=fun σ H R=>ta σ H fun vs H1=>∃i j:Int,vs=[.int i,.int j]/\(-(2 ^ 62)<=i/\i<2 ^ 62/\ -(2 ^ 62)<=j/\j<2 ^ 62)/\R (Itr i (j-i).toNat) H1
theorem aAn {a:Expr} {ta:TA} {p pos:Pos} (hg:Gl X "range") (hm:X.mg "range"=none) (ha:PA X [a] ta) (hs:starEach [a] X.env=[(false,eval a X.env)]:=by rfl):PI X tg (.Call (.Name "range" p) [a] [] pos) (aSg ta):=by
 intro pins s σ H R I h
 refine Call_ (rZ I hg hm boot_range (PyProof.Rows.callWith_type1 (thn (ha pos pins s σ H _ I h) fun us s1 ⟨vs,H1,I1,r1,q1⟩=>?_) hs rfl))
 obtain⟨j,e,q1,q2,q⟩:=q1
 subst e
 cases r1 with
 |cons r rr=>
  cases rr
  obtain⟨t,rfl⟩:=r
  exact call_range_1 (aCx I1 (by omega) (by omega) q1 q2 (by simpa using q))
theorem aAh {a b:Expr} {ta:TA} {p pos:Pos} (hg:Gl X "range") (hm:X.mg "range"=none) (ha:PA X [a,b] ta) (hs:starEach [a,b] X.env=[(false,eval a X.env),(false,eval b X.env)]:=by rfl) (hs2:starEach [b] X.env=[(false,eval b X.env)]:=by rfl):
  PI X tg (.Call (.Name "range" p) [a,b] [] pos) (aTa ta):=by
 intro pins s σ H R I h
 refine Call_ (rZ I hg hm boot_range (PyProof.Rows.callWith_type1 (thn (ha pos pins s σ H _ I h) fun us s1 ⟨vs,H1,I1,r1,q1⟩=>?_) (by rw [hs,hs2]) (by rw [hs2];rfl)))
 obtain⟨i,j,e,⟨q1,q2,q3,q4⟩,q⟩:=q1
 subst e
 cases r1 with
 |cons r rr=>
  cases rr with
  |cons r' rr=>
   cases rr
   obtain⟨t,rfl⟩:=r
   obtain⟨t',rfl⟩:=r'
   exact call_range_2 (aCx I1 q1 q2 q3 q4 q)
def aT5 (wi:TI) (g:TG) (tb:TS):TS:=fun D σ H=>wi σ H fun J H1=>∃W:Nat->Nat->St->Hp->Prop,(∃m,W 0 m σ H1)/\∀i m σ H,W i m σ H->
 (J.stop i H/\D.nx σ H)∨(J.go i H/\∃N:St->Hp->Prop,(∀σ' H',N σ' H'->∃m',m'<m/\W (i+1) m' σ' H')/\∀x H',J.yld i H x H'->g x σ H' fun σ2 H2=>tb {D with nx:=N,ct:=N,bk:=D.nx} σ2 H2)
def aBb (fp:List Addr) (h:Heap):List (Addr×Obj):=fp.filterMap fun b=>(h.get? b).map fun o=>(b,o)
theorem eG {fp:List Addr} {h:Heap} {b:Addr} {o:Obj} (hb:b∈fp) (e:h.get? b=some o):(b,o)∈aBb fp h:=List.mem_filterMap.mpr ⟨b,hb,by rw [e];rfl⟩
theorem aIz {fp:List Addr} {h:Heap} {p:Addr×Obj} (hp:p∈aBb fp h):p.1∈fp/\h.get? p.1=some p.2:=by
 obtain⟨b,hb,e⟩:=List.mem_filterMap.mp hp
 cases q:h.get? b with
 |none=>rw [q]at e;cases e
 |some o=>
  rw [q]at e
  have e':(b,o)=p:=Option.some.inj e
  subst e'
  exact⟨hb,q⟩
theorem Inv.pinned {pins:List (Addr×Obj)} {σ:St} {H:Hp} {s:Shared} {fp:List Addr} (I:Inv X pins σ H s) (hf:∀b∈fp,aAa X pins H b) (ho:∀b∈fp,∃o,s.heap.get? b=some o/\∀v,o.data≠ .cell v):Inv X (pins++aBb fp s.heap) σ H s:=
 I.pins_of fun p hp=>(List.mem_append.mp hp).elim (fun z=>I.pin p (List.mem_append_right _ z)) fun z=>by
  obtain⟨hb,e⟩:=aIz z
  obtain⟨f0,f1,f2,_⟩:=hf p.1 hb
  obtain⟨o,e',d⟩:=ho p.1 hb
  rw [e]at e';cases e'
  exact⟨e,f0,f1,f2,d⟩
theorem Inv.unpinned {pins pl:List (Addr×Obj)} {σ:St} {H:Hp} {s:Shared} (I:Inv X (pins++pl) σ H s):Inv X pins σ H s:=I.pins_of fun p hp=>I.pin p (List.mem_append_right _ (List.mem_append_left _ hp))
theorem aBw {iter:Expr} {body:List Stmt} {wi:TI} {g:TG} {tb:TS} {pos:Pos} (hp:PassesOwn (model X.prog X.w) X.A X.env X.xe) (hc:X.calm=true) (hi:PI X tg iter wi) (hg:PG X tg g) (hb:PSs X body tb)
  (hs:∀x,foldedSetIterable iter X.env x=pure x:=by intro _;rfl):PS X (.For tg iter body [] pos) (aT5 wi g tb):=by
 intro pins s σ H D I h
 refine wpAny_For (thn (hi pins s σ H _ I h) fun v s1 h1=>thn h1 fun itv s2 h2=>?_) hs
 obtain⟨it,fp,tn,J,H2,e,I2,T,st2,f2,W,⟨m0,w0⟩,turn⟩:=h2
 subst e
 have stat:∀{H':Hp},(∀b∈fp,H' b=none)->∀b∈fp,aAa X pins H' b:=fun hn b hb=>⟨hn b hb,(f2 b hb).2⟩
 refine codeAny_forLoop_any (fun n s'=>∃i σ' H',Inv X pins σ' H' s'/\tn i s'.heap/\(∀b∈fp,H' b=none)/\W i n σ' H') ?_ m0 ⟨0,σ,H2,I2,st2,fun b hb=>(f2 b hb).1,w0⟩
 rintro n s3 ⟨i,σ3,H3,I3,st3,fr3,w3⟩
 rcases turn i n σ3 H3 w3 with ⟨stop,qn⟩|⟨go,N,hN,step⟩
 ·refine wpAny_passesOwn hp (thn (T.done X rfl rfl rfl hc i pins s3 σ3 H3 X.xe I3 (stat fr3) st3 stop) fun r s4 ⟨hr,I4⟩=>?_)
  subst hr
  exact wpAny_execs_nil ⟨σ3,H3,I4,qn⟩
 ·refine wpAny_passesOwn hp (thn (T.item X rfl rfl rfl hc i pins s3 σ3 H3 X.xe I3 (stat fr3) st3 go) fun r s4 ⟨u,hr,h4⟩=>?_)
  subst hr
  refine wpAny_passesOwn hp (thn h4 fun _ s5 ⟨x,H5,I5,r5,y5,st5,fr5⟩=>?_)
  have I5':=I5.pinned (stat fr5) (T.obj _ _ st5)
  refine wpAny_passesOwn hp (thn (hg _ s5 σ3 H5 x u _ I5' r5 (step x H5 y5)) fun _ s6 ⟨σ6,H6,I6,q6⟩=>?_)
  refine wpAny_passesOwn hp (thn (hb _ s6 σ6 H6 _ I6 q6) fun f s7 q7=>?_)
  have again:∀{σ7:St} {H7:Hp},Inv X (pins++aBb fp s5.heap) σ7 H7 s7->N σ7 H7->∃m,m<n/\∃i σ' H',Inv X pins σ' H' s7/\tn i s7.heap/\(∀b∈fp,H' b=none)/\W i m σ' H':=fun{σ7 H7} I7 n7=>by
   obtain⟨m',hm,w7⟩:=hN σ7 H7 n7
   refine⟨m',hm,i+1,σ7,H7,I7.unpinned,T.keep _ _ _ st5 fun b hb o e=>(I7.pin (b,o) (List.mem_append_right _ (List.mem_append_right _ (eG hb e)))).1,fun b hb=>?_,w7⟩
   obtain⟨o,e,d⟩:=T.obj _ _ st5 b hb
   exact(I7.pin (b,o) (List.mem_append_right _ (List.mem_append_right _ (eG hb e)))).2.1
  cases f with
  |next=>obtain⟨σ7,H7,I7,n7⟩:=q7;exact again I7 n7
  |cont=>obtain⟨σ7,H7,I7,n7⟩:=q7;exact again I7 n7
  |brk=>obtain⟨σ7,H7,I7,q7⟩:=q7;exact⟨σ7,H7,I7.unpinned,q7⟩
  |ret v=>obtain⟨x7,σ7,H7,I7,r7,q7⟩:=q7;exact⟨x7,σ7,H7,I7.unpinned,r7,q7⟩
end
end L2
namespace L2
open PySem PySem.Spec PyProof.Rows
abbrev R2:=V->V->Hp->VK->Prop
def OpR (X:Cx) (f:Value->Value->Sem Value) (r:R2):Prop:=
 ∀(pins:List (Addr×Obj)) (s:Shared) (σ:St) (H:Hp) (x y:V) (v u:Value) (Q:VK),Inv X pins σ H s->RelV x v->RelV y u->r x y H Q->
  wpAny (model X.prog X.w) X.A (f v u) (EP X pins σ Q) X.xe s
def UnR (X:Cx) (f:Value->Sem Value) (r:V->Hp->VK->Prop):Prop:=
 ∀(pins:List (Addr×Obj)) (s:Shared) (σ:St) (H:Hp) (x:V) (v:Value) (Q:VK),Inv X pins σ H s->RelV x v->r x H Q->
  wpAny (model X.prog X.w) X.A (f v) (EP X pins σ Q) X.xe s
def dU (X:Cx) (f:Value) (r:List V->Hp->VK->Prop):Prop:=
 ∀(pins:List (Addr×Obj)) (s:Shared) (σ:St) (H:Hp) (xs:List V) (us:List Value) (Q:VK),Inv X pins σ H s->Vals xs us->r xs H Q->
  wpAny (model X.prog X.w) X.A (call f us) (EP X pins σ Q) X.xe s
def tOp (r:R2) (ta tb:TE):TE:=fun σ H Q=>ta σ H fun x H1=>tb σ H1 fun y H2=>r x y H2 Q
def tUn (r:V->Hp->VK->Prop) (ta:TE):TE:=fun σ H Q=>ta σ H fun x H1=>r x H1 Q
def rI (C:Int->Int->Prop) (g:Int->Int->V):R2:=fun x y H Q=>∃i j,x= .int i/\y= .int j/\C i j/\Q (g i j) H
def rI0 (g:Int->Int->V):R2:=fun x y H Q=>∃i j,x= .int i/\y= .int j/\Q (g i j) H
def rU (g:Int->V):V->Hp->VK->Prop:=fun x H Q=>∃i,x= .int i/\Q (g i) H
section
variable {X:Cx} {a b c:Expr} {ta tb tc:TE} {pos:Pos}
theorem aRi (ha:PE X a ta) (hb:PE X b tb) {pins:List (Addr×Obj)} {s:Shared} {σ:St} {H:Hp} {R:V->V->Hp->Prop} (I:Inv X pins σ H s)
  (h:ta σ H fun x H1=>tb σ H1 fun y H2=>R x y H2) {Q:Value->Shared->Prop} {f:Value->Value->Sem Value}
  (hf:∀v u s2 x y H2,Inv X pins σ H2 s2->RelV x v->RelV y u->R x y H2->wpAny (model X.prog X.w) X.A (f v u) Q X.xe s2):
  wpAny (model X.prog X.w) X.A (eval a X.env) (fun v s₁=>wpAny (model X.prog X.w) X.A (eval b X.env) (fun u s₂=>wpAny (model X.prog X.w) X.A (f v u) Q X.xe s₂) X.xe s₁) X.xe s:=by
 refine thn (ha pins s σ H _ I h) fun v s1 ⟨x,H1,I1,r1,q1⟩=>?_
 refine thn (hb pins s1 σ H1 _ I1 q1) fun u s2 ⟨y,H2,I2,r2,q2⟩=>?_
 exact hf v u s2 x y H2 I2 r1 r2 q2
theorem oV {op:Operator} {r:R2} (ho:OpR X (binaryOp op) r) (ha:PE X a ta) (hb:PE X b tb):PE X (.BinOp a op b pos) (tOp r ta tb):=by
 intro pins s σ H Q I h
 exact wpAny_BinOp (aRi ha hb I h fun v u s2 x y H2 I2 rx ry q=>ho pins s2 σ H2 x y v u Q I2 rx ry q)
theorem aOy {op:UnaryOp} {r:V->Hp->VK->Prop} (ho:UnR X (unaryOp op) r) (ha:PE X a ta):PE X (.UnaryOp op a pos) (tUn r ta):=by
 intro pins s σ H Q I h
 exact UnaryOp_ (thn (ha pins s σ H _ I h) fun v s1 ⟨x,H1,I1,r1,q1⟩=>ho pins s1 σ H1 x v Q I1 r1 q1)
theorem opI {f:Value->Value->Sem Value} {C:Int->Int->Prop} {g:Int->Int->Int}
  (rule:∀(i j:Int) (t u:Tok) (s:Shared) (Q:Value->Shared->Prop) (E:Value->Shared->Prop),C i j->Q (.int (g i j) s.toks) {s with toks:=s.toks+1}->wpAny (model X.prog X.w) X.A (f (.int i t) (.int j u)) Q E s):
  OpR X f (rI C fun i j=> .int (g i j)):=by
 intro pins s σ H x y v u Q I rx ry h
 obtain⟨i,j,rfl,rfl,hc,q⟩:=h
 obtain⟨t,rfl⟩:=rx
 obtain⟨t',rfl⟩:=ry
 exact rule i j t t' s _ _ hc ⟨.int (g i j),H,I.tok _,⟨_,rfl⟩,q⟩
theorem aTj {f:Value->Value->Sem Value} {g:Int->Int->Int}
  (rule:∀(i j:Int) (t u:Tok) (s:Shared) (Q:Value->Shared->Prop) (E:Value->Shared->Prop),Q (.int (g i j) s.toks) {s with toks:=s.toks+1}->wpAny (model X.prog X.w) X.A (f (.int i t) (.int j u)) Q E s):
  OpR X f (rI0 fun i j=> .int (g i j)):=by
 intro pins s σ H x y v u Q I rx ry h
 obtain⟨i,j,rfl,rfl,q⟩:=h
 obtain⟨t,rfl⟩:=rx
 obtain⟨t',rfl⟩:=ry
 exact rule i j t t' s _ _ ⟨.int (g i j),H,I.tok _,⟨_,rfl⟩,q⟩
theorem aN5 {f:Value->Value->Sem Value} {g:Int->Int->Bool}
  (rule:∀(i j:Int) (t u:Tok) (s:Shared) (Q:Value->Shared->Prop) (E:Value->Shared->Prop),Q (.bool (g i j)) s->wpAny (model X.prog X.w) X.A (f (.int i t) (.int j u)) Q E s):
  OpR X f (rI0 fun i j=> .bl (g i j)):=by
 intro pins s σ H x y v u Q I rx ry h
 obtain⟨i,j,rfl,rfl,q⟩:=h
 obtain⟨t,rfl⟩:=rx
 obtain⟨t',rfl⟩:=ry
 exact rule i j t t' s _ _ ⟨.bl (g i j),H,I,rfl,q⟩
def aTs (i j:Int):Prop:=0<j/\j<1073741824
def aTp (i j:Int):Prop:=0<=j/\j<=1000000/\i.natAbs<2 ^ 64
def aQ4 (i j:Int):Prop:=(-(2 ^ 64)<i/\i<2 ^ 64)∨(-(2 ^ 64)<j/\j<2 ^ 64)
theorem aQ4.ok {i j:Int} (h:aQ4 i j):IntMulOk i j:=by
 rcases h with ⟨h1,h2⟩|⟨h1,h2⟩
 ·exact .of_left (intBits_le_64 h1 h2)
 ·exact .of_right (intBits_le_64 h1 h2)
theorem sH:OpR X (binaryOp .Add) (rI0 fun i j=> .int (i+j)):=aTj fun _ _ _ _ _ _ _ q=>add_int q
theorem oM:OpR X (binaryOp .Sub) (rI0 fun i j=> .int (i-j)):=aTj fun _ _ _ _ _ _ _ q=>sub_int q
theorem kZ:OpR X (binaryOp .Mult) (rI aQ4 fun i j=> .int (i*j)):=opI fun _ _ _ _ _ _ _ hc q=>mul_int q hc.ok
theorem qD:OpR X (binaryOp .FloorDiv) (rI aTs fun i j=> .int (i / j)):=opI fun i j _ _ _ _ _ hc q=>by
 have h1:(0:Int)<j:=hc.1
 have h2:j<1073741824:=hc.2
 exact floordiv_int (by omega) (by rw [Int.fdiv_eq_ediv_of_nonneg i (by omega)];exact q) (.inl (PyProof.noPylong_small (by omega)))
theorem sG:OpR X (binaryOp .Mod) (rI (fun _ j=>0<j) fun i j=> .int (i % j)):=opI fun i j _ _ _ _ _ hc q=>by
 have h1:(0:Int)<j:=hc
 exact mod_int' (by omega) (by rw [Int.fmod_eq_emod_of_nonneg i (by omega)];exact q)
theorem aKj:OpR X (binaryOp .Pow) (rI aTp fun i j=> .int (i ^ j.toNat)):=opI fun _ _ _ _ _ _ _ hc q=>pow_int_small hc.1 hc.2.1 hc.2.2 q
theorem unI {f:Value->Sem Value} {g:Int->Int}
  (rule:∀(i:Int) (t:Tok) (s:Shared) (Q:Value->Shared->Prop) (E:Value->Shared->Prop),Q (.int (g i) s.toks) {s with toks:=s.toks+1}->wpAny (model X.prog X.w) X.A (f (.int i t)) Q E s):
  UnR X f (rU fun i=> .int (g i)):=by
 intro pins s σ H x v Q I rx h
 obtain⟨i,rfl,q⟩:=h
 obtain⟨t,rfl⟩:=rx
 exact rule i t s _ _ ⟨.int (g i),H,I.tok _,⟨_,rfl⟩,q⟩
theorem aJj:UnR X (unaryOp .USub) (rU fun i=> .int (-i)):=unI fun _ _ _ _ _ q=>neg_int q
end
def aTe:V->V->Bool
 | .non,.non=>true| .non,.int _=>true| .int _,.non=>true| .non,.bl _=>true| .bl _,.non=>true| .non,.str _=>true| .str _,.non=>true
 | .int _,.int _=>true| .bl _,.bl _=>true| .str _,.str _=>true| .byt _,.byt _=>true
 | .int _,.str _=>true| .str _,.int _=>true| .bl _,.str _=>true| .str _,.bl _=>true
 |_,_=>false
def rEq:R2:=fun x y H Q=>aTe x y=true/\Q (.bl (decide (x=y))) H
def rNe:R2:=fun x y H Q=>aTe x y=true/\Q (.bl (!decide (x=y))) H
theorem aG8 {i j:Int}:decide (V.int i=V.int j)=(i==j):=by
 rw [Bool.eq_iff_iff]
 simp
theorem aKc {i j:Bool}:decide (V.bl i=V.bl j)=(i==j):=by
 rw [Bool.eq_iff_iff]
 simp
theorem aHf {i j:Str}:decide (V.str i=V.str j)=(i==j):=by
 rw [Bool.eq_iff_iff]
 simp
theorem aHc {i j:Array UInt8}:decide (V.byt i=V.byt j)=(i.toList==j.toList):=by
 rw [Bool.eq_iff_iff]
 cases i
 cases j
 simp
section
variable {X:Cx} {a b c:Expr} {ta tb tc:TE} {pos:Pos}
theorem bR {pins:List (Addr×Obj)} {σ:St} {H:Hp} {s:Shared} {Q:VK} {k k':Bool} (I:Inv X pins σ H s) (q:Q (.bl k) H) (e:k=k'):EP X pins σ Q (.bool k') s:=by
 subst e
 exact⟨.bl k,H,I,rfl,q⟩
theorem mV:OpR X (compareOp .Eq) rEq:=by
 intro pins s σ H x y v u Q I rx ry h
 obtain⟨hs,q⟩:=h
 cases x with
 |non=>
  cases rx
  cases y with
  |non=>cases ry;exact PySem.EqNone.eq_none_none (bR I q (by simp))
  |bl j=>cases ry;exact PySem.EqNone.eq_none_bool (bR I q (by simp))
  |int j=>obtain⟨t',rfl⟩:=ry;exact PySem.EqNone.eq_none_int (bR I q (by simp))
  |str j=>obtain⟨t',rfl⟩:=ry;exact PySem.EqNone.eq_none_str (bR I q (by simp))
  |_=>exact absurd (show false=true from hs) Bool.false_ne_true
 |bl i=>
  cases rx
  cases y with
  |non=>cases ry;exact PySem.EqNone.eq_bool_none (bR I q (by simp))
  |bl j=>cases ry;exact eq_bool (bR I q aKc)
  |str j=>obtain⟨t',rfl⟩:=ry;exact PySem.EqMixed.eq_bool_str (bR I q (by simp))
  |_=>exact absurd (show false=true from hs) Bool.false_ne_true
 |int i=>
  obtain⟨t,rfl⟩:=rx
  cases y with
  |non=>cases ry;exact PySem.EqNone.eq_int_none (bR I q (by simp))
  |int j=>obtain⟨t',rfl⟩:=ry;exact eq_int (bR I q aG8)
  |str j=>obtain⟨t',rfl⟩:=ry;exact PySem.EqMixed.eq_int_str (bR I q (by simp))
  |_=>exact absurd (show false=true from hs) Bool.false_ne_true
 |str i=>
  obtain⟨t,rfl⟩:=rx
  cases y with
  |non=>cases ry;exact PySem.EqNone.eq_str_none (bR I q (by simp))
  |bl j=>cases ry;exact PySem.EqMixed.eq_str_bool (bR I q (by simp))
  |int j=>obtain⟨t',rfl⟩:=ry;exact PySem.EqMixed.eq_str_int (bR I q (by simp))
  |str j=>obtain⟨t',rfl⟩:=ry;exact eq_str (bR I q aHf)
  |_=>exact absurd (show false=true from hs) Bool.false_ne_true
 |byt i=>
  obtain⟨t,rfl⟩:=rx
  cases y with
  |byt j=>obtain⟨t',rfl⟩:=ry;exact PySem.W.eq_bytes (bR I q aHc)
  |_=>exact absurd (show false=true from hs) Bool.false_ne_true
 |_=>cases y<;>exact absurd (show false=true from hs) Bool.false_ne_true
theorem aHd:OpR X (compareOp .NotEq) rNe:=by
 intro pins s σ H x y v u Q I rx ry h
 obtain⟨hs,q⟩:=h
 cases x with
 |non=>
  cases rx
  cases y with
  |non=>cases ry;exact PySem.EqNone.ne_none_none (bR I q (by simp))
  |bl j=>cases ry;exact PySem.EqNone.ne_none_bool (bR I q (by simp))
  |int j=>obtain⟨t',rfl⟩:=ry;exact PySem.EqNone.ne_none_int (bR I q (by simp))
  |str j=>obtain⟨t',rfl⟩:=ry;exact PySem.EqNone.ne_none_str (bR I q (by simp))
  |_=>exact absurd (show false=true from hs) Bool.false_ne_true
 |bl i=>
  cases rx
  cases y with
  |non=>cases ry;exact PySem.EqNone.ne_bool_none (bR I q (by simp))
  |bl j=>cases ry;exact ne_bool (bR I q (congrArg not aKc))
  |str j=>obtain⟨t',rfl⟩:=ry;exact PySem.EqMixed.ne_bool_str (bR I q (by simp))
  |_=>exact absurd (show false=true from hs) Bool.false_ne_true
 |int i=>
  obtain⟨t,rfl⟩:=rx
  cases y with
  |non=>cases ry;exact PySem.EqNone.ne_int_none (bR I q (by simp))
  |int j=>obtain⟨t',rfl⟩:=ry;exact ne_int (bR I q (congrArg not aG8))
  |str j=>obtain⟨t',rfl⟩:=ry;exact PySem.EqMixed.ne_int_str (bR I q (by simp))
  |_=>exact absurd (show false=true from hs) Bool.false_ne_true
 |str i=>
  obtain⟨t,rfl⟩:=rx
  cases y with
  |non=>cases ry;exact PySem.EqNone.ne_str_none (bR I q (by simp))
  |bl j=>cases ry;exact PySem.EqMixed.ne_str_bool (bR I q (by simp))
  |int j=>obtain⟨t',rfl⟩:=ry;exact PySem.EqMixed.ne_str_int (bR I q (by simp))
  |str j=>obtain⟨t',rfl⟩:=ry;exact ne_str (bR I q (congrArg not aHf))
  |_=>exact absurd (show false=true from hs) Bool.false_ne_true
 |byt i=>
  obtain⟨t,rfl⟩:=rx
  cases y with
  |byt j=>obtain⟨t',rfl⟩:=ry;exact PySem.W.ne_bytes (bR I q (congrArg not aHc))
  |_=>exact absurd (show false=true from hs) Bool.false_ne_true
 |_=>cases y<;>exact absurd (show false=true from hs) Bool.false_ne_true
theorem aG6:OpR X (compareOp .Lt) (rI0 fun i j=> .bl (decide (i<j))):=aN5 fun _ _ _ _ _ _ _ q=>lt_int q
theorem aAx:OpR X (compareOp .LtE) (rI0 fun i j=> .bl (decide (i<=j))):=aN5 fun _ _ _ _ _ _ _ q=>le_int q
theorem rB:OpR X (compareOp .Gt) (rI0 fun i j=> .bl (decide (j<i))):=aN5 fun _ _ _ _ _ _ _ q=>gt_int q
theorem aRw:OpR X (compareOp .GtE) (rI0 fun i j=> .bl (decide (j<=i))):=aN5 fun _ _ _ _ _ _ _ q=>ge_int q
theorem aIq:OpR X (compareOp .In) (fun x y H Q=>∃i j,x= .str i/\y= .str j/\Q (.bl (!(Builtin.Str.occurrences j i 0 j.length 1).isEmpty)) H):=by
 intro pins s σ H x y v u Q I rx ry h
 obtain⟨i,j,rfl,rfl,q⟩:=h
 obtain⟨t,rfl⟩:=rx
 obtain⟨t',rfl⟩:=ry
 exact in_str (bR I q rfl)
theorem OpR.or {f:Value->Value->Sem Value} {r r':R2} (h:OpR X f r) (h':OpR X f r'):OpR X f (fun x y H Q=>r x y H Q∨r' x y H Q):=by
 intro pins s σ H x y v u Q I rx ry q
 rcases q with q|q
 ·exact h pins s σ H x y v u Q I rx ry q
 ·exact h' pins s σ H x y v u Q I rx ry q
theorem cR (b:Expr) {op:CmpOp} (h:op≠ .In:=by decide) (h2:op≠ .NotIn:=by decide):behindInMarks op b=false:=by
 have e1:(op==CmpOp.In)=false:=by cases op<;>first|rfl|exact absurd rfl h
 have e2:(op==CmpOp.NotIn)=false:=by cases op<;>first|rfl|exact absurd rfl h2
 cases b<;>simp [behindInMarks,e1,e2]
theorem aBo {op:CmpOp} {r:R2} (ho:OpR X (compareOp op) r) (ha:PE X a ta) (hb:PE X b tb) (hm:behindInMarks op b=false):PE X (.Compare a [op] [b] pos) (tOp r ta tb):=by
 intro pins s σ H Q I h
 exact wpAny_Compare1 (aRi ha hb I h fun v u s2 x y H2 I2 rx ry q=>ho pins s2 σ H2 x y v u Q I2 rx ry q) hm
def aJw (t:TE):TT:=fun σ H Q=>t σ H fun x H'=>∃k,x= .bl k/\Q k H'
theorem bV {op:CmpOp} {r:R2} (ho:OpR X (compareOp op) r) (ha:PE X a ta) (hb:PE X b tb) (hm:behindInMarks op b=false):PT X (.Compare a [op] [b] pos) (aJw (tOp r ta tb)):=by
 intro pins s σ H Q I h
 refine wpAny_isTrue_Compare1 (thn (ha pins s σ H _ I h) fun v s1 ⟨x,H1,I1,r1,q1⟩=>thn (hb pins s1 σ H1 _ I1 q1) fun u s2 ⟨y,H2,I2,r2,q2⟩=>
  thn (ho pins s2 σ H2 x y v u _ I2 r1 r2 q2) fun c s3 ⟨z,H3,I3,r3,k,e,q3⟩=>?_) hm
 subst e
 cases r3
 exact wpAny_truthy_bool ⟨H3,I3,q3⟩
def aE5 (r r':R2) (ta tb tc:TE):TE:=fun σ H Q=>ta σ H fun x H1=>tb σ H1 fun y H2=>r x y H2 fun z H3=>∃k,z= .bl k/\
 (if k=true then tc σ H3 fun w' H4=>r' y w' H4 Q else Q (.bl false) H3)
theorem aKb {op op':CmpOp} {r r':R2} (ho:OpR X (compareOp op) r) (ho':OpR X (compareOp op') r') (ha:PE X a ta) (hb:PE X b tb) (hc:PE X c tc)
  (hm:lastMarks [op,op'] [b,c]=false:=by with_unfolding_all rfl):PE X (.Compare a [op,op'] [b,c] pos) (aE5 r r' ta tb tc):=by
 intro pins s σ H Q I h
 refine Compare_chain (thn (ha pins s σ H _ I h) fun v s1 ⟨x,H1,I1,r1,q1⟩=>chain_link (thn (hb pins s1 σ H1 _ I1 q1) fun u s2 ⟨y,H2,I2,r2,q2⟩=>
  thn (ho pins s2 σ H2 x y v u _ I2 r1 r2 q2) fun d s3 ⟨z,H3,I3,r3,k,e,q3⟩=>?_)) hm
 subst e
 cases r3
 refine wpAny_truthy_bool ?_
 cases k with
 |false=>exact ite_ff ⟨.bl false,H3,I3,rfl,q3⟩
 |true=>exact ite_tt (chain_last (thn (hc pins s3 σ H3 _ I3 q3) fun w' s4 ⟨z',H4,I4,r4,q4⟩=>ho' pins s4 σ H4 y z' u w' Q I4 r2 r4 q4))
theorem aLc {op op':CmpOp} {r r':R2} (ho:OpR X (compareOp op) r) (ho':OpR X (compareOp op') r') (ha:PE X a ta) (hb:PE X b tb) (hc:PE X c tc)
  (hm:lastMarks [op,op'] [b,c]=false:=by with_unfolding_all rfl):PT X (.Compare a [op,op'] [b,c] pos) (aJw (aE5 r r' ta tb tc)):=by
 intro pins s σ H Q I h
 refine isTrue_chain (thn (ha pins s σ H _ I h) fun v s1 ⟨x,H1,I1,r1,q1⟩=>test_link (thn (hb pins s1 σ H1 _ I1 q1) fun u s2 ⟨y,H2,I2,r2,q2⟩=>
  thn (ho pins s2 σ H2 x y v u _ I2 r1 r2 q2) fun d s3 ⟨z,H3,I3,r3,k,e,q3⟩=>?_)) hm
 subst e
 cases r3
 refine wpAny_truthy_bool ?_
 cases k with
 |false=>
  obtain⟨k',e',q'⟩:=q3
  cases e'
  exact ite_ff ⟨H3,I3,q'⟩
 |true=>
  refine ite_tt (test_last (thn (hc pins s3 σ H3 _ I3 q3) fun w' s4 ⟨z',H4,I4,r4,q4⟩=>thn (ho' pins s4 σ H4 y z' u w' _ I4 r2 r4 q4) fun d' s5 ⟨z2,H5,I5,r5,k2,e2,q5⟩=>?_))
  subst e2
  cases r5
  exact wpAny_truthy_bool ⟨H5,I5,q5⟩
theorem vA:(sizeLine:Nat)<2 ^ 63:=by rw [sizeLine_eq];decide
theorem yC:OpR X (binaryOp .Add) (fun x y H Q=>∃i j,x= .str i/\y= .str j/\i.length+j.length<=sizeLine/\Q (.str (i++j)) H):=by
 intro pins s σ H x y v u Q I rx ry h
 obtain⟨i,j,rfl,rfl,hz,q⟩:=h
 obtain⟨t,rfl⟩:=rx
 obtain⟨t',rfl⟩:=ry
 exact add_str (fun t' tk=>⟨.str (i++j),H,I.tok _,⟨_,rfl⟩,q⟩) hz
theorem vals1 {x:V} {us:List Value} (r:Vals [x] us):∃u,us=[u]/\RelV x u:=by
 cases r with
 |cons r1 r2=>cases r2;exact⟨_,rfl,r1⟩
theorem vals2 {x y:V} {us:List Value} (r:Vals [x,y] us):∃u w',us=[u,w']/\RelV x u/\RelV y w':=by
 cases r with
 |cons r1 r2=>
  cases r2 with
  |cons r3 r4=>cases r4;exact⟨_,_,rfl,r1,r3⟩
theorem aJa:dU X (.builtin "abs") (fun xs H Q=>∃i,xs=[.int i]/\Q (.int (if i<0 then-i else i)) H):=by
 intro pins s σ H xs us Q I r h
 obtain⟨i,rfl,q⟩:=h
 obtain⟨u,rfl,t,rfl⟩:=vals1 r
 exact call_abs_int fun u tk=>⟨.int (if i<0 then-i else i),H,I.tok _,⟨_,rfl⟩,q⟩
theorem aIl (hc:X.calm=true):dU X (.builtin "min") (fun xs H Q=>∃i j,xs=[.int i,.int j]/\Q (.int (if j<i then j else i)) H):=by
 intro pins s σ H xs us Q I r h
 obtain⟨i,j,rfl,q⟩:=h
 obtain⟨u,w',rfl,⟨t,rfl⟩,⟨t',rfl⟩⟩:=vals2 r
 refine min_two_ints (I.ok.hd hc) fun h' tk k=>⟨_,H,I.kept k,?_,q⟩
 by_cases hj:j<i
 ·rw [if_pos hj,if_pos hj];exact⟨_,rfl⟩
 ·rw [if_neg hj,if_neg hj];exact⟨_,rfl⟩
theorem aIp:dU X (.type "int") (fun xs H Q=>(∃i,xs=[.int i]/\Q (.int i) H)∨∃k,xs=[.bl k]/\Q (.int (if k then 1 else 0)) H):=by
 intro pins s σ H xs us Q I r h
 rcases h with ⟨i,rfl,q⟩|⟨k,rfl,q⟩
 ·obtain⟨u,rfl,t,rfl⟩:=vals1 r
  exact call_int_int ⟨.int i,H,I,⟨_,rfl⟩,q⟩
 ·obtain⟨u,rfl,r1⟩:=vals1 r
  cases r1
  exact call_int_bool ⟨.int (if k then 1 else 0),H,I.tok _,⟨_,rfl⟩,q⟩
theorem aB4:dU X (.type "str") (fun xs H Q=>∃i,xs=[.int i]/\i.natAbs.log2<1920/\Q (.str (toString i)) H):=by
 intro pins s σ H xs us Q I r h
 obtain⟨i,rfl,hz,q⟩:=h
 obtain⟨u,rfl,t,rfl⟩:=vals1 r
 exact PySem.P.str_of_int hz ⟨.str _,H,I.tok _,⟨_,rfl⟩,q⟩
end
end L2
namespace L2
open PySem PySem.Spec PyProof.Rows
structure aFx (h:Heap) (x dx C:Addr) (mA:Str->Option Value):Prop where
 obj:h.get? x=some (PySem.W.instObj C dx)
 ns:h.Ns1 dx mA
 ne:dx≠x
theorem aIy {h:Heap} {dx:Addr} {mA:Str->Option Value} (n:h.Ns1 dx mA):∃od,h.get? dx=some od/\∀name,PySem.W.lookIn name od=some (mA name):=by
 obtain⟨o,es,ep,ho,hd,hk,_,hm⟩:=n
 refine⟨o,ho,fun name=>?_⟩
 have e:=hm name
 unfold nsFind findBy at e
 rw [<-Array.find?_toList]at e
 unfold PySem.W.lookIn
 rw [hd]
 dsimp only
 split
 ·rename_i y q
  rw [q]at e
  exact congrArg some e
 ·rename_i q
  rw [q]at e
  have a:es.toList.any (·.refKey)=false:=by
   rw [List.any_eq_false]
   intro y hy
   obtain⟨z,t,hkey⟩:=hk y (Array.mem_toList_iff.mp hy)
   simp [DictEntry.refKey,hkey]
  have a':¬es.toList.any (·.refKey)=true:=by rw [a];exact Bool.false_ne_true
  rw [if_neg a']
  exact congrArg some e
theorem aFx.look {h:Heap} {x dx C:Addr} {mA:Str->Option Value} (I:aFx h x dx C mA):∃od,PySem.W.InstAt h x (PySem.W.instObj C dx) C (some od)/\∀name,PySem.W.lookIn name od=some (mA name):=
 let⟨od,ho,hl⟩:=aIy I.ns
 ⟨od,⟨I.obj,rfl,rfl,ho⟩,hl⟩
section
variable {prog:Program} {w:World} {A:Around} {E:Value->Shared->Prop} {s:Shared} {K:PySem.W.Frag} {x dx C f:Addr} {mA:Str->Option Value} {name:Str} {v:Value}
theorem aBp {expr:Bool} {Q:Value->Shared->Prop} (X:K.In s.heap) (I:aFx s.heap x dx C mA) (hg:PySem.W.plainGet K C name=true) (hh:PySem.W.hasDictIn K C=true)
  (ha:PySem.W.findIn K (.ref C) name=some none) (hv:mA name=some v) (hv':PySem.W.handedIn v=true) (h:Q v {s with toks:=s.toks+1}):
  wpAny (model prog w) A (getAttr (.ref x) name expr) Q E s:=by
 obtain⟨od,J,hl⟩:=I.look
 exact PySem.W.get_value X J (PySem.W.plainGet_of hg).1 (PySem.W.findObj_own hh ha rfl (by rw [hl,hv])) hv' h
theorem aLl {pl:Sem Bool} {Q:Value×List Value->Shared->Prop} (X:K.In s.heap) (I:aFx s.heap x dx C mA) (hg:PySem.W.plainGet K C name=true)
  (hf:PySem.W.findIn K (.ref C) name=some (some (.ref f))) (ht:PySem.W.isFn K (.ref f)=true) (hv:mA name=none) (h:Q (.ref f,[.ref x]) s):
  wpAny (model prog w) A (getMethod (.ref x) name pl) Q E s:=by
 obtain⟨od,J,hl⟩:=I.look
 exact PySem.W.method_fn X J (PySem.W.plainGet_of hg).1 (PySem.W.plainGet_of hg).2 hf (beq_iff_eq.mp ht) (by show(PySem.W.lookIn name od).map (·.isSome)=some false;rw [hl,hv];rfl) h
theorem aN2 {ns:List Str} {Q:Unit->Shared->Prop} (X:K.In s.heap) (I:aFx s.heap x dx C mA)
  (hs:PySem.W.findIn K (.ref C) "__setattr__"=some (some (.builtin "object.__setattr__"))) (hp:PySem.W.plainOver K C=true) (ht:PySem.W.takerIn K C name=some none) (hh:PySem.W.hasDictIn K C=true)
  (hw:PySem.Within mA ns) (hsz:ns.length<=sizeLine)
  (h:∀h',aFx h' x dx C (fun y=>if y=name then some v else mA y)->Heap.SameBut dx s.heap h'->Q () {s with heap:=h',toks:=s.toks+2}):
  wpAny (model prog w) A (setAttr (.ref x) name v) Q E s:=by
 obtain⟨od,J,hl⟩:=I.look
 refine PySem.W.set_plain X J hs (PySem.W.osa_open (s:={s with toks:=s.toks+1}) (r:=none) X J hp ht fun b=>?_)
 obtain⟨cd,hc,hd'⟩:=PySem.W.any_some hh
 have hx:s.heap.get? x=some ⟨.ref C,some dx,.plain, #[]⟩:=I.obj
 refine wpAny_bind (wpAny_pure (wpAny_bind (wpAny_bind (wpAny_loadPart hx (wpAny_bind (PySem.W.Looks.here (s:={s with toks:=s.toks+1}) (PySem.W.looks_clsIn X hc) ?_))))))
 rw [hd']
 refine wpAny_pure (a:=some dx) (wpAny_bind (wpAny_pure (wpAny_bind ?_)))
 refine wpAny_nsSet1 (s:={s with toks:=s.toks+1}) I.ns fun h' hn2 hs2=>?_
 obtain⟨oD,esD,epD,hoD,hdD,hcD⟩:=hn2.count (PySem.Within.cons name v hw)
 refine wpAny_bind (wpAny_lookBehind hoD (by rw [hdD];exact pastItsLine_dict (Nat.le_trans hcD (by rw [List.length_cons];omega))) ?_)
 exact wpAny_pure (h _ ⟨(hs2.2 _ (Ne.symm I.ne)).trans I.obj,hn2,I.ne⟩ hs2)
theorem aI7 {R:Result->Shared->Prop} {vs:List Value} {kw:List (Str×Value)} (X:K.In s.heap) (hm:PySem.W.makesIn K C=true)
  (hi:PySem.W.findIn K (.ref C) "__init__"=some (some (.ref f))) (hf:PySem.W.typeIn K (.ref f)=some (.type "function"))
  (h:codeAny (model prog w) (A.under (.builtin "type.__call__" ⟨.ref C::vs,kw⟩)) (.call (.ref f) ⟨.ref (s.heap.objs.size+1)::vs,kw⟩) (PySem.W.InitBack (s.heap.objs.size+1) R)
   {s with heap:=(s.heap.push PySem.W.emptyDict).push (PySem.W.instObj C s.heap.objs.size)}):
  codeAny (model prog w) A (.call (.ref C) ⟨vs,kw⟩) R s:=by
 obtain⟨hh,g,d,t,os⟩:=s
 exact PySem.W.make_core (PySem.W.makes_of X hm) (PySem.W.looks_findIn X hi) (fun self=>PySem.W.bind_fn X self hf) (.inl rfl) h
end
def jD (f:Str) (v:V):List (Str×V)->List (Str×V)
 | []=>[(f,v)]
 |(g,x)::r=>if g=f then(g,v)::r else(g,x)::jD f v r
theorem vI (f g:Str) (v:V):∀fs:List (Str×V),(jD f v fs).lookup g=if g=f then some v else fs.lookup g
 | []=>by
  show List.lookup g [(f,v)]=_
  by_cases h:g=f
  ·have hb:(g==f)=true:=beq_iff_eq.mpr h
   simp only [List.lookup,hb,if_pos h]
  ·have hb:(g==f)=false:=beq_eq_false_iff_ne.mpr h
   simp only [List.lookup,hb,if_neg h]
 |(k,x)::r=>by
  have ih:=vI f g v r
  rw [show jD f v ((k,x)::r)=(if k=f then(k,v)::r else(k,x)::jD f v r)from rfl]
  by_cases hk:k=f
  ·rw [if_pos hk]
   by_cases h:g=k
   ·have hb:(g==k)=true:=beq_iff_eq.mpr h
    simp only [List.lookup,hb,if_pos (h.trans hk)]
   ·have hb:(g==k)=false:=beq_eq_false_iff_ne.mpr h
    simp only [List.lookup,hb,if_neg (fun e:g=f=>h (e.trans hk.symm))]
  ·rw [if_neg hk]
   by_cases h:g=k
   ·have hb:(g==k)=true:=beq_iff_eq.mpr h
    simp only [List.lookup,hb,if_neg (fun e:g=f=>hk (h.symm.trans e))]
   ·have hb:(g==k)=false:=beq_eq_false_iff_ne.mpr h
    simp only [List.lookup,hb]
    exact ih
theorem uP (f:Str) (v:V):∀fs:List (Str×V),f∈(jD f v fs).map (·.1)/\∀g,g∈fs.map (·.1)->g∈(jD f v fs).map (·.1)
 | []=>⟨by simp [jD],fun g h=>by simp at h⟩
 |(k,x)::r=>by
  obtain⟨i1,i2⟩:=uP f v r
  rw [show jD f v ((k,x)::r)=(if k=f then(k,v)::r else(k,x)::jD f v r)from rfl]
  by_cases hk:k=f
  ·rw [if_pos hk]
   subst hk
   exact⟨by simp,fun g h=>by simpa using h⟩
  ·rw [if_neg hk]
   refine⟨?_,fun g h=>?_⟩
   ·rw [List.map_cons]
    exact List.mem_cons_of_mem _ i1
   ·rw [List.map_cons]at h⊢
    rcases List.mem_cons.mp h with e|e
    ·exact List.mem_cons.mpr (.inl e)
    ·exact List.mem_cons_of_mem _ (i2 g e)
theorem vD (f:Str) (v:V):∀fs:List (Str×V),(jD f v fs).length<=fs.length+1
 | []=>by simp [jD]
 |(k,x)::r=>by
  have ih:=vD f v r
  rw [show jD f v ((k,x)::r)=(if k=f then(k,v)::r else(k,x)::jD f v r)from rfl]
  by_cases hk:k=f
  ·rw [if_pos hk,List.length_cons,List.length_cons];omega
  ·rw [if_neg hk,List.length_cons,List.length_cons];omega
theorem qX.some_of {v:V} {o:Option Value} (r:qX (some v) o):∃u,o=some u/\RelV v u:=by
 cases o with
 |none=>exact(show False from r).elim
 |some u=>exact⟨u,rfl,r⟩
theorem qX.none_of {o:Option Value} (r:qX none o):o=none:=by
 cases o with
 |none=>rfl
 |some u=>exact(show False from r).elim
theorem aH9 {v:V} {u:Value} (r:RelV v u):PySem.W.handedIn u=true:=by
 cases v with
 |non=>cases (show u=Value.none from r);rfl
 |bl b=>cases (show u=Value.bool b from r);rfl
 |int i=>obtain⟨t,e⟩:=(show∃t,u=Value.int i t from r);cases e;rfl
 |str x=>obtain⟨t,e⟩:=(show∃t,u=Value.str x t from r);cases e;rfl
 |byt b=>obtain⟨t,e⟩:=(show∃t,u=Value.bytes b t from r);cases e;rfl
 |flt b=>obtain⟨t,e⟩:=(show∃t,u=Value.float b t from r);cases e;rfl
 |ref a=>cases (show u=Value.ref a from r);rfl
 |ty n=>cases (show u=Value.type n from r);rfl
section
variable {P:Program} {w:World} {H H':Hp} {h h':Heap} {a C dx:Addr} {fs fs':List (Str×V)}
theorem wJ (hok:HOk P w H h) (e:H a=some (.ins C dx fs)):∃mA,aFx h a dx C mA/\(∀f,qX (fs.lookup f) (mA f))/\PySem.Within mA (fs.map (·.1))/\fs.length<=1000/\H dx=some (.own a):=by
 obtain⟨d,z,ne,ob,mA,n,r,q⟩:=(show cQ P w H h a (.ins C dx fs)from hok a _ e)
 exact⟨mA,⟨ob,n,ne⟩,r,q,z,d⟩
end
structure Cls (K:PySem.W.Frag) (C:Addr):Prop where
 pg:PySem.W.plainGet K C Str.empty=true
 hd:PySem.W.hasDictIn K C=true
 po:PySem.W.plainOver K C=true
 sa:PySem.W.findIn K (.ref C) "__setattr__"=some (some (.builtin "object.__setattr__"))
theorem Cls.get {K:PySem.W.Frag} {C:Addr} (c:Cls K C) (f:Str):PySem.W.plainGet K C f=true:=c.pg
def iU (K:PySem.W.Frag) (C:Addr) (f:Str):Prop:=PySem.W.findIn K (.ref C) f=some none
theorem iU.taker {K:PySem.W.Frag} {C:Addr} {f:Str} (n:iU K C f):PySem.W.takerIn K C f=some none:=by
 unfold PySem.W.takerIn
 rw [show PySem.W.findIn K (.ref C) f=some none from n]
 rfl
structure Meth (K:PySem.W.Frag) (C:Addr) (m:Str) (f:Addr):Prop where
 at_:PySem.W.findIn K (.ref C) m=some (some (.ref f))
 fn:PySem.W.isFn K (.ref f)=true
 kp:PySem.W.keepIn K (.ref f)=true
section
variable {X:Cx} {pins:List (Addr×Obj)} {σ:St} {H:Hp} {s:Shared} {a C dx:Addr} {fs:List (Str×V)} {f:Str} {v:V} {A:Around} {E:Value->Shared->Prop}
theorem aFq {b:Bool} {Q:Value->Shared->Prop} (I:Inv X pins σ H s) (e:H a=some (.ins C dx fs)) (c:Cls X.K C) (n:iU X.K C f) (l:fs.lookup f=some v)
  (h:∀u s',Inv X pins σ H s'->RelV v u->Q u s'):wpAny (model X.prog X.w) A (getAttr (.ref a) f b) Q E s:=by
 obtain⟨mA,O,r,_,_,_⟩:=wJ I.hok e
 obtain⟨u,hu,ru⟩:=qX.some_of (v:=v) (o:=mA f) (by rw [<-l];exact r f)
 exact aBp I.kIn O (c.get f) c.hd n hu (aH9 ru) (h u _ (I.tok _) ru)
theorem yG {m:Str} {g:Addr} {pl:Sem Bool} {Q:Value×List Value->Shared->Prop} (I:Inv X pins σ H s) (e:H a=some (.ins C dx fs)) (c:Cls X.K C) (k:Meth X.K C m g) (l:fs.lookup m=none)
  (h:Q (.ref g,[.ref a]) s):wpAny (model X.prog X.w) A (getMethod (.ref a) m pl) Q E s:=by
 obtain⟨mA,O,r,_,_,_⟩:=wJ I.hok e
 have hn:mA m=none:=qX.none_of (by rw [<-l];exact r m)
 exact aLl I.kIn O (c.get m) k.at_ k.fn hn h
theorem aE6 {y:V} {u:Value} {Q:Unit->Shared->Prop} (I:Inv X pins σ H s) (e:H a=some (.ins C dx fs)) (c:Cls X.K C) (n:iU X.K C f) (hl:fs.length<1000) (ry:RelV y u)
  (h:∀s',Inv X pins σ (upd H a (.ins C dx (jD f y fs))) s'->Q () s'):wpAny (model X.prog X.w) A (setAttr (.ref a) f u) Q E s:=by
 obtain⟨mA,O,r,wi,_,ho⟩:=wJ I.hok e
 have hz:(fs.map (·.1)).length<=sizeLine:=by rw [List.length_map,sizeLine_eq];omega
 refine aN2 I.kIn O c.sa c.po n.taker c.hd wi hz fun h' O' sb=>h _ ?_
 have hd:∃o,h'.get? dx=some o:=let⟨o,_,_,e',_⟩:=O'.ns;⟨o,e'⟩
 refine I.write (x:=a) (e:=dx) (by rw [e];exact True.intro) (.inr ho) (fun b q hb z=>(sb.2 b hb).trans z) hd ?_
 refine⟨by rw [aQ O.ne];exact ho,?_,O.ne,O'.obj,_,O'.ns,fun g=>?_,fun g hg=>?_⟩
 ·have:=vD f y fs;omega
 ·show qX ((jD f y fs).lookup g) (if g=f then some u else mA g)
  rw [vI]
  by_cases q:g=f
  ·rw [if_pos q,if_pos q];exact ry
  ·rw [if_neg q,if_neg q];exact r g
 ·by_cases q:g=f
  ·rw [q];exact(uP f y fs).1
  ·refine(uP f y fs).2 g (wi g fun z=>hg ?_)
   show(if g=f then some u else mA g)=none
   rw [if_neg q];exact z
theorem Inv.made (I:Inv X pins σ H s):Inv X pins σ (upd (upd H s.heap.objs.size (.own (s.heap.objs.size+1))) (s.heap.objs.size+1) (.ins C s.heap.objs.size []))
  {s with heap:=(s.heap.push PySem.W.emptyDict).push (PySem.W.instObj C s.heap.objs.size)}:=by
 have e1:(s.heap.push PySem.W.emptyDict).get? s.heap.objs.size=some PySem.W.emptyDict:=Heap.get?_push_size s.heap rfl
 have e2:((s.heap.push PySem.W.emptyDict).push (PySem.W.instObj C s.heap.objs.size)).get? (s.heap.objs.size+1)=some (PySem.W.instObj C s.heap.objs.size):=by
  have:=Heap.get?_push_size (s.heap.push PySem.W.emptyDict) (o:=PySem.W.instObj C s.heap.objs.size) rfl
  rwa [Heap.size_push]at this
 have e3:(s.heap.push PySem.W.emptyDict).Ns s.heap.objs.size (fun _=>none):=⟨PySem.W.emptyDict, #[],_,e1,rfl,(fun e he=>absurd he (by simp)),fun _=>rfl⟩
 have I1:=I.laid (a:=s.heap.objs.size) (o:= .own (s.heap.objs.size+1)) (h':=s.heap.push PySem.W.emptyDict) (t':=s.toks) (fun b u q=>Heap.get?_push_of_some _ q) (Nat.le_refl _) ⟨_,e1⟩
 refine I1.laid (a:=s.heap.objs.size+1) (o:= .ins C s.heap.objs.size []) (t':=s.toks) (fun b u q=>Heap.get?_push_of_some _ q) (Nat.le_of_eq (Heap.size_push _ _)) ?_
 have ne:s.heap.objs.size≠s.heap.objs.size+1:=Nat.ne_of_lt (Nat.lt_succ_self _)
 refine⟨by rw [aQ ne,aJ],Nat.zero_le _,ne,e2,fun _=>none,(Heap.Ns1.of_empty e3).at fun o q=>Heap.get?_push_of_some _ q,fun _=>True.intro,fun y hy=>absurd rfl hy⟩
theorem aM2 {prog:Program} {w:World} {env:Env} {e:Expr} {f:Str} {pos:Pos} {s:Shared} {Q:Value->Shared->Prop} (hb:attributeBase e f env (eval e env)=eval e env)
  (h:wpAny (model prog w) A (eval e env) (fun o s₁=>wpAny (model prog w) A (getAttr o f true) Q E s₁) E s):wpAny (model prog w) A (eval (.Attribute e f pos) env) Q E s:=
 Attribute_any_ h (by rw [arm_eval_Attribute,hb])
end
def aUh (K:PySem.W.Frag) (ta:TE) (f:Str):TE:=fun σ H Q=>ta σ H fun x H1=>∃a C dx fs v,x= .ref a/\H1 a=some (.ins C dx fs)/\Cls K C/\iU K C f/\fs.lookup f=some v/\Q v H1
def aT9 (K:PySem.W.Frag) (ta tv:TE) (f:Str):TS:=fun D σ H=>tv σ H fun y H1=>ta σ H1 fun x H2=>∃a C dx fs,x= .ref a/\H2 a=some (.ins C dx fs)/\Cls K C/\iU K C f/\fs.length<1000/\
 D.nx σ (upd H2 a (.ins C dx (jD f y fs)))
section
variable {X:Cx} {o e value:Expr} {f:Str} {pos pos' tpos:Pos} {ta tv:TE}
theorem lC (he:PE X e ta) (hb:attributeBase e f X.env (eval e X.env)=eval e X.env):PE X (.Attribute e f pos) (aUh X.K ta f):=by
 intro pins s σ H Q I h
 refine aM2 hb (thn (he pins s σ H _ I h) fun u s1 ⟨x,H1,I1,rx,a,C,dx,fs,v,ex,ea,c,n,l,q⟩=>?_)
 subst ex
 obtain rfl:u=Value.ref a:=rx
 exact aFq I1 ea c n l fun u' s2 I2 ru=>⟨v,H1,I2,ru,q⟩
theorem cW (ha:PE X o ta) (hv:PE X value tv) (hs:swapsWith value (some (.Attribute o f pos')) pos.line X.env=pure false):PS X (.Assign [.Attribute o f pos'] value pos) (aT9 X.K ta tv f):=by
 intro pins s σ H D I h
 refine plainObj_wpAny_Assign_Attribute (thn (hv pins s σ H _ I h) fun u s1 ⟨y,H1,I1,ry,q⟩=>thn (ha pins s1 σ H1 _ I1 q) fun ov s2 ⟨x,H2,I2,rx,a,C,dx,fs,ex,ea,c,n,l,q2⟩=>?_) hs
 subst ex
 obtain rfl:ov=Value.ref a:=rx
 exact aE6 I2 ea c n l ry fun s3 I3=>⟨σ,_,I3,q2⟩
end
section
variable {X:Cx} {pins:List (Addr×Obj)} {σ:St} {H:Hp} {s:Shared} {A:Around} {E:Value->Shared->Prop} {Q:Value->Shared->Prop} {c:Value} {b:Bool}
inductive tQ (K:PySem.W.Frag) (H:Hp):V->Value->Prop where
 |non:tQ K H .non (.type "NoneType")
 |bl (x:Bool):tQ K H (.bl x) (.type "bool")
 |int (i:Int):tQ K H (.int i) (.type "int")
 |str (x:Str):tQ K H (.str x) (.type "str")
 |flt (x:UInt64):tQ K H (.flt x) (.type "float")
 |lst {a:Addr} {xs:List V} (e:H a=some (.lst xs)):tQ K H (.ref a) (.type "list")
 |frz {a:Addr} {o:Obj} {xs:List V} (e:H a=some (.frz o (.lst xs))):tQ K H (.ref a) (.type "list")
 |tup {a:Addr} {xs:List V} (e:H a=some (.tup xs)):tQ K H (.ref a) (.type "tuple")
 |dK {a:Addr} {kvs:List (Key×V)} (e:H a=some (.dK kvs)):tQ K H (.ref a) (.type "dict")
 |dT {a:Addr} {kvs:List (List Key×V)} (e:H a=some (.dT kvs)):tQ K H (.ref a) (.type "dict")
 |ins {a C dx:Addr} {fs:List (Str×V)} (e:H a=some (.ins C dx fs)) (cl:Cls K C) (ha:PySem.W.findIn K (.ref C) "__class__"=some (some (.builtin "object.__class__")))
   (hn:PySem.W.specialIn K (.builtin "object.__class__") "__get__"=some (some (.builtin "getset_descriptor.__get__"))) (htk:PySem.W.takesIn K (.builtin "object.__class__")=some true)
   (hm:PySem.W.mroIn K C (.type "object")=some true):tQ K H (.ref a) (.ref C)
theorem aIj {x:V} {u t:Value} (I:Inv X pins σ H s) (rx:RelV x u) (ty:tQ X.K H x t) (e:PySem.W.kitOne X.K t c=some b) (h:∀tk,Q (.bool b) {s with toks:=tk}):
  wpAny (model X.prog X.w) A (call (.builtin "isinstance") [u,c]) Q E s:=by
 cases ty with
 |non=>cases (show u=Value.none from rx);exact PySem.W.kia_one PySem.W.kitx_none I.kIn True.intro e (fun z=>nomatch z) h
 |bl y=>cases (show u=Value.bool y from rx);exact PySem.W.kia_one PySem.W.kitx_bool I.kIn True.intro e (fun z=>nomatch z) h
 |int i=>obtain⟨t,q⟩:=(show∃t,u=Value.int i t from rx);cases q;exact PySem.W.kia_one PySem.W.kitx_int I.kIn True.intro e (fun z=>nomatch z) h
 |str y=>obtain⟨t,q⟩:=(show∃t,u=Value.str y t from rx);cases q;exact PySem.W.kia_one PySem.W.kitx_str I.kIn True.intro e (fun z=>nomatch z) h
 |flt y=>obtain⟨t,q⟩:=(show∃t,u=Value.float y t from rx);cases q;exact PySem.W.kia_one PySem.W.kitx_float I.kIn True.intro e (fun z=>nomatch z) h
 |@lst a xs ea=>
  cases (show u=Value.ref a from rx)
  obtain⟨_,_,n,_,h1⟩:=(show cQ X.prog X.w H s.heap a (.lst xs)from I.hok a _ ea)
  exact PySem.W.kia_one PySem.W.kitx_list I.kIn ⟨_,h1,rfl⟩ e (fun z=>nomatch z) h
 |@frz a ob xs ea=>
  cases (show u=Value.ref a from rx)
  obtain⟨_,_,_,n,_,h1⟩:=(show cQ X.prog X.w H s.heap a (.frz ob (.lst xs))from I.hok a _ ea)
  exact PySem.W.kia_one PySem.W.kitx_list I.kIn ⟨_,h1,rfl⟩ e (fun z=>nomatch z) h
 |@tup a xs ea=>
  cases (show u=Value.ref a from rx)
  obtain⟨_,_,_,p⟩:=(show cQ X.prog X.w H s.heap a (.tup xs)from I.hok a _ ea)
  obtain⟨o,h1,h2,_⟩:=p
  exact PySem.W.kia_one PySem.W.kitx_tuple I.kIn ⟨o,h1,h2⟩ e (fun z=>nomatch z) h
 |@dK a kvs ea=>
  cases (show u=Value.ref a from rx)
  obtain⟨_,_,vs,_,p⟩:=(show cQ X.prog X.w H s.heap a (.dK kvs)from I.hok a _ ea)
  obtain⟨o,es,ep,h1,h2,_⟩:=p
  exact PySem.W.kia_one PySem.W.kitx_dict I.kIn ⟨o,h1,h2.1⟩ e (fun z=>nomatch z) h
 |@dT a kvs ea=>
  cases (show u=Value.ref a from rx)
  obtain⟨_,_,xs,_,o,es,ep,h1,h2,_⟩:=(show cQ X.prog X.w H s.heap a (.dT kvs)from I.hok a _ ea)
  exact PySem.W.kia_one PySem.W.kitx_dict I.kIn ⟨o,h1,h2.1⟩ e (fun z=>nomatch z) h
 |@ins a C dx fs ea cl ha hn htk hm=>
  cases (show u=Value.ref a from rx)
  obtain⟨mA,O,_⟩:=wJ I.hok ea
  obtain⟨od,J,_⟩:=O.look
  exact PySem.W.kia_one (PySem.W.kitx_own (cl.get _) cl.hd ha hn htk hm) I.kIn J e (fun z=>nomatch z) h
end
end L2
namespace L2
open PySem PySem.Spec PyProof.Rows
structure eY (k:Nat) (A:Around):Prop where
 hd:A.handled=none
 dp:A.depth+3*k+5<recursionLimit
 un:A.units+16*k+200<cLine
theorem eY.mono {j k:Nat} {A:Around} (r:eY k A) (h:j<=k):eY j A:=⟨r.hd,by have:=r.dp;omega,by have:=r.un;omega⟩
theorem eY.deeper {k:Nat} {A:Around} (r:eY (k+1) A) (env:Env):eY k (A.deeper env):=
 ⟨r.hd,by have:=r.dp;show A.depth+1+3*k+5<_;omega,by have:=r.un;show A.units+3+16*k+200<_;omega⟩
theorem aF6 {A:Around} {C:Addr} {us:List Value} {kw:List (Str×Value)}:(A.under (.builtin "type.__call__" ⟨.ref C::us,kw⟩)).depth=A.depth+1:=by
 first|rfl|simp [Around.under,Code.weight,Code.isCreation,Code.isGuard,Code.isCaller,Code.frames,Code.isFrame,guardIds]
theorem aFo {A:Around} {C:Addr} {us:List Value} {kw:List (Str×Value)}:(A.under (.builtin "type.__call__" ⟨.ref C::us,kw⟩)).units=A.units+1:=by
 first|rfl|simp [Around.under,Code.cUnits,Code.frames,Code.isFrame]
theorem eY.make {k:Nat} {A:Around} (r:eY (k+1) A) (C:Addr) (us:List Value) (kw:List (Str×Value)):eY k (A.under (.builtin "type.__call__" ⟨.ref C::us,kw⟩)):=
 ⟨r.hd,by have:=r.dp;rw [aF6];omega,by have:=r.un;rw [aFo];omega⟩
theorem eY.depth {k:Nat} {A:Around} (r:eY k A):A.depth<recursionLimit:=by have:=r.dp;omega
theorem eY.units {k:Nat} {A:Around} (r:eY k A):A.units+64<cLine:=by have:=r.un;omega
def aNt:TA:=fun _ H Q=>Q [] H
def aMk (ta:TE) (tr:TA):TA:=fun σ H Q=>ta σ H fun x H1=>tr σ H1 fun xs H2=>Q (x::xs) H2
section
variable {X:Cx} {e:Expr} {es:List Expr} {te:TE} {t:TA} {pos:Pos}
theorem aX:PA X [] aNt:=fun _ _ _ _ H Q I h=>Calls.spliced_nil ⟨[],H,I,.nil,h⟩
theorem aL (ha:PE X e te) (hr:PA X es t) (hs:starEach (e::es) X.env=(false,eval e X.env)::starEach es X.env:=by rfl):PA X (e::es) (aMk te t):=by
 intro pos pins s σ H Q I h
 rw [hs]
 show wpAny _ _ (spliced ((false,eval e X.env)::backTo pos (starEach es X.env))) _ _ s
 refine Calls.spliced_cons (thn (ha pins s σ H _ I h) fun u s1 ⟨x,H1,I1,r1,q1⟩=>?_)
 exact thn (hr pos pins s1 σ H1 _ I1 q1) fun us s2 ⟨xs,H2,I2,r2,q2⟩=>⟨x::xs,H2,I2,.cons r1 r2,q2⟩
def aUj (t:TA):TE:=fun σ H Q=>t σ H fun xs H1=>xs.length<=sizeLine/\∀p,H1 p=none->Q (.ref p) (upd H1 p (.tup xs))
def aUo (t:TA):TE:=fun σ H Q=>t σ H fun xs H1=>xs.length<=sizeLine/\∀p,H1 p=none->Q (.ref p) (upd H1 p (.lst xs))
theorem aQs {x1} (h:PA X es t):PE X (.Tuple es x1 pos) (aUj t):=by
 intro pins s σ H Q I hq
 refine wpAny_Tuple_spliced (thn (h pos pins s σ H _ I hq) fun us s1 ⟨xs,H1,I1,r,z,q⟩=>⟨by rw [<-r.length];exact z,?_⟩)
 have hf:H1 s1.heap.objs.size=none:=I1.hok.fresh (Nat.le_refl _)
 refine⟨.ref s1.heap.objs.size,upd H1 s1.heap.objs.size (.tup xs),I1.laid (t':=s1.toks) (fun b u e=>Heap.get?_push_of_some _ e) (Nat.le_refl _) ?_,rfl,q _ hf⟩
 exact⟨z,us,r,⟨_,Heap.get?_push_size _ rfl,rfl,_,rfl⟩⟩
theorem aKt (h:PA X es t):PE X (.List es pos) (aUo t):=by
 intro pins s σ H Q I hq
 refine wpAny_List_spliced (thn (h pos pins s σ H _ I hq) fun us s1 ⟨xs,H1,I1,r,z,q⟩=>⟨by rw [<-r.length];exact z,?_⟩)
 have hf:H1 s1.heap.objs.size=none:=I1.hok.fresh (Nat.le_refl _)
 refine⟨.ref s1.heap.objs.size,upd H1 s1.heap.objs.size (.lst xs),I1.laid (t':=s1.toks) (fun b u e=>Heap.get?_push_of_some _ e) (Nat.le_refl _) ?_,rfl,q _ hf⟩
 exact⟨z,us,0,r,Heap.get?_push_size _ rfl⟩
end
abbrev Sp:=List V->Hp->VK->XK->Prop
abbrev CXT:=List Env->Hp->Shared->XK->Value->Shared->Prop
structure aE3 (P:Program) (w:World) (K:PySem.W.Frag) (mg:Str->Option Value) (base:Heap) (A:Around) (outer:List Env) (s:Shared) (H:Hp):Prop where
 frames:A.frames=some outer
 mod:Mod K mg base
 bs:∀b o,base.get? b=some o->s.heap.get? b=some o/\H b=none
 bsz:base.objs.size<=s.heap.objs.size
 funs:s.heap.FunFrames base outer
 frf:∀b∈frs outer,H b=none
 hok:HOk P w H s.heap
 bare:AllBare s.gens
def CE (outer:List Env) (P:Program) (w:World) (H:Hp) (s:Shared) (Q:VK) (u:Value) (s':Shared):Prop:=
 ∃v H',s'.os=s.os/\AllBare s'.gens/\Un (frs outer) [] H H' s.heap s'.heap/\HOk P w H' s'.heap/\RelV v u/\Q v H'
def CR (CX:CXT) (outer:List Env) (P:Program) (w:World) (H:Hp) (s:Shared) (Q:VK) (E:XK) (r:Result) (s':Shared):Prop:=
 match r with
 | .ok (.ret u)=>CE outer P w H s Q u s'
 | .ok _=>False
 | .error e=>CX outer H s E e s'
structure bB (P:Program) (w:World) (K:PySem.W.Frag) (mg:Str->Option Value) (base:Heap) (CX:CXT) (k:Nat) (f:Addr) (fd:FuncData) (ps:List Str) (sp:Sp):Prop where
 len:∀vs H Q E,sp vs H Q E->vs.length=ps.length
 run:∀(A:Around) (outer:List Env) (s:Shared) (H:Hp) (args:Args) (us:List Value) (vs:List V) (Q:VK) (E:XK),eY k A->aE3 P w K mg base A outer s H->BindsTo s fd args (ps.zip us)->Vals vs us->sp vs H Q E->
  codeAny (model P w) A (.call (.ref f) args) (CR CX outer P w H s Q E) s
theorem bB.mono {P:Program} {w:World} {K:PySem.W.Frag} {mg:Str->Option Value} {base:Heap} {CX:CXT} {j k:Nat} {f:Addr} {fd:FuncData} {ps:List Str} {sp:Sp} (F:bB P w K mg base CX j f fd ps sp) (h:j<=k):
  bB P w K mg base CX k f fd ps sp:=⟨F.len,fun A outer s H args us vs Q E hr=>F.run A outer s H args us vs Q E (hr.mono h)⟩
theorem bB.imp {P:Program} {w:World} {K:PySem.W.Frag} {mg:Str->Option Value} {base:Heap} {CX:CXT} {k:Nat} {f:Addr} {fd:FuncData} {ps:List Str} {sp sp':Sp} (F:bB P w K mg base CX k f fd ps sp)
  (h:∀vs H Q E,sp' vs H Q E->sp vs H Q E):bB P w K mg base CX k f fd ps sp':=
 ⟨fun vs H Q E q=>F.len vs H Q E (h _ _ _ _ q),fun A outer s H args us vs Q E hr he hb hv hs=>F.run A outer s H args us vs Q E hr he hb hv (h _ _ _ _ hs)⟩
theorem aE3.make {P:Program} {w:World} {K:PySem.W.Frag} {mg:Str->Option Value} {base:Heap} {A:Around} {outer:List Env} {s:Shared} {H:Hp} (e:aE3 P w K mg base A outer s H) (C:Addr) (us:List Value) (kw:List (Str×Value)):
  aE3 P w K mg base (A.under (.builtin "type.__call__" ⟨.ref C::us,kw⟩)) outer s H:=⟨by first|exact e.frames|(simpa [Around.under,Code.envs,Code.isFrame,pushEnvs]using e.frames),e.mod,e.bs,e.bsz,e.funs,e.frf,e.hok,e.bare⟩
section
variable {X:Cx} {pins:List (Addr×Obj)} {σ:St} {H:Hp} {s s':Shared}
theorem Inv.env0 (I:Inv X pins σ H s):aE3 X.prog X.w X.K X.mg X.base X.A X.stack s H:=
 ⟨I.ok.frames,I.ok.mod,I.bs,Nat.le_trans I.ok.bsz I.sz,I.stack,I.stkFree,I.hok,I.bare⟩
theorem Inv.after {Q:VK} {u:Value} (I:Inv X pins σ H s) (h:CE X.stack X.prog X.w H s Q u s'):EP X pins σ Q u s':=by
 obtain⟨v,H',os,bare,un,hok,r,q⟩:=h
 obtain⟨hh,g,d,t,os'⟩:=s'
 obtain rfl:os'=s.os:=os
 exact⟨v,H',I.call (h':=hh) (g':=g) (d':=d) (t':=t) (ch:=[]) un hok bare (fun b z=>absurd z (by simp)),r,q⟩
end
def aOt (sp:Sp) (dvs:List V) (E:XK) (t:TA):TE:=fun σ H Q=>t σ H fun vs H1=>sp (vs++dvs) H1 Q E
def aOe (C:Addr) (sp:Sp) (dvs:List V) (E:XK) (t:TA):TE:=fun σ H Q=>t σ H fun vs H1=>∀x dx,H1 x=none->H1 dx=none->dx≠x->
 sp (.ref x::(vs++dvs)) (upd (upd H1 dx (.own x)) x (.ins C dx [])) (fun v H2=>v= .non/\Q (.ref x) H2) E
def Binds (K:PySem.W.Frag) (fd:FuncData) (ps:List Str) (ds:List Value):Prop:=
 ∀(s:Shared) (us:List Value),K.In s.heap->(us++ds).length=ps.length->BindsTo s fd ⟨us,[]⟩ (ps.zip (us++ds))
theorem Binds.all {K:PySem.W.Frag} {fd:FuncData} {ps:List Str} (h:∀us:List Value,us.length=ps.length->bindArgs fd ⟨us,[]⟩=pure (ps.zip us)):Binds K fd ps []:=fun s us _ hl=>by
 rw [List.append_nil]at hl⊢
 exact .of_eq (h us hl)
def oE (CX:CXT) (X:Cx) (E:XK):Prop:=∀(pins:List (Addr×Obj)) (σ:St) (H:Hp) (s:Shared) (e:Value) (s':Shared),Inv X pins σ H s->CX X.stack H s E e s'->X.xe e s'
section
variable {X:Cx} {CX:CXT} {k:Nat} {f C:Addr} {fd:FuncData} {ps:List Str} {sp:Sp} {dvs:List V} {ds:List Value} {E:XK} {x m:Str} {p pos apos:Pos} {e o:Expr} {es:List Expr} {ta:TE} {t:TA}
theorem aEq {pins:List (Addr×Obj)} {σ:St} {H:Hp} {s:Shared} {Q:VK} {us:List Value} {vs:List V} (F:bB X.prog X.w X.K X.mg X.base CX k f fd ps sp) (hr:eY k X.A) (hb:Binds X.K fd ps ds) (hd:Vals dvs ds) (hx:oE CX X E)
  (I:Inv X pins σ H s) (r:Vals vs us) (h:sp (vs++dvs) H Q E):wpAny (model X.prog X.w) X.A (call (.ref f) us) (EP X pins σ Q) X.xe s:=by
 have r2:Vals (vs++dvs) (us++ds):=r.append hd
 have hl:(us++ds).length=ps.length:=by rw [<-r2.length];exact F.len _ _ _ _ h
 refine wpAny_call (codeAny_mono (F.run X.A X.stack s H ⟨us,[]⟩ (us++ds) (vs++dvs) Q E hr I.env0 (hb s us I.kIn hl) r2 h) fun r s' hq=>?_)
 cases r with
 |error e=>exact hx pins σ H s e s' I hq
 |ok fl=>
  cases fl with
  |ret u=>exact I.after hq
  |next=>exact False.elim hq
  |brk=>exact False.elim hq
  |cont=>exact False.elim hq
theorem aNd (F:bB X.prog X.w X.K X.mg X.base CX k f fd ps sp) (hr:eY k X.A) (hg:Gl X x) (hm:X.mg x=some (.ref f)) (hk:PySem.W.keepIn X.K (.ref f)=true) (hb:Binds X.K fd ps ds) (hd:Vals dvs ds) (hx:oE CX X E)
  (ha:PA X (e::es) t) (hdb:(x==("__debug__":Str))=false:=by decide) (he:starEach (e::es) X.env=(false,eval e X.env)::starEach es X.env:=by rfl) (hpl:(backTo pos (starEach es X.env)).any (·.1)=false:=by rfl):
  PE X (.Call (.Name x p) (e::es) [] pos) (aOt sp dvs E t):=by
 intro pins s σ H Q I h
 refine wpAny_Call_Name_kw (aCu I hg hm ?_ hdb)
 refine PySem.W.callWith_K (h₀:=X.base) I.ok.mod.kin hk (thn (ha pos pins s σ H _ I h) fun us s1 ⟨vs,H1,I1,r,q⟩=>⟨I1.kIn,?_⟩) he hpl
 exact aEq F hr hb hd hx I1 r q
structure Mk (K:PySem.W.Frag) (C f:Addr):Prop where
 makes:PySem.W.makesIn K C=true
 init:PySem.W.findIn K (.ref C) "__init__"=some (some (.ref f))
 fn:PySem.W.isFn K (.ref f)=true
 kp:PySem.W.keepIn K (.ref C)=true
theorem aI8 {pins:List (Addr×Obj)} {σ:St} {H:Hp} {s:Shared} {Q:VK} {us:List Value} {vs:List V} (M:Mk X.K C f) (F:bB X.prog X.w X.K X.mg X.base CX k f fd ps sp) (hr:eY (k+1) X.A) (hb:Binds X.K fd ps ds) (hd:Vals dvs ds)
  (hx:oE CX X E) (I:Inv X pins σ H s) (r:Vals vs us)
  (h:∀x dx,H x=none->H dx=none->dx≠x->sp (.ref x::(vs++dvs)) (upd (upd H dx (.own x)) x (.ins C dx [])) (fun v H2=>v= .non/\Q (.ref x) H2) E):
  wpAny (model X.prog X.w) X.A (call (.ref C) us) (EP X pins σ Q) X.xe s:=by
 have hq:=h (s.heap.objs.size+1) s.heap.objs.size (I.hok.fresh (Nat.le_succ _)) (I.hok.fresh (Nat.le_refl _)) (Nat.ne_of_lt (Nat.lt_succ_self _))
 have I2:=Inv.made (C:=C) I
 have r2:Vals (V.ref (s.heap.objs.size+1)::(vs++dvs)) (Value.ref (s.heap.objs.size+1)::(us++ds)):= .cons rfl (r.append hd)
 have hl:(Value.ref (s.heap.objs.size+1)::us++ds).length=ps.length:=by
  have e:=r2.length
  rw [F.len _ _ _ _ hq]at e
  exact e.symm
 refine wpAny_call (aI7 (f:=f) I.kIn M.makes M.init (beq_iff_eq.mp M.fn) (codeAny_mono (F.run _ X.stack _ _ ⟨Value.ref (s.heap.objs.size+1)::us,[]⟩ (Value.ref (s.heap.objs.size+1)::(us++ds)) _ _ E (hr.make C us [])
  (I2.env0.make C us []) (hb _ (Value.ref (s.heap.objs.size+1)::us) I2.kIn hl) r2 hq) fun r s' hq'=>?_))
 cases r with
 |error e=>exact hx pins σ _ _ e s' I2 hq'
 |ok fl=>
  cases fl with
  |ret u=>
   obtain⟨v,H',I3,rv,ev,q3⟩:=I2.after hq'
   subst ev
   exact⟨rv,⟨V.ref (s.heap.objs.size+1),H',I3,rfl,q3⟩⟩
  |next=>exact False.elim hq'
  |brk=>exact False.elim hq'
  |cont=>exact False.elim hq'
theorem aGv (M:Mk X.K C f) (F:bB X.prog X.w X.K X.mg X.base CX k f fd ps sp) (hr:eY (k+1) X.A) (hg:Gl X x) (hm:X.mg x=some (.ref C)) (hb:Binds X.K fd ps ds) (hd:Vals dvs ds) (hx:oE CX X E)
  (ha:PA X (e::es) t) (hdb:(x==("__debug__":Str))=false:=by decide) (he:starEach (e::es) X.env=(false,eval e X.env)::starEach es X.env:=by rfl) (hpl:(backTo pos (starEach es X.env)).any (·.1)=false:=by rfl):
  PE X (.Call (.Name x p) (e::es) [] pos) (aOe C sp dvs E t):=by
 intro pins s σ H Q I h
 refine wpAny_Call_Name_kw (aCu I hg hm ?_ hdb)
 refine PySem.W.callWith_K (h₀:=X.base) I.ok.mod.kin M.kp (thn (ha pos pins s σ H _ I h) fun us s1 ⟨vs,H1,I1,r,q⟩=>⟨I1.kIn,?_⟩) he hpl
 exact aI8 M F hr hb hd hx I1 r q
end
def PK (X:Cx) (kws:List Keyword) (t:TA):Prop:=
 ∀(pos:Pos) (pins:List (Addr×Obj)) (s:Shared) (σ:St) (H:Hp) (Q:List V->Hp->Prop),Inv X pins σ H s->t σ H Q->wpAny (model X.prog X.w) X.A (evalAll ((backToKw pos (keywordEach kws X.env)).map (·.2))) (AP X pins σ Q) X.xe s
section
variable {X:Cx} {CX:CXT} {k:Nat} {f C:Addr} {fd:FuncData} {ps ks:List Str} {sp:Sp} {E:XK} {x m:Str} {p pos apos kpos:Pos} {e o:Expr} {es:List Expr} {kws:List Keyword} {te ta:TE} {t tk:TA} {nm:Option Str}
theorem aRe:PK X [] aNt:=fun _ _ _ _ H Q I h=>wpAny_evalAll_nil ⟨[],H,I,.nil,h⟩
theorem aMt (ha:PE X e te) (hr:PK X kws t):PK X (⟨nm,e,kpos⟩::kws) (aMk te t):=by
 intro pos pins s σ H Q I h
 show wpAny _ _ (evalAll ((do let v<-eval e X.env;standAt pos;pure v)::(backToKw pos (keywordEach kws X.env)).map (·.2))) _ _ s
 refine wpAny_evalAll_cons (wpAny_bind (thn (ha pins s σ H _ I h) fun u s1 ⟨x,H1,I1,r1,q1⟩=>wpAny_bind (wpAny_standAt (wpAny_pure ?_))))
 exact thn (hr pos pins s1 σ H1 _ I1 q1) fun us s2 ⟨xs,H2,I2,r2,q2⟩=>⟨x::xs,H2,I2,.cons r1 r2,q2⟩
variable {g:List Value->List Value->List Value} {gV:List V->List V->List V}
end
structure aM (N P:List Str) (sc:Scope):Prop where
 kind:sc.kind= .function
 co:sc.isCoroutine=false
 gen:sc.isGenerator=false
 nd:N.Nodup
 pre:N.take P.length=P
 par:∀x∈P,sc.names.lookup x=some .local∨sc.names.lookup x=some .cell
 nofree:∀y∈sc.names,y.2≠ .free
theorem aAk {kindOf:Str->Option NameKind} {x:Str}:∀{binds:List (Str×Value)} {m:Str->Option Value},(∀v,(x,v)∉binds)->bindL kindOf binds m x=m x
 | [],_,_=>rfl
 |(n,v)::r,m,h=>by
  unfold bindL
  rw [aAk fun w hw=>h w (List.mem_cons_of_mem _ hw)]
  split
  ·have:x≠n:=by rintro rfl;exact h v List.mem_cons_self
   simp [this]
  ·rfl
theorem aA4 {kindOf:Str->Option NameKind} {x:Str}:∀{binds:List (Str×Value)} {m:Str->Option Value},(∀v,(x,v)∉binds)->bindC kindOf binds m x=m x
 | [],_,_=>rfl
 |(n,v)::r,m,h=>by
  unfold bindC
  rw [aA4 fun w hw=>h w (List.mem_cons_of_mem _ hw)]
  split
  ·rfl
  ·have:x≠n:=by rintro rfl;exact h v List.mem_cons_self
   simp [this]
theorem aA6 {kindOf:Str->Option NameKind} {x:Str} {v:Value}:∀{P:List Str} {vs:List Value} {i:Nat} {m:Str->Option Value},P.Nodup->P[i]? =some x->vs[i]? =some v->kindOf x=some .local->
  bindL kindOf (P.zip vs) m x=some v
 | [],_,_,_,_,h,_,_=>by simp at h
 |_::_,[],_,_,_,_,h,_=>by simp at h
 |p::P,w::vs,0,m,nd,h1,h2,hk=>by
  simp at h1 h2;subst h1;subst h2
  show bindL kindOf ((p,w)::P.zip vs) m p=_
  unfold bindL
  rw [aAk fun v hv=>(List.nodup_cons.mp nd).1 (List.of_mem_zip hv).1,if_pos hk]
  simp
 |p::P,w::vs,i+1,m,nd,h1,h2,hk=>by
  show bindL kindOf ((p,w)::P.zip vs) m x=_
  unfold bindL
  exact aA6 (i:=i) (List.nodup_cons.mp nd).2 (by simpa using h1) (by simpa using h2) hk
theorem aAj {kindOf:Str->Option NameKind} {x:Str} {v:Value}:∀{P:List Str} {vs:List Value} {i:Nat} {m:Str->Option Value},P.Nodup->P[i]? =some x->vs[i]? =some v->kindOf x≠some .local->
  bindC kindOf (P.zip vs) m x=some v
 | [],_,_,_,_,h,_,_=>by simp at h
 |_::_,[],_,_,_,_,h,_=>by simp at h
 |p::P,w::vs,0,m,nd,h1,h2,hk=>by
  simp at h1 h2;subst h1;subst h2
  show bindC kindOf ((p,w)::P.zip vs) m p=_
  unfold bindC
  rw [aA4 fun v hv=>(List.nodup_cons.mp nd).1 (List.of_mem_zip hv).1,if_neg hk]
  simp
 |p::P,w::vs,i+1,m,nd,h1,h2,hk=>by
  show bindC kindOf ((p,w)::P.zip vs) m x=_
  unfold bindC
  exact aAj (i:=i) (List.nodup_cons.mp nd).2 (by simpa using h1) (by simpa using h2) hk
def start (N:List Str) (vs:List V):St:=vs.map some++List.replicate (N.length-vs.length) none
def aC8 (CX:CXT) (P:Program) (w:World) (K:PySem.W.Frag) (mg:Str->Option Value) (base:Heap) (N:List Str) (qual:Str) (scope:Scope) (f:Addr) (cd:Value) (A:Around) (outer:List Env) (s:Shared) (H:Hp) (E:XK):Cx where
 prog:=P
 w:=w
 K:=K
 mg:=mg
 base:=base
 A:=A.deeper (envOfC qual scope s.heap.objs.size f cd)
 N:=N
 s₀:=s
 H₀:=H
 env:=envOfC qual scope s.heap.objs.size f cd
 outer:=outer
 stack:=envOfC qual scope s.heap.objs.size f cd::outer
 ex:=[]
 calm:=true
 fn:=fun _=>true
 pn:=[]
 xe:=fun e s'=>wpAny (model P w) (A.deeper (envOfC qual scope s.heap.objs.size f cd)) (leaving (envOfC qual scope s.heap.objs.size f cd) e) (fun _ s''=>CX outer H s E e s'') (fun e' s''=>CX outer H s E e' s'') s'
theorem bM {sc:Scope} {n:Nat} {x:Str} (h:sc.names.lookup x=some .cell):∃c,(cellsFrom n sc.names []).lookup x=some c:=by
 have q:=PySem.W.cellsFrom_some sc.names n [] (.inl h)
 exact Option.isSome_iff_exists.mp q
theorem aIa {CX:CXT} {P:Program} {w:World} {K:PySem.W.Frag} {mg:Str->Option Value} {base:Heap} {N ps:List Str} {qual:Str} {scope:Scope} {f:Addr} {cd:Value} {A:Around} {outer:List Env} {s s1:Shared} {H:Hp} {E:XK} {us:List Value} {vs:List V}
  (S:aM N ps scope) (hd:A.handled=none) (e0:aE3 P w K mg base A outer s H) (hl:vs.length=ps.length) (r:Vals vs us)
  (x:InCallC s s.heap.objs.size (bindL (envOfC qual scope s.heap.objs.size f cd).kindOf (ps.zip us) fun _=>none) (cellsFrom (s.heap.objs.size+1) scope.names []) (bindC (envOfC qual scope s.heap.objs.size f cd).kindOf (ps.zip us) fun _=>none) s1):
  Inv (aC8 CX P w K mg base N qual scope f cd A outer s H E) [] (start N vs) H s1:=by
 have hpl:ps.length<=N.length:=by have:=congrArg List.length S.pre;rw [List.length_take]at this;omega
 obtain⟨h1,tk,rfl,hk⟩:=x.done
 have noA:∀b:Addr,b∉(aC8 CX P w K mg base N qual scope f cd A outer s H E).ex:=fun b z=>absurd (show b∈([]:List Addr)from z) (by simp)
 refine⟨⟨e0.mod,S.kind,rfl,rfl,Nat.le_refl _,fun y z c h1 h2=>?_,fun y hy=>?_,fun y c _ h=>?_,fun _=>hd,Around.frames_deeper e0.frames,.inr ⟨rfl,rfl⟩,fun b z=>absurd z (noA b),e0.bs,e0.bsz,fun b _ _=>noA b,fun b z=>absurd z (noA b),e0.funs,e0.frf⟩,
  rfl,e0.bare,Un.kept hk,⟨_,x.toInCall.ns,fun i y v h1 h2 h3=>?_⟩,fun y c h=>⟨_,x.cell y c h⟩,e0.hok.fresh (Nat.le_refl _),fun y c h=>?_,fun p hp=>absurd (show p∈([]:List (Addr×Obj))from hp) (by simp),e0.hok.kept hk,?_⟩
 ·exact name_of_addr x.apart (PySem.mem_of_lookup h1) (PySem.mem_of_lookup h2)
 ·have hy:scope.names.lookup y=some .cell∨scope.names.lookup y=some .free:=hy
  rcases hy with hy|hy
  ·exact bM hy
  ·exact absurd rfl (S.nofree _ (PySem.mem_of_lookup hy))
 ·exact Nat.le_of_lt (x.above y c (PySem.mem_of_lookup h))
 ·have hi:i<vs.length:=by
   unfold start at h2
   by_cases hi:i<vs.length
   ·exact hi
   ·rw [List.getElem?_append_right (by simpa using hi)]at h2
    rw [List.getElem?_replicate]at h2
    split at h2<;>cases h2
  have ha:vs[i]? =some v:=by
   unfold start at h2
   rw [List.getElem?_append_left (by simpa using hi),List.getElem?_map]at h2
   cases e:vs[i]? with
   |none=>rw [e]at h2;cases h2
   |some a=>rw [e]at h2;cases h2;rfl
  obtain⟨u,hu,rv⟩:=r.get ha
  have hp:ps[i]? =some y:=by
   rw [<-S.pre,List.getElem?_take_of_lt (by omega)];exact h1
  have ndP:ps.Nodup:=by rw [<-S.pre];exact S.nd.sublist (List.take_sublist _ _)
  refine⟨u,rv,?_⟩
  rcases S.par y (List.mem_of_getElem? hp)with k|k
  ·exact .inl ⟨k,aA6 ndP hp hu k⟩
  ·obtain⟨c,e⟩:=bM (n:=s.heap.objs.size+1) k
   refine .inr ⟨.inl k,c,e,?_⟩
   have q:=x.cell y c e
   rw [aAj ndP hp hu (by show scope.names.lookup y≠_;rw [k];decide)]at q
   exact q
 ·exact e0.hok.fresh (Nat.le_of_lt (x.above y c (PySem.mem_of_lookup h)))
 ·unfold start
  show _=N.length
  rw [List.length_append,List.length_map,List.length_replicate]
  omega
theorem aRu {CX:CXT} {P:Program} {w:World} {K:PySem.W.Frag} {mg:Str->Option Value} {base:Heap} {k:Nat} {f:Addr} {name qual:Str} {params:Arguments} {body:List Stmt} {scope:Scope} {dV kV doc pm cdv ct oc:Value} {an od:Option Addr}
  {osl:Array (Option Value)} {N ps:List Str} {sp:Sp} (lk:K.lookup f=some ⟨oc,od,.func (PySem.W.fnOf name qual params body scope dV kV doc pm an cdv ct),osl⟩) (hcd:PySem.W.codeIn K cdv qual=true) (S:aM N ps scope)
  (len:∀vs H Q E,sp vs H Q E->vs.length=ps.length)
  (hbody:∀(A:Around) (outer:List Env) (s:Shared) (H:Hp) (vs:List V) (Q:VK) (E:XK),eY k (A.deeper (envOfC qual scope s.heap.objs.size f cdv))->sp vs H Q E->
   ∃t,PSs (aC8 CX P w K mg base N qual scope f cdv A outer s H E) body t/\t {nx:=fun _ H'=>Q .non H',rt:=Q} (start N vs) H):
  bB P w K mg base CX (k+1) f (PySem.W.fnOf name qual params body scope dV kV doc pm an cdv ct) ps sp:=by
 refine⟨len,fun A outer s H args us vs Q E hr e0 hb r hsp=>?_⟩
 have hl:=len _ _ _ _ hsp
 have KX:K.In s.heap:=e0.mod.kin.keeps fun b o e=>(e0.bs b o e).1
 have lim:s.heap.NoLimit:=e0.mod.nolimit.keeps fun b o e=>(e0.bs b o e).1
 have hkind:∀y∈ps.zip us,scope.names.lookup y.1=some .local∨(scope.names.lookup y.1=some .cell/\((cellsFrom (s.heap.objs.size+1) scope.names []).lookup y.1).isSome=true):=fun⟨n,v⟩ hy=>by
  rcases S.par n (List.of_mem_zip hy).1 with q|q
  ·exact .inl q
  ·exact .inr ⟨q,PySem.W.cellsFrom_some _ _ _ (.inl q)⟩
 refine codeAny_call_function hr.depth (KX _ _ lk) rfl S.co S.gen rfl (PySem.W.codeRec_of KX hcd) (hb _ _ _ _ ?_)
 refine wpAny_newFunctionEnv_cells S.kind hkind fun env he s1 x=>?_
 subst he
 refine⟨lim.keeps x.toInCall.keep,codeAny_func ?_⟩
 obtain⟨t,ht,hq⟩:=hbody A outer s H vs Q E (hr.deeper _) hsp
 have I:Inv (aC8 CX P w K mg base N qual scope f cdv A outer s H E) [] (start N vs) H s1:=aIa S hr.hd e0 hl r x
 refine wpAny_mono (ht [] s1 (start N vs) H _ I hq) (fun fl s' hs=>?_) fun e s' hs=>hs
 have fin:∀{σ':St} {H':Hp} {v:V} {u:Value},Inv (aC8 CX P w K mg base N qual scope f cdv A outer s H E) [] σ' H' s'->RelV v u->Q v H'->CE outer P w H s Q u s':=
  fun{σ' H' v u} J rv q=>⟨v,H',J.os,J.bare,J.base,J.hok,rv,q⟩
 cases fl with
 |ret u=>
  obtain⟨v,σ',H',J,rv,q⟩:=hs
  exact fin J rv q
 |next=>
  obtain⟨σ',H',J,q⟩:=hs
  exact fin (v:=V.non) (u:=Value.none) J rfl q
 |brk=>
  obtain⟨_,_,_,q⟩:=hs
  exact False.elim q
 |cont=>
  obtain⟨_,_,_,q⟩:=hs
  exact False.elim q
end L2
namespace L2
open PySem PySem.Spec PyProof.Rows
section
variable {X:Cx} {x:Str} {p pos:Pos} {e:Expr} {es:List Expr} {t:TA} {id T:String} {r:List V->Hp->VK->Prop}
def tCB (r:List V->Hp->VK->Prop) (t:TA):TE:=fun σ H Q=>t σ H fun vs H1=>r vs H1 Q
theorem gW (hc:dU X (.builtin id) r) (hg:Gl X x) (hm:X.mg x=none) (hv:bootBuiltins x=some (.builtin id)) (ha:PA X (e::es) t) (hn:x≠"__name__":=by decide) (hdb:(x==("__debug__":Str))=false:=by decide)
  (he:starEach (e::es) X.env=(false,eval e X.env)::starEach es X.env:=by rfl) (hpl:(backTo pos (starEach es X.env)).any (·.1)=false:=by rfl):PE X (.Call (.Name x p) (e::es) [] pos) (tCB r t):=by
 intro pins s σ H Q I h
 refine wpAny_Call_Name_kw (rZ I hg hm hv ?_ hn hdb)
 exact PyProof.Rows.callWith_builtin1 (thn (ha pos pins s σ H _ I h) fun us s1 ⟨vs,H1,I1,r1,q1⟩=>hc pins s1 σ H1 vs us Q I1 r1 q1) he hpl
theorem mJ (hc:dU X (.type T) r) (hg:Gl X x) (hm:X.mg x=none) (hv:bootBuiltins x=some (.type T)) (ha:PA X (e::es) t) (hn:x≠"__name__":=by decide) (hdb:(x==("__debug__":Str))=false:=by decide)
  (he:starEach (e::es) X.env=(false,eval e X.env)::starEach es X.env:=by rfl) (hpl:(backTo pos (starEach es X.env)).any (·.1)=false:=by rfl):PE X (.Call (.Name x p) (e::es) [] pos) (tCB r t):=by
 intro pins s σ H Q I h
 refine wpAny_Call_Name_kw (rZ I hg hm hv ?_ hn hdb)
 exact PyProof.Rows.callWith_type1 (thn (ha pos pins s σ H _ I h) fun us s1 ⟨vs,H1,I1,r1,q1⟩=>hc pins s1 σ H1 vs us Q I1 r1 q1) he hpl
end
end L2
namespace HT
open PySem PyProof.Rows
section
open PySem.SeqAt
open PySem.AutoSeq1 (wpAny_loadPart')
open PySem.MeetsSeq PySem.MeetsSeq2 PySem.MeetsSeq3
end
section
variable {prog:Program} {w:World} {A:Around} {E:Value->Shared->Prop} {s:Shared}
theorem aNm {t b:Addr} {vs ws:List Value} {Q:Value->Shared->Prop} (ht:IsTup s.heap t vs.toArray) (hb:IsTup s.heap b ws.toArray) (hv:vs≠[])
  (h1:ws=[]->Q (.ref t) s) (h2:ws≠[]->Q (.ref s.heap.objs.size) {s with heap:=s.heap.push {cls:= .type "tuple",data:= .seq (vs++ws).toArray}})
  (hsz:vs.length+ws.length<=sizeLine):wpAny (model prog w) A (binaryOp .Add (.ref t) (.ref b)) Q E s:=by
 obtain⟨⟨cls,dd,data,sl⟩,ho,hc,n,hd⟩:=id ht
 obtain⟨⟨cls2,dd2,data2,sl2⟩,ho2,hc2,n2,hd2⟩:=id hb
 simp only at hc hd hc2 hd2
 subst hc hd hc2 hd2
 have e:vs.toArray++ws.toArray=(vs++ws).toArray:=by simp
 by_cases hw:ws=[]
 ·exact concat_meets ⟨_,ho,rfl⟩ ⟨_,ho2,rfl⟩ noFill_tuple_add seq_tuple_add PySem.F.slot_tuple_add PySem.F.entry_tuple_add (PySem.F.args_tuple_add_2 _ _)
   (tuple_addW1 t b vs.toArray ws.toArray n n2 dd dd2 sl sl2 (by simpa using hv) (by simp [hw])) ⟨ho,ho2,h1 hw⟩
 ·refine concat_meets ⟨_,ho,rfl⟩ ⟨_,ho2,rfl⟩ noFill_tuple_add seq_tuple_add PySem.F.slot_tuple_add PySem.F.entry_tuple_add (PySem.F.args_tuple_add_2 _ _)
   (tuple_addW2 t b vs.toArray ws.toArray n n2 dd dd2 sl sl2 (by simpa using hv) (by simpa using hw) (by rw [List.size_toArray,List.size_toArray];exact hsz)) ⟨ho,ho2,?_⟩
  rw [e]
  exact h2 hw
end
end HT
namespace L2
open PySem PySem.Spec PyProof.Rows
abbrev TO:=St->Hp->(Option Int->Hp->Prop)->Prop
def PO (X:Cx) (e:Option Expr) (t:TO):Prop:=
 ∀(pins:List (Addr×Obj)) (s:Shared) (σ:St) (H:Hp) (Q:Option Int->Hp->Prop),Inv X pins σ H s->t σ H Q->
  wpAny (model X.prog X.w) X.A (evalPart e X.env) (fun u s'=>∃o H',Inv X pins σ H' s'/\IsPart u o/\Q o H') X.xe s
def aSl (t:TE):TO:=fun σ H Q=>t σ H fun x H1=>∃i,x= .int i/\Q (some i) H1
theorem intsAre_of {ns:List Int}:∀{us:List Value},Vals (ns.map V.int) us->IntsAre us ns:=by
 induction ns with
 |nil=>intro us r;rw [List.map_nil]at r;cases r;exact .nil
 |cons n ns ih=>
  intro us r
  rw [List.map_cons]at r
  cases r with
  |cons r1 r2=>
   obtain⟨t,e⟩:=r1
   subst e
   exact .cons n t (ih r2)
section
variable {X:Cx} {e:Expr} {te:TE} {lo hi:Option Expr} {tl th:TO} {pos p2:Pos}
theorem wD (h:PE X e te):PO X (some e) (aSl te):=by
 intro pins s σ H Q I hw
 rw [evalPart_some]
 refine thn (h pins s σ H _ I hw) fun u s1 ⟨x,H1,I1,r1,q1⟩=>?_
 obtain⟨i,rfl,q⟩:=q1
 obtain⟨t,rfl⟩:=r1
 exact⟨some i,H1,I1,.int i t,q⟩
def SlR (X:Cx) (r:V->Option Int->Option Int->Hp->VK->Prop):Prop:=
 ∀(pins:List (Addr×Obj)) (s:Shared) (σ:St) (H:Hp) (x:V) (v vl vu:Value) (lo hi:Option Int) (sl:Addr) (Q:VK),Inv X pins σ H s->RelV x v->s.heap.IsSliceOf sl vl vu .none->IsPart vl lo->IsPart vu hi->r x lo hi H Q->
  ∃T id,typeLookup (.type T) "__getitem__"=pure (some (.builtin id))/\s.TypeIs v T/\wpAny (model X.prog X.w) X.A (getItem v (.ref sl)) (EP X pins σ Q) X.xe s
def tSl (r:V->Option Int->Option Int->Hp->VK->Prop) (te:TE) (tl th:TO):TE:=fun σ H Q=>te σ H fun x H1=>tl σ H1 fun l H2=>th σ H2 fun u H3=>r x l u H3 Q
theorem aEk {r:V->Option Int->Option Int->Hp->VK->Prop} (hr:SlR X r) (he:PE X e te) (hl:PO X lo tl) (hu:PO X hi th):PE X (.Subscript e (.Slice lo hi none p2) pos) (tSl r te tl th):=by
 intro pins s σ H Q I h
 refine Subscript_ (thn (he pins s σ H _ I h) fun v s1 ⟨x,H1,I1,r1,q1⟩=>?_)
 refine wpAny_Slice (thn (hl pins s1 σ H1 _ I1 q1) fun vl s2 ⟨l,H2,I2,pl,q2⟩=>thn (hu pins s2 σ H2 _ I2 q2) fun vu s3 ⟨u,H3,I3,pu,q3⟩=>?_)
 rw [evalPart_none]
 refine wpAny_pure ?_
 have I4:Inv X pins σ H3 {s3 with heap:=s3.heap.push {cls:= .type "slice",data:= .fields #[vl,vu,.none]}}:=I3.kept (t':=s3.toks) fun b ob q=>Heap.get?_push_of_some _ q
 obtain⟨T,id,hT,ht,hg⟩:=hr pins {s3 with heap:=s3.heap.push {cls:= .type "slice",data:= .fields #[vl,vu,.none]}} σ H3 x v vl vu l u s3.heap.objs.size Q I4 r1 (Heap.IsSliceOf.new ..) pl pu q3
 show wpAny (model X.prog X.w) X.A (subscriptTail e (.Slice lo hi none p2) v (.ref s3.heap.objs.size)) (EP X pins σ Q) X.xe {s3 with heap:=s3.heap.push {cls:= .type "slice",data:= .fields #[vl,vu,.none]}}
 exact tail_any (ops:=[.ref s3.heap.objs.size,v]) ht hT hg (by with_unfolding_all rfl)
def aOl (K:PySem.W.Frag):R2:=fun x y H Q=>∃a b xs ys,x= .ref a/\y= .ref b/\SqT K H a xs/\SqT K H b ys/\xs≠[]/\xs.length+ys.length<=sizeLine/\
 (ys=[]->Q (.ref a) H)/\(ys≠[]->∀p,H p=none->Q (.ref p) (upd H p (.tup (xs++ys))))
theorem Vals.nil_iff {xs:List V} {us:List Value} (r:Vals xs us):us=[]↔xs=[]:=by
 cases r with
 |nil=>simp
 |cons _ _=>simp
theorem aMy:OpR X (binaryOp .Add) (aOl X.K):=by
 intro pins s σ H x y v u Q I rx ry h
 obtain⟨a,b,xs,ys,rfl,rfl,ha,hb,hx,hz,q1,q2⟩:=h
 cases rx
 cases ry
 obtain⟨its,r1,p1,_⟩:=I.tuple ha
 obtain⟨its2,r2,p2,_⟩:=I.tuple hb
 refine HT.aNm p1 p2 (fun z=>hx (r1.nil_iff.mp z)) (fun z=>⟨.ref a,H,I,rfl,q1 (r2.nil_iff.mp z)⟩) (fun z=>?_) (by rw [<-r1.length, <-r2.length];exact hz)
 refine⟨.ref s.heap.objs.size,_,I.laid (t':=s.toks) (o:= .tup (xs++ys)) (fun b ob q=>Heap.get?_push_of_some _ q) (Nat.le_refl _) ?_,rfl,q2 (fun w=>z (r2.nil_iff.mpr w)) _ (I.hok.fresh (Nat.le_refl _))⟩
 exact⟨by rw [List.length_append];exact hz,_,r1.append r2,IsTup.new _ _⟩
end
end L2
namespace L2
open PySem PySem.Spec PyProof.Rows
def ixN (n:Nat) (i:Int):Option Nat:=if 0<=i then(if i<n then some i.toNat else none)else if-(n:Int)<=i then some (i+n).toNat else none
def atI {α:Type} (xs:List α) (i:Int):Option α:=(ixN xs.length i).bind fun j=>xs[j]?
theorem aG3 {n:Nat} {i:Int} {j:Nat} (h:ixN n i=some j):seqIndex? i n=some j/\j<n/\ -(n:Int)<=i/\i<n:=by
 unfold ixN at h
 by_cases h0:0<=i
 ·rw [if_pos h0]at h
  by_cases h1:i<n
  ·rw [if_pos h1]at h
   have e:i.toNat=j:=Option.some.inj h
   exact⟨by rw [seqIndex_of h0 h1,e],by omega,by omega,h1⟩
  ·rw [if_neg h1]at h;cases h
 ·rw [if_neg h0]at h
  by_cases h1: -(n:Int)<=i
  ·rw [if_pos h1]at h
   have e:(i+n).toNat=j:=Option.some.inj h
   exact⟨by rw [seqIndex_neg (by omega) h1,e],by omega,h1,by omega⟩
  ·rw [if_neg h1]at h;cases h
theorem aBy {α:Type} {xs:List α} {i:Int} {v:α} (h:atI xs i=some v):∃j,seqIndex? i xs.length=some j/\xs[j]? =some v/\j<xs.length/\ -(xs.length:Int)<=i/\i<xs.length:=by
 unfold atI at h
 cases e:ixN xs.length i with
 |none=>rw [e]at h;cases h
 |some j=>
  rw [e]at h
  obtain⟨h1,h2,h3,h4⟩:=aG3 e
  exact⟨j,h1,h,h2,h3,h4⟩
theorem wB {α:Type} {xs:List α} {j:Nat} {v:α} (h:xs[j]? =some v):atI xs (j:Int)=some v:=by
 have hj:j<xs.length:=(List.getElem?_eq_some_iff.mp h).1
 have e:ixN xs.length (j:Int)=some j:=by
  unfold ixN
  rw [if_pos (by omega),if_pos (by omega)];simp
 unfold atI;rw [e];exact h
def aGx (b:Expr):Prop:=∀o i,subscripted b false o i=operate [o,i] (getItem o i)
def IxR (X:Cx) (r:R2):Prop:=
 ∀(value slice:Expr) (pins:List (Addr×Obj)) (s:Shared) (σ:St) (H:Hp) (x y:V) (v u:Value) (Q:VK),Inv X pins σ H s->RelV x v->RelV y u->r x y H Q->
  subscripted slice false v u=operate [v,u] (getItem v u)->wpAny (model X.prog X.w) X.A (subscriptTail value slice v u) (EP X pins σ Q) X.xe s
def MtR (X:Cx) (id:String) (r:V->List V->Hp->VK->Prop):Prop:=
 ∀(pins:List (Addr×Obj)) (s:Shared) (σ:St) (H:Hp) (x:V) (xs:List V) (v:Value) (us:List Value) (Q:VK),Inv X pins σ H s->RelV x v->Vals xs us->r x xs H Q->
  wpAny (model X.prog X.w) X.A (call (.builtin id) (v::us)) (EP X pins σ Q) X.xe s
section
variable {X:Cx} {a b:Expr} {ta tb:TE} {pos:Pos}
theorem IxR.or {r r':R2} (h:IxR X r) (h':IxR X r'):IxR X (fun x y H Q=>r x y H Q∨r' x y H Q):=by
 intro value slice pins s σ H x y v u Q I rx ry q hs
 rcases q with q|q
 ·exact h value slice pins s σ H x y v u Q I rx ry q hs
 ·exact h' value slice pins s σ H x y v u Q I rx ry q hs
theorem vM {r:R2} (hr:IxR X r) (ha:PE X a ta) (hb:PE X b tb) (hs:aGx b):PE X (.Subscript a b pos) (tOp r ta tb):=by
 intro pins s σ H Q I h
 exact Subscript_ (aRi ha hb I h fun v u s2 x y H2 I2 rx ry q=>hr a b pins s2 σ H2 x y v u Q I2 rx ry q (hs _ _))
def aRl (K:PySem.W.Frag):R2:=fun x y H Q=>∃p xs i v,x= .ref p/\y= .int i/\SqL K H p xs/\atI xs i=some v/\Q v H
def aQy (K:PySem.W.Frag):R2:=fun x y H Q=>∃p xs i v,x= .ref p/\y= .int i/\SqT K H p xs/\atI xs i=some v/\Q v H
def aRx:R2:=fun x y H Q=>∃z i c,x= .str z/\y= .int i/\z.length<=sizeLine/\atI z.cps.toList i=some c/\Q (.str ⟨#[c]⟩) H
theorem lM:IxR X (aRl X.K):=by
 intro value slice pins s σ H x y v u Q I rx ry h hs
 obtain⟨p,xs,i,z,rfl,rfl,hq,he,q⟩:=h
 cases rx
 obtain⟨t,rfl⟩:=ry
 obtain⟨its,r,pl,hz⟩:=I.list hq
 obtain⟨j,h1,h2,h3,h4,h5⟩:=aBy he
 obtain⟨w,ew,rw'⟩:=r.get h2
 have hl:=r.length
 have hn:=vA
 have fin:EP X pins σ Q w s:=⟨z,H,I,rw',q⟩
 by_cases h0:0<=i
 ·have hj:i.toNat=j:=by
   rw [seqIndex_of h0 h5]at h1
   exact Option.some.inj h1
  exact item_listR pl.isList h0 (by omega) (by rw [hj];simpa using ew) fin hs
 ·have hj:(i+(its.toArray.size:Int)).toNat=j:=by
   rw [seqIndex_neg (by omega) h4]at h1
   rw [List.size_toArray, <-hl]
   exact Option.some.inj h1
  exact subscriptTail_builtinR (x:=w) pl.isList.typeIs slot_list_getitem.lookup
   (wpAny_getItem_list_neg (Q:=fun r s'=>r=w/\EP X pins σ Q r s') pl.isList (by omega) (by rw [List.size_toArray]<;>omega) (by omega) (by rw [hj];simpa using ew) ⟨rfl,fin⟩) hs
theorem aPq:IxR X (aQy X.K):=by
 intro value slice pins s σ H x y v u Q I rx ry h hs
 obtain⟨p,xs,i,z,rfl,rfl,hq,he,q⟩:=h
 cases rx
 obtain⟨t,rfl⟩:=ry
 obtain⟨its,r,pl,hz⟩:=I.tuple hq
 obtain⟨j,h1,h2,h3,h4,h5⟩:=aBy he
 obtain⟨w,ew,rw'⟩:=r.get h2
 have hl:=r.length
 have hn:=vA
 have fin:EP X pins σ Q w s:=⟨z,H,I,rw',q⟩
 exact subscriptTail_builtinR (x:=w) pl.typeIs slot_tuple_getitem.lookup
  (getItem_tuple (j:=j) (Q:=fun r s'=>r=w/\EP X pins σ Q r s') pl (by omega) (by omega) (by rw [List.size_toArray, <-hl];exact h1) (by simpa using ew) ⟨rfl,fin⟩) hs
theorem aPg:IxR X aRx:=by
 intro value slice pins s σ H x y v u Q I rx ry h hs
 obtain⟨z,i,c,rfl,rfl,hz,he,q⟩:=h
 obtain⟨t,rfl⟩:=rx
 obtain⟨t',rfl⟩:=ry
 obtain⟨j,h1,h2,h3,h4,h5⟩:=aBy he
 have hl:z.cps.toList.length=z.length:=by simp [Str.length]
 rw [hl]at h1 h4 h5
 have hn:=vA
 exact tail_any (typeIs_str s z t) slot_str_getitem.lookup (getItem_str (c:=c) (by
  have e1:decide (i< -(2 ^ 63:Int))=false:=decide_eq_false (by omega)
  have e2:decide (i≥2 ^ 63)=false:=decide_eq_false (by omega)
  rw [e1,e2,Bool.or_false]) (by rw [h1];simpa using h2) ⟨.str ⟨#[c]⟩,H,I.tok _,⟨_,rfl⟩,q⟩) hs
def rIx (K:PySem.W.Frag):R2:=fun x y H Q=>aRl K x y H Q∨aQy K x y H Q∨aRx x y H Q
theorem cC:IxR X (rIx X.K):=lM.or (aPq.or aPg)
theorem aF4 (its:List Value) (n j:Nat) (u:Value):Obj.mapSeq (·.setIfInBounds j u) {cls:= .type "list",data:= .seq its.toArray n}={cls:= .type "list",data:= .seq (its.set j u).toArray n}:=by
 simp [Obj.mapSeq]
theorem Inv.lst {pins:List (Addr×Obj)} {σ:St} {H:Hp} {s:Shared} {p:Addr} {xs:List V} (I:Inv X pins σ H s) (h:H p=some (.lst xs)):
  ∃(its:List Value) (n:Nat),Vals xs its/\s.heap.get? p=some {cls:= .type "list",data:= .seq its.toArray n}/\xs.length<=sizeLine:=by
 obtain⟨z,its,n,r,e⟩:=I.hok p _ h
 exact⟨its,n,r,e,z⟩
theorem Inv.lstUpd {pins:List (Addr×Obj)} {σ:St} {H:Hp} {s:Shared} {p:Addr} {xs ys:List V} {its its':List Value} {n n':Nat} {f:Obj->Obj} (I:Inv X pins σ H s) (h:H p=some (.lst xs))
  (ho:s.heap.get? p=some {cls:= .type "list",data:= .seq its.toArray n}) (hf:f {cls:= .type "list",data:= .seq its.toArray n}={cls:= .type "list",data:= .seq its'.toArray n'}) (r:Vals ys its') (hz:ys.length<=sizeLine) (t:Nat):
  Inv X pins σ (upd H p (.lst ys)) {s with heap:=s.heap.update p f,toks:=t}:=by
 have e:(s.heap.update p f).get? p=some {cls:= .type "list",data:= .seq its'.toArray n'}:=by
  rw [Heap.get?_update_self f ho (by rw [hf]<;>rfl),hf]
 refine I.write (x:=p) (e:=p) (by rw [h];trivial) (.inl rfl) (fun b u hb q=>(Heap.get?_update_other _ _ (Ne.symm hb)).trans q) ⟨_,e⟩ ?_
 exact⟨hz,its',n',r,e⟩
def aSv:V->V->V->Hp->(Hp->Prop)->Prop:=fun o i v H Q=>∃p xs k j,o= .ref p/\i= .int k/\H p=some (.lst xs)/\ixN xs.length k=some j/\Q (upd H p (.lst (xs.set j v)))
theorem set_list:aSb X aSv:=by
 intro pins s σ H o i v ov iv u Q I ro ri rv h
 obtain⟨p,xs,k,j,rfl,rfl,hp,hj,q⟩:=h
 cases ro
 obtain⟨t,rfl⟩:=ri
 obtain⟨its,n,r,ho,hz⟩:=I.lst hp
 obtain⟨h1,h2,h3,h4⟩:=aG3 hj
 have hl:=r.length
 have hn:=vA
 have I':Inv X pins σ (upd H p (.lst (xs.set j v))) {s with heap:=s.heap.update p (Obj.mapSeq (·.setIfInBounds j u))}:=
  I.lstUpd hp ho (aF4 its n j u) (r.set rv j) (by rw [List.length_set];exact hz) s.toks
 by_cases h0:0<=k
 ·have hk:k.toNat=j:=by
   rw [seqIndex_of h0 h4]at h1
   exact Option.some.inj h1
  exact PySem.W.ki_setAt ho h0 (by omega) (by rw [List.size_toArray, <-hl];exact h4) (by rw [hk];exact⟨_,I',q⟩)
 ·have hk:(k+(its.toArray.size:Int)).toNat=j:=by
   rw [seqIndex_neg (by omega) h3]at h1
   rw [List.size_toArray, <-hl]
   exact Option.some.inj h1
  exact PySem.W.ki_setBack ho (by omega) (by rw [List.size_toArray, <-hl];exact h3) (by omega) (by rw [hk];exact⟨_,I',q⟩)
def iM:V->Bool
 | .non=>true
 | .bl _=>true
 | .int _=>true
 | .str _=>true
 |_=>false
def eqV:V->V->Bool
 | .non,.non=>true
 | .bl a,.bl b=>a==b
 | .bl a,.int b=>(if a then 1 else 0)==b
 | .int a,.bl b=>a==(if b then 1 else 0)
 | .int a,.int b=>a==b
 | .str a,.str b=>a==b
 |_,_=>false
theorem aLe {A:Around} {s:Shared} {y x:V} {u v:Value} (ry:RelV y u) (rx:RelV x v) (fy:iM y=true) (fx:iM x=true):SeqAt.EqAt A s u v (eqV y x):=by
 cases y with
 |non=>
  cases ry
  cases x with
  |non=>cases rx;exact SeqAt.EqAt.same _
  |bl b=>cases rx;exact SeqAt.EqAt.none_bool b
  |int b=>obtain⟨t,rfl⟩:=rx;exact SeqAt.EqAt.none_int b t
  |str b=>obtain⟨t,rfl⟩:=rx;exact SeqAt.EqAt.none_str b t
  |_=>exact absurd (show false=true from fx) Bool.false_ne_true
 |bl a=>
  cases ry
  cases x with
  |non=>cases rx;exact SeqAt.EqAt.bool_none a
  |bl b=>cases rx;exact SeqAt.EqAt.bool_bool a b
  |int b=>obtain⟨t,rfl⟩:=rx;exact SeqAt.EqAt.bool_int a b t
  |str b=>obtain⟨t,rfl⟩:=rx;exact SeqAt.EqAt.bool_str a b t
  |_=>exact absurd (show false=true from fx) Bool.false_ne_true
 |int a=>
  obtain⟨t',rfl⟩:=ry
  cases x with
  |non=>cases rx;exact SeqAt.EqAt.int_none a t'
  |bl b=>cases rx;exact SeqAt.EqAt.int_bool a t' b
  |int b=>obtain⟨t,rfl⟩:=rx;exact SeqAt.EqAt.int_int a t' b t
  |str b=>obtain⟨t,rfl⟩:=rx;exact SeqAt.EqAt.int_str a t' b t
  |_=>exact absurd (show false=true from fx) Bool.false_ne_true
 |str a=>
  obtain⟨t',rfl⟩:=ry
  cases x with
  |non=>cases rx;exact SeqAt.EqAt.str_none a t'
  |bl b=>cases rx;exact SeqAt.EqAt.str_bool a t' b
  |int b=>obtain⟨t,rfl⟩:=rx;exact SeqAt.EqAt.str_int a t' b t
  |str b=>obtain⟨t,rfl⟩:=rx;exact SeqAt.EqAt.str_str a t' b t
  |_=>exact absurd (show false=true from fx) Bool.false_ne_true
 |_=>exact absurd (show false=true from fy) Bool.false_ne_true
def eqU (x:V) (u:Value):Bool:=match u with
 | .none=>eqV .non x
 | .bool b=>eqV (.bl b) x
 | .int i _=>eqV (.int i) x
 | .str z _=>eqV (.str z) x
 |_=>false
theorem aK5 {x y:V} {u:Value} (r:RelV y u) (f:iM y=true):eqU x u=eqV y x:=by
 cases y with
 |non=>cases r;rfl
 |bl b=>cases r;rfl
 |int i=>obtain⟨t,rfl⟩:=r;rfl
 |str z=>obtain⟨t,rfl⟩:=r;rfl
 |_=>exact absurd (show false=true from f) Bool.false_ne_true
theorem aCh {x:V}:∀{xs:List V} {us:List Value},Vals xs us->xs.all iM=true->us.any (eqU x)=xs.any fun y=>eqV y x
 |_,_,.nil,_=>rfl
 |y::xs,u::us,.cons r t,f=>by
  rw [List.all_cons,Bool.and_eq_true]at f
  rw [List.any_cons,List.any_cons,aK5 r f.1,aCh t f.2]
theorem yQ {A:Around} {s:Shared} {x:V} {v:Value} (rx:RelV x v) (fx:iM x=true):∀{xs:List V} {us:List Value},Vals xs us->xs.all iM=true->∀u∈us,SeqAt.EqAt A s u v (eqU x u)
 |_,_,.nil,_=>fun u hu=>by cases hu
 |y::xs,u::us,.cons r t,f=>fun u' hu=>by
  rw [List.all_cons,Bool.and_eq_true]at f
  rcases List.mem_cons.mp hu with rfl|hu
  ·rw [aK5 r f.1];exact aLe r rx f.1 fx
  ·exact yQ rx fx t f.2 u' hu
def inV (x:V) (xs:List V):Bool:=xs.any fun y=>eqV y x
def rIn (K:PySem.W.Frag) (neg:Bool):R2:=fun x y H Q=>∃p xs,y= .ref p/\(SqL K H p xs∨SqT K H p xs)/\iM x=true/\xs.all iM=true/\Q (.bl (if neg then !inV x xs else inV x xs)) H
theorem aBm:OpR X (compareOp .NotIn) (rIn X.K true):=by
 intro pins s σ H x y v u Q I rx ry h
 obtain⟨p,xs,rfl,hq,fx,fs,q⟩:=h
 cases ry
 rcases hq with hq|hq
 ·obtain⟨its,r,pl,hz⟩:=I.list hq
  refine SeqAt.notIn_listAt (eqU x) pl.isList (fun w hw=>yQ rx fx r fs w (by simpa using hw)) ⟨.bl _,H,I,rfl,?_⟩
  rw [show its.toArray.any (eqU x)=its.any (eqU x) by simp,aCh r fs]
  exact q
 ·obtain⟨its,r,pl,hz⟩:=I.tuple hq
  refine SeqAt.notIn_tupleAt (eqU x) pl (fun w hw=>yQ rx fx r fs w (by simpa using hw)) ⟨.bl _,H,I,rfl,?_⟩
  rw [show its.toArray.any (eqU x)=its.any (eqU x) by simp,aCh r fs]
  exact q
theorem aR:dU X (.builtin "len") (fun xs H Q=>∃p ys,xs=[.ref p]/\(SqL X.K H p ys∨SqT X.K H p ys)/\Q (.int ys.length) H):=by
 intro pins s σ H xs us Q I r h
 obtain⟨p,ys,rfl,hq,q⟩:=h
 obtain⟨u,rfl,rx⟩:=vals1 r
 cases rx
 have hn:=vA
 rcases hq with hq|hq
 ·obtain⟨its,r',pl,hz⟩:=I.list hq
  have hlen:=r'.length
  exact Calls.call_len_list pl.isList (by simp only [List.size_toArray]<;>omega) ⟨.int ys.length,H,I.tok _,⟨s.toks+1,by rw [List.size_toArray,hlen]⟩,q⟩
 ·obtain⟨its,r',pl,hz⟩:=I.tuple hq
  have hlen:=r'.length
  exact len_tuple pl (by simp only [List.size_toArray]<;>omega) ⟨.int ys.length,H,I.tok _,⟨s.toks+1,by rw [List.size_toArray,hlen]⟩,q⟩
theorem aCm:dU X (.builtin "len") (fun xs H Q=>∃z,xs=[.str z]/\z.length<=sizeLine/\Q (.int z.length) H):=by
 intro pins s σ H xs us Q I r h
 obtain⟨z,rfl,hz,q⟩:=h
 obtain⟨u,rfl,t,rfl⟩:=vals1 r
 have hn:=vA
 exact len_str (by omega) ⟨.int z.length,H,I.tok _,⟨_,rfl⟩,q⟩
theorem aCp:dU X (.type "list") (fun xs H Q=>∃p ys,xs=[.ref p]/\(SqL X.K H p ys∨SqT X.K H p ys)/\∀l,H l=none->Q (.ref l) (upd H l (.lst ys))):=by
 intro pins s σ H xs us Q I r h
 obtain⟨p,ys,rfl,hq,q⟩:=h
 obtain⟨u,rfl,rx⟩:=vals1 r
 cases rx
 have fin:∀(its:List Value),Vals ys its->ys.length<=sizeLine->∀(h':Heap) (c':Nat),(∀b o',s.heap.get? b=some o'->h'.get? b=some o')->
   h'.get? s.heap.objs.size=some {cls:= .type "list",dict:=none,data:= .seq its.toArray c',slots:= #[]}->EP X pins σ Q (.ref s.heap.objs.size) {s with heap:=h'}:=fun its r' hz h' c' kp e=>
  ⟨.ref s.heap.objs.size,_,I.laid (t':=s.toks) kp (Nat.le_refl _) (show cQ X.prog X.w _ h' _ (.lst ys)from⟨hz,its,c',r',e⟩),rfl,q _ (I.hok.fresh (Nat.le_refl _))⟩
 rcases hq with hq|hq
 ·obtain⟨its,r',pl,hz⟩:=I.list hq
  have hlen:=r'.length
  obtain⟨o,ho,hc,n,hd⟩:=pl.isList
  exact call_list_seq p (.inl rfl) ho hc hd (fun h' c' kp e=>fin its r' hz h' c' kp e) (by simp only [List.size_toArray]<;>omega)
 ·obtain⟨its,r',pl,hz⟩:=I.tuple hq
  have hlen:=r'.length
  obtain⟨o,ho,hc,n,hd⟩:=pl
  exact call_list_seq p (.inr rfl) ho hc hd (fun h' c' kp e=>fin its r' hz h' c' kp e) (by simp only [List.size_toArray]<;>omega)
theorem rF:dU X (.type "tuple") (fun xs H Q=>∃p ys,xs=[.ref p]/\((SqL X.K H p ys/\∀l,H l=none->Q (.ref l) (upd H l (.tup ys)))∨(SqT X.K H p ys/\Q (.ref p) H))):=by
 intro pins s σ H xs us Q I r h
 obtain⟨p,ys,rfl,h⟩:=h
 obtain⟨u,rfl,rx⟩:=vals1 r
 cases rx
 rcases h with ⟨hq,q⟩|⟨hq,q⟩
 ·obtain⟨its,r',pl,hz⟩:=I.list hq
  have hlen:=r'.length
  refine call_tuple_list pl.isList (fun h' kp=>?_) (by simp only [List.size_toArray]<;>omega)
  have I1:Inv X pins σ H {s with heap:=h'}:=I.kept (t':=s.toks) kp
  have I2:Inv X pins σ (upd H h'.objs.size (.tup ys)) {s with heap:=h'.push {cls:= .type "tuple",data:= .seq its.toArray}}:=
   I1.laid (t':=s.toks) (fun b o e=>Heap.get?_push_of_some _ e) (Nat.le_refl _) (show cQ X.prog X.w _ _ _ (.tup ys)from⟨hz,its,r',IsTup.new _ _⟩)
  exact⟨.ref h'.objs.size,_,I2,rfl,q _ (I1.hok.fresh (Nat.le_refl _))⟩
 ·obtain⟨its,r',pl,hz⟩:=I.tuple hq
  exact call_tuple_same pl ⟨.ref p,H,I,rfl,q⟩
def tyV (K:PySem.W.Frag) (T:String) (x:V) (H:Hp):Prop:=match x with
 | .str _=>T="str"
 | .int _=>T="int"
 | .ref p=>(T="list"/\∃xs,SqL K H p xs)∨(T="tuple"/\∃o,K.lookup p=some o/\o.cls= .type "tuple"/\o.dict=none)∨
   (T="dict"/\((∃kvs,H p=some (.dK kvs))∨∃kvs,H p=some (.dT kvs)))∨(T="set"/\∃S n,H p=some (.set S n))
 |_=>False
theorem aQp {pins:List (Addr×Obj)} {σ:St} {H:Hp} {s:Shared} {T:String} {x:V} {v:Value} (I:Inv X pins σ H s) (r:RelV x v) (ty:tyV X.K T x H):
  s.TypeIs v T/\∀a,v= .ref a->∃ob,s.heap.get? a=some ob/\ob.dict=none:=by
 cases x with
 |str z=>
  obtain⟨t,rfl⟩:=r
  cases (show T="str" from ty)
  exact⟨typeIs_str s z t,fun _ e=>nomatch e⟩
 |int i=>
  obtain⟨t,rfl⟩:=r
  cases (show T="int" from ty)
  exact⟨typeIs_int s i t,fun _ e=>nomatch e⟩
 |ref p=>
  cases r
  rcases ty with ⟨rfl,xs,hq⟩|⟨rfl,o,hk,hc,hd⟩|⟨rfl,hk⟩|⟨rfl,S,n,hk⟩
  ·obtain⟨its,_,pl,_⟩:=I.list hq
   refine⟨pl.isList.typeIs,fun a e=>?_⟩
   cases e
   obtain⟨o,n,e,c,hd,_⟩:=pl
   exact⟨o,e,hd⟩
  ·refine⟨⟨o,I.kIn p o hk,hc⟩,fun a e=>?_⟩
   cases e
   exact⟨o,I.kIn _ o hk,hd⟩
  ·have z:∃o,s.heap.get? p=some o/\o.ExactDict:=by
    rcases hk with ⟨kvs,hk⟩|⟨kvs,hk⟩
    ·obtain⟨_,_,_,_,o,_,_,e,ex,_⟩:=I.hok p _ hk
     exact⟨o,e,ex⟩
    ·obtain⟨_,_,_,_,o,_,_,e,ex,_⟩:=I.hok p _ hk
     exact⟨o,e,ex⟩
   obtain⟨o,e,ex⟩:=z
   refine⟨⟨o,e,ex.1⟩,fun a e2=>?_⟩
   cases e2
   exact⟨o,e,ex.2.1⟩
  ·obtain⟨o,_,_,_,e,ex,_⟩:=I.hok p _ hk
   refine⟨⟨o,e,ex.1⟩,fun a e2=>?_⟩
   cases e2
   exact⟨o,e,ex.2.1⟩
 |_=>exact False.elim ty
def tBM (K:PySem.W.Frag) (T:String) (r:V->List V->Hp->VK->Prop) (to:TE) (t:TA):TE:=fun σ H Q=>to σ H fun x H1=>tyV K T x H1/\t σ H1 fun xs H2=>r x xs H2 Q
variable {o e:Expr} {es:List Expr} {to:TE} {t:TA} {name:Str} {apos cpos:Pos} {T id:String} {r:V->List V->Hp->VK->Prop}
theorem zF (pa:PlainAttrs T) (slot:Slot T name id) (hty:typeOf (.builtin id)=pure (.type "method_descriptor")) (hm:MtR X id r) (ho:PE X o to) (ha:PA X (e::es) t)
  (hbase:attributeBase o name X.env (eval o X.env)=eval o X.env:=by rfl)
  (hfew:((backTo cpos (starEach (e::es) X.env)).all (fun x=> !x.1) && (backToKw cpos (keywordEach [] X.env)).all (fun x=>x.1.isSome)
   && decide ((e::es).length+([]:List Keyword).length+(if([]:List Keyword).isEmpty then 0 else 1)<30))=true:=by rfl)
  (hline:(apos.endLine==cpos.line)=true:=by rfl) (hs:starEach (e::es) X.env=(false,eval e X.env)::starEach es X.env:=by rfl) (hplain:(backTo cpos (starEach es X.env)).any (·.1)=false:=by rfl):
  PE X (.Call (.Attribute o name apos) (e::es) [] cpos) (tBM X.K T r to t):=by
 intro pins s σ H Q I h
 refine wpAny_Call_method_late hbase hfew hline rfl (thn (ho pins s σ H _ I h) fun v s1 ⟨x,H1,I1,r1,ty,q1⟩=>?_)
 obtain⟨h1,h2⟩:=aQp I1 r1 ty
 refine⟨T,id,pa,slot,hty,h1,h2,?_⟩
 have hA:=ha cpos pins s1 σ H1 _ I1 q1
 rw [hs]at hA⊢
 refine Calls.callWith_builtin (by show(false || (backTo cpos (starEach es X.env)).any (·.1))=false;rw [hplain]<;>rfl) (Calls.evalArgs_plain ?_)
 exact thn hA fun us s2 ⟨vs,H2,I2,r2,q2⟩=>hm pins s2 σ H2 x vs v us Q I2 r1 r2 q2
end
end L2
namespace L2
open PySem PySem.Spec PyProof.Rows
def MtM (X:Cx) (id:String) (r:V->List V->Hp->VK->Prop):Prop:=
 ∀(pins:List (Addr×Obj)) (s:Shared) (σ:St) (H:Hp) (x:V) (xs:List V) (v:Value) (us:List Value) (Q:VK),Inv X pins σ H s->RelV x v->Vals xs us->r x xs H Q->
  wpAny (model X.prog X.w) X.A (call (.builtin id) (v::us)) (EP X pins σ Q) X.xe s
theorem Vals.one:∀{x:V} {us:List Value},Vals [x] us->∃u,us=[u]/\RelV x u
 |_,_,.cons r .nil=>⟨_,rfl,r⟩
theorem Vals.eraseIdx:∀{xs:List V} {us:List Value} (i:Nat),Vals xs us->Vals (xs.eraseIdx i) (us.eraseIdx i)
 |_,_,_,.nil=> .nil
 |_,_,0,.cons _ t=>t
 |_,_,i+1,.cons r t=> .cons r (Vals.eraseIdx i t)
theorem gR {α:Type}:∀(l:List α) (i:Nat),(l.eraseIdx i).length<=l.length
 | [],_=>Nat.le_refl _
 |_::_,0=>Nat.le_succ _
 |_::r,i+1=>Nat.succ_le_succ (gR r i)
section
variable {X:Cx} {pins:List (Addr×Obj)} {σ:St} {H:Hp} {s:Shared} {l b:Addr} {xs ys zs:List V}
theorem Inv.lset {its its':List Value} {n:Nat} {f:Array Value->Array Value} {t':Nat} (I:Inv X pins σ H s) (hH:H l=some (.lst xs))
  (e:s.heap.get? l=some {cls:= .type "list",data:= .seq its.toArray n}) (hf:f its.toArray=its'.toArray) (hv:Vals ys its') (hz:ys.length<=sizeLine):
  Inv X pins σ (upd H l (.lst ys)) {s with heap:=s.heap.update l (Obj.mapSeq f),toks:=t'}:=by
 have q:=PySem.IsL.update e f
 rw [hf]at q
 refine I.write (x:=l) (e:=l) (by rw [hH];exact trivial) (.inl rfl) (fun b' u hb hu=>(Heap.get?_update_other s.heap (Obj.mapSeq f) (Ne.symm hb)).trans hu) ⟨_,q⟩ ?_
 exact⟨hz,its',_,hv,q⟩
theorem Inv.lnew {its:List Value} {t':Nat} (I:Inv X pins σ H s) (hv:Vals ys its) (hz:ys.length<=sizeLine):
  Inv X pins σ (upd H s.heap.objs.size (.lst ys)) {s with heap:=s.heap.push {cls:= .type "list",data:= .seq its.toArray},toks:=t'}:=
 I.laid (fun _ _ q=>Heap.get?_push_of_some _ q) (Nat.le_refl _) ⟨hz,its,0,hv,Heap.get?_push_size _ rfl⟩
theorem Inv.fresh (I:Inv X pins σ H s):H s.heap.objs.size=none:=I.hok.fresh (Nat.le_refl _)
theorem Inv.lstM (I:Inv X pins σ H s) (hH:H l=some (.lst xs)):xs.length<=sizeLine/\∃(its:List Value) (n:Nat),Vals xs its/\xs.length=its.length/\s.heap.get? l=some {cls:= .type "list",data:= .seq its.toArray n}:=by
 obtain⟨z,its,n,r,e⟩:=I.hok l _ hH
 exact⟨z,its,n,r,r.length,e⟩
theorem aJy {n:Nat} (h:n<=sizeLine):Builtin.List.listTooLong n=false:=by
 unfold Builtin.List.listTooLong
 exact decide_eq_false (by omega)
end
section
variable {X:Cx}
def aN6:V->List V->Hp->VK->Prop:=fun x vs H Q=>∃l xs y,x= .ref l/\vs=[y]/\H l=some (.lst xs)/\xs.length<sizeLine/\Q .non (upd H l (.lst (xs++[y])))
theorem mU:MtM X "list.append" aN6:=by
 intro pins s σ H x vs v us Q I rx rv h
 obtain⟨l,xs,y,rfl,rfl,hH,hz,q⟩:=h
 cases rx
 obtain⟨u,rfl,ru⟩:=rv.one
 obtain⟨z,its,n,r,hl,e⟩:=I.lstM hH
 refine call_meets F.slot_list_append ⟨_,e,rfl⟩ F.entry_list_append (F.args_list_append_2 _ _) (PySem.list_append l its.toArray n u (by rw [List.size_toArray];omega)) ⟨e,?_⟩
 refine⟨.non,_,I.lset (its':=its++[u]) hH e (by simp) (r.append (.cons ru .nil)) ?_,rfl,q⟩
 rw [List.length_append,List.length_singleton]
 omega
def aOa:V->List V->Hp->VK->Prop:=fun x vs H Q=>∃l b xs zs,x= .ref l/\vs=[.ref b]/\H l=some (.lst xs)/\H b=some (.lst zs)/\xs.length+zs.length<=sizeLine/\Q .non (upd H l (.lst (xs++zs)))
theorem aIc:MtM X "list.extend" aOa:=by
 intro pins s σ H x vs v us Q I rx rv h
 obtain⟨l,b,xs,zs,rfl,rfl,hH,hB,hz,q⟩:=h
 cases rx
 obtain⟨u,rfl,ru⟩:=rv.one
 cases ru
 obtain⟨z,its,n,r,hl,e⟩:=I.lstM hH
 obtain⟨z2,its2,n2,r2,hl2,e2⟩:=I.lstM hB
 have hsz:its.toArray.size+its2.toArray.size<=sizeLine:=by rw [List.size_toArray,List.size_toArray];omega
 have hlong:¬(!its.toArray.isEmpty && Builtin.List.listTooLong (its.toArray.size+its2.toArray.size))=true:=by
  rw [aJy hsz,Bool.and_false]
  exact Bool.false_ne_true
 refine call_meets F.slot_list_extend ⟨_,e,rfl⟩ F.entry_list_extend (F.args_list_extend_2 _ _)
  (AutoSeq1.list_extend_list_list_0 l its.toArray n b its2.toArray n2 hlong (by rw [List.size_toArray];omega) (by omega)) ⟨e,e2,?_⟩
 refine⟨.non,_,I.lset (its':=its++its2) hH e (by simp) (r.append r2) ?_,rfl,q⟩
 rw [List.length_append]
 omega
def aQh:V->List V->Hp->VK->Prop:=fun x vs H Q=>∃l xs i k y,x= .ref l/\vs=[.int i]/\H l=some (.lst xs)/\ -(2 ^ 63)<=i/\i<2 ^ 63/\seqIndex? i xs.length=some k/\xs[k]? =some y/\Q y (upd H l (.lst (xs.eraseIdx k)))
theorem aJ9:MtM X "list.pop" aQh:=by
 intro pins s σ H x vs v us Q I rx rv h
 obtain⟨l,xs,i,k,y,rfl,rfl,hH,h1,h2,hk,hy,q⟩:=h
 cases rx
 obtain⟨u,rfl,ru⟩:=rv.one
 obtain⟨t,rfl⟩:=ru
 obtain⟨z,its,n,r,hl,e⟩:=I.lstM hH
 obtain⟨w,hw,rw'⟩:=r.get hy
 refine call_meets F.slot_list_pop ⟨_,e,rfl⟩ F.entry_list_pop (F.args_list_pop_2 _ _)
  (MeetsSeq.list_pop_at l its.toArray n i t k w (fitsIndex_both h1 h2) (by rw [List.size_toArray, <-hl];exact hk) (by rw [<-Array.getElem?_toList];exact hw) (by rw [List.size_toArray];omega)) ⟨e,?_⟩
 refine⟨y,_,I.lset (its':=its.eraseIdx k) hH e ?_ (r.eraseIdx k) ?_,rw',q⟩
 ·show its.toArray.eraseIdxIfInBounds k=(its.eraseIdx k).toArray
  rw [List.eraseIdxIfInBounds_toArray]
 ·have:=gR xs k
  omega
def aSy:R2:=fun x y H Q=>∃l b xs zs,x= .ref l/\y= .ref b/\H l=some (.lst xs)/\H b=some (.lst zs)/\xs.length+zs.length<=sizeLine/\∀p,H p=none->Q (.ref p) (upd H p (.lst (xs++zs)))
theorem aRd:OpR X (binaryOp .Add) aSy:=by
 intro pins s σ H x y v u Q I rx ry h
 obtain⟨l,b,xs,zs,rfl,rfl,hH,hB,hz,q⟩:=h
 cases rx
 cases ry
 obtain⟨z,its,n,r,hl,e⟩:=I.lstM hH
 obtain⟨z2,its2,n2,r2,hl2,e2⟩:=I.lstM hB
 refine PySem.P.add_list e e2 ?_ (by rw [List.size_toArray,List.size_toArray];omega)
 have ea:its.toArray++its2.toArray=(its++its2).toArray:=by simp
 rw [ea]
 exact⟨.ref _,_,I.lnew (t':=s.toks) (r.append r2) (by rw [List.length_append];omega),rfl,q _ I.fresh⟩
end
section
variable {prog:Program} {w:World} {A:Around} {E:Value->Shared->Prop} {s:Shared}
set_option maxRecDepth 100000 in
end
section
variable {X:Cx}
end
end L2
namespace Att
open PySem PySem.W PySem.Calls PyProof.Rows
theorem vW {P:Params} {h:Heap}:∀(ns:List Int) (vs:List Value),WellAll P h vs (ns.map WData.int)->IntsAre vs ns:=by
 intro ns
 induction ns with
 |nil=>
  intro vs w
  rw [List.map_nil]at w
  cases w
  exact .nil
 |cons n ns ih=>
  intro vs w
  rw [List.map_cons]at w
  cases w with
  |cons a b=>
   cases a
   exact .cons _ _ (ih _ b)
theorem aH5 {l:OpenLaw} {n:Nat} (hn:l.most=some n) {P:Params} {h:Heap} {args:List WData} {vals:List Value}
  (hpre:l.row.toRowW.claim.pre args=true) (hwl:WellAll P h vals args):
  ∃a vs ns,vals=[Value.ref a]/\args=[WData.list (ns.map WData.int)]/\h.get? a=some {cls:= .type "list",data:= .seq vs.toArray}/\IntsAre vs ns/\ns.length<=n:=by
 have hsh:WShape.hasAll [] args [.list .int]=true:=(pre_splitW hpre).1
 have hc:l.pre.holds [] {args:=args}=true:=(pre_splitW hpre).2
 obtain⟨d,r,rfl,h1,h2⟩:=hasAllW_cons hsh
 obtain rfl:=hasAllW_nil h2
 obtain⟨xs,rfl,h3⟩:=hasW_list h1
 obtain⟨ns,rfl⟩:=items_int h3
 have hlen:ns.length<=n:=by
  unfold OpenLaw.pre at hc
  have h4:(WTm.not (.lt (.lit (.int (n:Int))) (.len (.arg 0)))).holds [] {args:=[.list (ns.map .int)]}=true:=by
   have h4:=(holds_andW hc).1
   rw [hn]at h4
   exact h4
  have h5:=condW_of h4 (w_not (w_lt w_lit (w_len_list (w_arg rfl))))
  rw [List.length_map]at h5
  refine Nat.le_of_not_lt fun q=>?_
  have q':(n:Int)<((ns.length:Nat):Int):=by omega
  first
   |(rw [decide_eq_true q']at h5;exact absurd h5 (by decide))
   |(simp at h5;omega)
 cases hwl with
 |cons w1 w2=>
  cases w2
  cases w1 with
  |list ho hall=>exact⟨_,_,ns,rfl,rfl,ho,vW ns _ hall,hlen⟩
theorem aI1 (l:OpenLaw) (args:List WData):l.row.toRowW.claim.post args (.bool true) args=true:=
 postW_of (r:=l.row.toRowW) (X:=(true==true))
  (show WShape.has [] (.bool true) .bool=true by first|rfl|decide|simp [WShape.has,WShape.arms,WShape.armsAll])
  (show(WTm.eq .res (.lit (.bool true))).value [] {args:=args,res:=some (.bool true),after:=args}=some (.bool (true==true))from w_eq_bool (w_res rfl) w_lit) rfl
theorem aDy {l:OpenLaw} {n:Nat} {q:Program} {loose:List Str} {XP:(Str->Option Value)->Heap->Prop} {YP:World->Heap->Prop} {d:DefRec}
  (hn:l.most=some n) (hdf:d.params.defaults=[])
  (call:∀(w:World) (s₀ s₁:Shared) (mg mb:Str->Option Value) (fa:Addr) (o:Obj) (pm cd doc:Value) (a:Addr) (vs:List Value) (ns:List Int),
   Ground q loose [] XP w s₀ mg mb s₁.heap->YP w s₁.heap->
   s₁.heap.get? fa=some o->o.data= .func (docDef d.name d.params d.body d.scope pm cd doc)->s₁.heap.CodeRec cd d.name->mg d.name=some (.ref fa)->
   s₁.heap.get? a=some {cls:= .type "list",data:= .seq vs.toArray}->IntsAre vs ns->ns.length<=n->s₁.gens= #[]->
   codeAny (model l.prog w) callerA (.call (.ref fa) ⟨[.ref a],[]⟩) (fun r s'=>r= .ok (.ret (.bool true))/\OldK s₁.heap s'.heap/\s'.os=s₁.os/\AllBare s'.gens) s₁):
  WalkO q loose XP YP l.row.toRowW d [] (fun f vs=>PySem.call f vs):=by
 intro w s₀ s₁ mg mb G Y fa o pm cd doc dV kV ho hd hcd hD hmg hg args vals as hpre hlay hrd hwl hlo
 obtain rfl:dV= .none:=Dflts.none hD hdf
 obtain rfl:kV= .none:=Dflts.noKw hD
 obtain⟨a,vs,ns,rfl,rfl,hobj,hints,hlen⟩:=aH5 hn hpre hwl
 refine enter_call (codeAny_mono (call w s₀ s₁ mg mb fa o pm cd doc a vs ns G Y ho (fd_plain hd) hcd hmg hobj hints hlen hg) fun r s' hq=>?_)
 obtain⟨rfl,h2,h3,h4⟩:=hq
 exact⟨.inl ⟨.bool true,.bool true,[],rfl,fun _=>rfl,.bool true,aI1 l _,fun _=>⟨List.Pairwise.nil,fun _ hm=>(nomatch hm)⟩⟩,h2,h3,h4⟩
section
variable {prog:Program} {w:World} {A:Around} {E:Value->Shared->Prop} {s:Shared} {K:Frag}
end
end Att
namespace L2
open PySem PySem.Spec PyProof.Rows
theorem aA0:∀{vs:List Value} {ns:List Int},IntsAre vs ns->Vals (ns.map V.int) vs
 |_,_,.nil=> .nil
 |_,_,.cons n t h=> .cons ⟨t,rfl⟩ (aA0 h)
def Only (H:Hp):Prop:=∀b,H b=none∨∃o xs,H b=some (.frz o (.lst xs))
theorem aMe {P:Program} {w:World} {K:PySem.W.Frag} {mg mb:Str->Option Value} {CX:CXT} {k:Nat} {fa a:Addr} {fd:FuncData} {x:Str} {sp:Sp} {s₁:Shared} {vs:List Value} {ns:List Int}
  (KX:K.In s₁.heap) (hns:s₁.heap.Ns mainGlobals mg) (hb:s₁.heap.Ns builtinsNs mb) (hbb:∀x:Str,x≠"__name__"->mb x=bootBuiltins x) (hlim:s₁.heap.NoLimit) (hg:s₁.gens= #[])
  (ha:s₁.heap.get? a=some {cls:= .type "list",data:= .seq vs.toArray}) (hi:IntsAre vs ns) (hl:ns.length<=sizeLine) (hr:eY k callerA)
  (F:∀base:Heap,K.In base->base.Ns mainGlobals mg->bB P w K mg base CX k fa fd [x] sp) (hbind:∀(s:Shared) (u:Value),BindsTo s fd ⟨[u],[]⟩ [(x,u)])
  (hsp:∀H:Hp,Only H->SqL K H a (ns.map V.int)->sp [.ref a] H (fun v _=>v= .bl true) fun _ _ _=>False)
  (hCX:∀H e s',CX [] H s₁ (fun _ _ _=>False) e s'->False):
  codeAny (model P w) callerA (.call (.ref fa) ⟨[.ref a],[]⟩) (fun r s'=>r= .ok (.ret (.bool true))/\OldK s₁.heap s'.heap/\s'.os=s₁.os/\AllBare s'.gens) s₁:=by
 have rv:=aA0 hi
 have lenV:=hi.length
 have core:∀H:Hp,Only H->SqL K H a (ns.map V.int)->HOk P w H s₁.heap->(∀b,H b≠none->b=a)->(H a≠none->K.lookup a=none)->
   codeAny (model P w) callerA (.call (.ref fa) ⟨[.ref a],[]⟩) (fun r s'=>r= .ok (.ret (.bool true))/\OldK s₁.heap s'.heap/\s'.os=s₁.os/\AllBare s'.gens) s₁:=by
  intro H hO hS hok hA hK
  have base_of:∀{b:Addr} {o:Obj},s₁.heap.get? b=some o->H b=none->(aCl s₁.heap H).get? b=some o:=fun e n=>aL0 e n
  have noA:∀{b:Addr} {o:Obj} {es:Array DictEntry} {ep:Nat},s₁.heap.get? b=some o->o.data= .dict es ep->H b=none:=fun{b o es ep} e d=>by
   cases q:H b with
   |none=>rfl
   |some u=>
    have e':b=a:=hA b (by rw [q];simp)
    subst e'
    rw [ha]at e;cases e
    have d':Data.seq vs.toArray _=Data.dict es ep:=d
    cases d'
  have nsK:∀{b:Addr} {m:Str->Option Value},s₁.heap.Ns b m->(aCl s₁.heap H).Ns b m:=fun{b m} ⟨o,es,ep,e,d,r⟩=>⟨o,es,ep,base_of e (noA e d),d,r⟩
  have hKb:K.In (aCl s₁.heap H):=fun b o e=>base_of (KX b o e) (by
   cases q:H b with
   |none=>rfl
   |some u=>
    have e':b=a:=hA b (by rw [q];simp)
    subst e'
    rw [hK (by rw [q];simp)]at e;cases e)
  have hM:Mod K mg (aCl s₁.heap H):=⟨hKb,nsK hns,⟨mb,nsK hb,hbb⟩,let⟨mc,h1,h2⟩:=hlim;⟨mc,nsK h1,h2⟩⟩
  have e0:aE3 P w K mg (aCl s₁.heap H) callerA [] s₁ H:=⟨rfl,hM,fun b o e=>aM8 e,Nat.le_of_eq (aIr _ _),trivial,fun b hb=>absurd (show b∈([]:List Addr)from hb) (by simp),hok,.of_eq hg⟩
  refine codeAny_mono ((F _ hKb (nsK hns)).run callerA [] s₁ H ⟨[.ref a],[]⟩ [.ref a] [.ref a] _ _ hr e0 (hbind s₁ (.ref a)) (.cons rfl .nil) (hsp H hO hS)) fun r s' h=>?_
  cases r with
  |error e=>exact(hCX H e s' h).elim
  |ok fl=>
   cases fl with
   |next=>exact False.elim h
   |brk=>exact False.elim h
   |cont=>exact False.elim h
   |ret u=>
    obtain⟨v,H',os,bare,un,hok',r',q⟩:=h
    have q':v= .bl true:=q
    subst q'
    obtain rfl:u=Value.bool true:=r'
    refine⟨rfl,OldK.of_keep fun b o e=>?_,os,bare⟩
    cases q:H b with
    |none=>exact un.keep b o e q (by intro z;exact absurd (show b∈([]:List Addr)from z) (by simp)) (by simp)
    |some u=>
     rcases hO b with z|⟨ob,xs,z⟩
     ·rw [q]at z;cases z
     ·have z2:=un.frzs b ob _ z
      obtain⟨e1,_⟩:=hok b _ z
      obtain⟨e2,_⟩:=hok' b _ z2
      rw [e]at e1;cases e1
      exact e2
 cases hk:K.lookup a with
 |some o=>
  have e:=KX a o hk
  rw [ha]at e
  cases e
  refine core (fun _=>none) (fun _=> .inl rfl) (.inr ⟨_,vs.toArray,_,hk,rfl,rfl,rfl,by rw [List.size_toArray,lenV];exact hl,by simpa using rv⟩) (fun b u z=>by have z':(none:Option HO)=some u:=z;cases z') (fun b z=>absurd rfl z) fun z=>absurd rfl z
 |none=>
  refine core (fun b=>if b=a then some (.frz {cls:= .type "list",data:= .seq vs.toArray} (.lst (ns.map V.int)))else none) (fun b=>?_) (.inl (.inr ⟨{cls:= .type "list",data:= .seq vs.toArray},if_pos rfl⟩)) (fun b u z=>?_) (fun b z=>?_) fun _=>hk
  ·by_cases hb:b=a
   ·exact .inr ⟨_,_,if_pos hb⟩
   ·exact .inl (if_neg hb)
  ·by_cases hb:b=a
   ·have z':=(if_pos hb).symm.trans z
    cases z'
    subst hb
    exact⟨ha,by rw [List.length_map];exact hl,vs,_,rv,ha⟩
   ·have z':=(if_neg hb).symm.trans z
    cases z'
  ·by_cases hb:b=a
   ·exact hb
   ·exact absurd (if_neg hb) z
end L2
namespace L2
open PySem PySem.Spec PyProof.Rows
theorem aGj {l:PySem.W.OpenLaw} {n k:Nat} {q:Program} {loose:List Str} {XP:(Str->Option Value)->Heap->Prop} {YP:World->Heap->Prop} {d:DefRec} {K:Params->PySem.W.Frag} {CX:World->CXT} {sp:World->Sp} {x:Str}
  (hn:l.most=some n) (hn2:n<=sizeLine) (hdf:d.params.defaults=[]) (hr:eY k callerA)
  (hY:∀(w:World) (h:Heap),YP w h->(K w.params).In h)
  (F:∀(w:World) (mg:Str->Option Value) (fa:Addr) (h:Heap),(K w.params).In h->h.Ns mainGlobals mg->mg d.name=some (.ref fa)->
   ∃fd:FuncData,(∀(s:Shared) (u:Value),BindsTo s fd ⟨[u],[]⟩ [(x,u)])/\
    ∀base:Heap,(K w.params).In base->base.Ns mainGlobals mg->bB l.prog w (K w.params) mg base (CX w) k fa fd [x] (sp w))
  (hsp:∀(w:World) (H:Hp) (a:Addr) (ns:List Int),ns.length<=n->Only H->SqL (K w.params) H a (ns.map V.int)->sp w [.ref a] H (fun v _=>v= .bl true) fun _ _ _=>False)
  (hCX:∀(w:World) (H:Hp) (s:Shared) (e:Value) (s':Shared),CX w [] H s (fun _ _ _=>False) e s'->False):
  PySem.W.WalkO q loose XP YP l.row.toRowW d [] (fun f vs=>PySem.call f vs):=by
 refine Att.aDy hn hdf fun w s₀ s₁ mg mb fa o pm cd doc a vs ns G Y ho hd hcd hmg hobj hints hlen hg=>?_
 have KX:=hY w _ Y
 obtain⟨fd,hb,hF⟩:=F w mg fa _ KX G.T.g hmg
 exact aMe KX G.T.g G.T.b G.T.builtins G.T.nolimit hg hobj hints (Nat.le_trans hlen hn2) hr hF hb (fun H hO hS=>hsp w H a ns hlen hO hS) fun H e s'=>hCX w H s₁ e s'
end L2
/-THE LAST THEOREM (shape;LID,My.*are yours):
   My.Adr:a structure of the addresses that your layer names (classes,functions);My.Txt K t:a structure (Prop) of the equations over K;
   My.txt_mk:{K} {implicit addresses ..} (e1:nsIn K mainGlobals "law"=some (some (.ref f))) (e2:K.lookup f=some ⟨oc,od,.func (fnOf "law" "law" params body scope dV kV doc pm an cdv ct),sl⟩) (e3:codeIn K cdv "law"=true) .. :∃t,My.Txt K t
set_option maxRecDepth 100000 in
set_option maxHeartbeats 0 in
theorem PySem.Challenge.cw_LID_holds : PySem.Challenge.rw_LID.Holds := by
  w_on; o_law; k_head; (case hw => w_witness2)
  k_fill
  refine L2.aGj (l := PySem.Challenge.rw_LID) (n := 63) (k := 40) (x := "script") (CX := fun w => ..) (sp := fun _ => My.sp_law) rfl (by decide) rfl ⟨rfl, by decide, by decide⟩ (fun w h Y => PySem.W.kIn_of Y) ?F ?S ?C
  case F =>
    intro w mg fa h KX G hmg
    have T : ∃ t, My.Txt (L2.KOf KX) t := by
      dsimp only [L2.KOf]                          -- K must stand as «<heap const> w.params» for k_is
      refine' My.txt_mk ?e1 ?e2 ?e3 ..
      (case e1 => PySem.W.k_is)                    -- in the order: a name -> its address -> its object -> its parts
      (case e2 => PySem.W.k_is)
      ..
    obtain ⟨t, T⟩ := T
    have e0 := hmg.symm.trans (PySem.W.mg_of KX G T.law)
    cases e0                                       -- fa is the law's own address
    exact ⟨_, fun s u => .of_eq rfl, fun base kb nb => My.law_fn T kb nb⟩     -- if «.of_eq rfl» comes too early: refine' ⟨_, ?b, fun base kb nb => My.law_fn T kb nb⟩; exact fun s u => .of_eq rfl
  case S => exact fun w H a ns hl hO hS => ..
  case C => exact ..
(the tactic k_is has no namespace:write k_is)-/
namespace L2
open PySem PySem.Spec PyProof.Rows
def inClass (s:Stmt) (j:Nat):Stmt:=match s with
 | .ClassDef _ _ _ body _ _ _ _ _ _ _=>body.getD j (.Pass ⟨0,0,0,0⟩)
 |_=> .Pass ⟨0,0,0,0⟩
def iY (s:Stmt):Arguments:=match s with
 | .FunctionDef _ a _ _ _ _ _ _ _ _=>a
 |_=>{posonlyargs:=[],args:=[],vararg:=none,kwonlyargs:=[],kw_defaults:=[],kwarg:=none,defaults:=[]}
def fH (s:Stmt):List Stmt:=match s with
 | .FunctionDef _ _ b _ _ _ _ _ _ _=>b
 |_=>[]
def aC (s:Stmt):Scope:=match s with
 | .FunctionDef _ _ _ _ _ _ sc _ _ _=>sc
 |_=>{kind:= .function,names:=[],isGenerator:=false,isCoroutine:=false}
abbrev CX0:CXT:=fun _ _ _ _ _ _=>False
abbrev E0:XK:=fun _ _ _=>False
theorem bF {X:Cx}:oE CX0 X E0:=fun _ _ _ _ _ _ _ h=>h.elim
structure Fun (K:PySem.W.Frag) (x qual:Str) (st:Stmt) (f:Addr) (fd:FuncData):Prop where
 ex:∃(oc:Value) (od:Option Addr) (kV doc pm:Value) (an:Option Addr) (cdv ct:Value) (osl:Array (Option Value)),
  fd=PySem.W.fnOf x qual (iY st) (fH st) (aC st) .none kV doc pm an cdv ct/\K.lookup f=some ⟨oc,od,.func fd,osl⟩/\PySem.W.codeIn K cdv qual=true
 kp:PySem.W.keepIn K (.ref f)=true
section
variable {P:Program} {w:World} {K:PySem.W.Frag} {mg:Str->Option Value} {base:Heap}
theorem Fun.ok {x qual:Str} {st:Stmt} {f:Addr} {fd:FuncData} {N ps:List Str} {k:Nat} {sp:Sp} (F:Fun K x qual st f fd) (S:aM N ps (aC st)) (len:∀vs H Q E,sp vs H Q E->vs.length=ps.length)
  (hbody:∀(cdv:Value) (A:Around) (outer:List Env) (s:Shared) (H:Hp) (vs:List V) (Q:VK) (E:XK),eY k (A.deeper (envOfC qual (aC st) s.heap.objs.size f cdv))->sp vs H Q E->
   ∃t,PSs (aC8 CX0 P w K mg base N qual (aC st) f cdv A outer s H E).nox (fH st) t/\t {nx:=fun _ H'=>Q .non H',rt:=Q} (start N vs) H):bB P w K mg base CX0 (k+1) f fd ps sp:=by
 obtain⟨oc,od,kV,doc,pm,an,cdv,ct,osl,rfl,lk,hcd⟩:=F.ex
 refine aRu lk hcd S len fun A outer s H vs Q E hr hsp=>?_
 obtain⟨t,h,q⟩:=hbody cdv A outer s H vs Q E hr hsp
 exact⟨t,h.nox,q⟩
theorem Fun.binds {x qual:Str} {st:Stmt} {f:Addr} {fd:FuncData} {ps:List Str} (F:Fun K x qual st f fd)
  (h:∀(kV doc pm:Value) (an:Option Addr) (cdv ct:Value) (us:List Value),us.length=ps.length->bindArgs (PySem.W.fnOf x qual (iY st) (fH st) (aC st) .none kV doc pm an cdv ct) ⟨us,[]⟩=pure (ps.zip us)):Binds K fd ps []:=by
 obtain⟨oc,od,kV,doc,pm,an,cdv,ct,osl,rfl,lk,hcd⟩:=F.ex
 exact .all (h kV doc pm an cdv ct)
theorem aQx {x qual:Str} {st:Stmt} {f:Addr} {oc:Value} {od an:Option Addr} {osl:Array (Option Value)} {kV doc pm cdv ct:Value} (l:K.lookup f=some ⟨oc,od,.func (PySem.W.fnOf x qual (iY st) (fH st) (aC st) .none kV doc pm an cdv ct),osl⟩)
  (c:PySem.W.codeIn K cdv qual=true) (k:PySem.W.keepIn K (.ref f)=true):Fun K x qual st f (PySem.W.fnOf x qual (iY st) (fH st) (aC st) .none kV doc pm an cdv ct):=⟨⟨oc,od,kV,doc,pm,an,cdv,ct,osl,rfl,l,c⟩,k⟩
end
theorem iQ {A:Around} {k:Nat} (hr:eY k A):A.units+1<cLine:=Nat.lt_of_le_of_lt (Nat.add_le_add_left (by decide:1<=64) _) hr.units
section
variable {X:Cx}
theorem pv (i:Nat) {x:Str} {pos:Pos} (hN:X.N[i]? =some x:=by rfl) (hv:Vis X.env.scope x:=by first|exact Or.inl rfl|exact Or.inr (Or.inl rfl)|exact Or.inr (Or.inr rfl)) (hd:(x==("__debug__":Str))=false:=by decide)
  (hcd:(x==("__classdict__":Str))=false:=by decide):PE X (.Name x pos) (aRq i):=uX hN hv hd hcd
end
theorem pL {A B:Prop} (h:B):if false=true then A else B:=by
 rw [if_neg Bool.false_ne_true]
 exact h
theorem aGa {A B:Prop} (h:A):if true=true then A else B:=by
 rw [if_pos rfl]
 exact h
theorem aT6 {c A B:Prop} [Decidable c] (h1:c->A) (h2:¬c->B):if c then A else B:=by
 by_cases h:c
 ·rw [if_pos h]
  exact h1 h
 ·rw [if_neg h]
  exact h2 h
theorem aK4 {c A B:Prop} [Decidable c] (hc:c) (h:B):if(!decide c)=true then A else B:=by
 rw [decide_eq_true hc]
 exact pL h
def dW (H H':Hp):Prop:=∀b o,H b=some o->H' b=some o
theorem dW.refl (H:Hp):dW H H:=fun _ _ h=>h
theorem dW.trans {H H1 H2:Hp} (a:dW H H1) (b:dW H1 H2):dW H H2:=fun c o h=>b c o (a c o h)
end L2
set_option maxHeartbeats 4000000
namespace L2
open PySem PySem.Spec PyProof.Rows
section
variable {κ:Type} [DecidableEq κ]
def tX (kvs:List (κ×V)) (k:κ):Option V:=(kvs.find? fun kv=>decide (kv.1=k)).map (·.2)
def putK (kvs:List (κ×V)) (k:κ) (v:V):List (κ×V):=
 if(kvs.any fun kv=>decide (kv.1=k))=true then kvs.map (fun kv=>if kv.1=k then(kv.1,v)else kv)else kvs++[(k,v)]
theorem pB {p:κ×V} {r:List (κ×V)} {k:κ} (e:p.1=k):tX (p::r) k=some p.2:=by simp [tX,List.find?_cons,e]
theorem pO {p:κ×V} {r:List (κ×V)} {k:κ} (e:¬p.1=k):tX (p::r) k=tX r k:=by simp [tX,List.find?_cons,e]
theorem aDj (k:κ):∀kvs:List (κ×V),(kvs.any fun kv=>decide (kv.1=k))=(tX kvs k).isSome
 | []=>rfl
 |p::r=>by
  rw [List.any_cons]
  by_cases e:p.1=k
  ·simp only [pB e,decide_eq_true e,Bool.true_or,Option.isSome_some]
  ·rw [pO e,decide_eq_false e,Bool.false_or];exact aDj k r
theorem pD (kvs:List (κ×V)) (k:κ) (v:V):(putK kvs k v).length<=kvs.length+1:=by
 unfold putK
 split
 ·rw [List.length_map];omega
 ·rw [List.length_append,List.length_cons,List.length_nil];omega
theorem qX.isSome_eq {o:Option V} {u:Option Value} (r:qX o u):o.isSome=u.isSome:=by
 cases o with
 |none=>cases u with
  |none=>rfl
  |some _=>exact(show False from r).elim
 |some _=>cases u with
  |none=>exact(show False from r).elim
  |some _=>rfl
theorem KV.val {kvs:List (κ×V)} {vs:List (κ×Value)} (r:KV kvs vs) (k:κ):qX (tX kvs k) (valueAt vs k):=by
 unfold KV at r
 induction r with
 |nil=>exact True.intro
 |@cons p q ps qs h t ih=>
  obtain⟨h1,h2⟩:=h
  by_cases e:p.1=k
  ·have e':q.1=k:=h1.symm.trans e
   have b:valueAt (q::qs) k=some q.2:=by simp [valueAt,List.find?_cons,e']
   rw [pB e,b];exact h2
  ·have e':¬q.1=k:=fun z=>e (h1.trans z)
   have b:valueAt (q::qs) k=valueAt qs k:=by simp [valueAt,List.find?_cons,e']
   rw [pO e,b];exact ih
theorem KV.any {kvs:List (κ×V)} {vs:List (κ×Value)} (r:KV kvs vs) (k:κ):(kvs.any fun kv=>decide (kv.1=k))=vs.any fun kv=>decide (kv.1=k):=by
 unfold KV at r
 induction r with
 |nil=>rfl
 |cons h t ih=>rw [List.any_cons,List.any_cons,ih,h.1]
theorem KV.repl {kvs:List (κ×V)} {vs:List (κ×Value)} (r:KV kvs vs) (k:κ) {y:V} {u:Value} (ry:RelV y u):
  KV (kvs.map fun kv=>if kv.1=k then(kv.1,y)else kv) (vs.map fun kv=>if kv.1=k then(kv.1,u)else kv):=by
 unfold KV at r⊢
 induction r with
 |nil=>exact .nil
 |@cons p q ps qs h t ih=>
  rw [List.map_cons,List.map_cons]
  refine .cons ?_ ih
  obtain⟨h1,h2⟩:=h
  by_cases e:p.1=k
  ·rw [if_pos e,if_pos (h1.symm.trans e)];exact⟨h1,ry⟩
  ·rw [if_neg e,if_neg (fun z=>e (h1.trans z))];exact⟨h1,h2⟩
theorem KV.put {kvs:List (κ×V)} {vs:List (κ×Value)} (r:KV kvs vs) (k:κ) {y:V} {u:Value} (ry:RelV y u):KV (putK kvs k y) (stored vs k u):=by
 unfold putK stored
 rw [r.any k]
 by_cases e:(vs.any fun kv=>decide (kv.1=k))=true
 ·rw [if_pos e,if_pos e];exact r.repl k ry
 ·rw [if_neg e,if_neg e];exact Paired.snoc r ⟨rfl,ry⟩
theorem KV.length {kvs:List (κ×V)} {vs:List (κ×Value)} (r:KV kvs vs):kvs.length=vs.length:=Paired.length r
end
theorem aHe {P:Program} {w:World} {k:Key} {u:Value} (r:RelV (kV k) u):(dN P w).is k u=true:=by
 cases k with
 |inl i=>obtain⟨t,e⟩:=(show∃t,u=Value.int i t from r);subst e;exact aDs P w i t
 |inr x=>obtain⟨t,e⟩:=(show∃t,u=Value.str x t from r);subst e;exact aDl P w x t
theorem aAt {P:Program} {w:World}:∀{ks:List Key} {us:List Value},Vals (ks.map kV) us->ItemsAre (dN P w) ks us
 | [],_,r=>by rw [List.map_nil]at r;cases r;exact .nil
 |k::ks,_,r=>by
  rw [List.map_cons]at r
  cases r with
  |cons h t=>exact .cons (aHe h) (aAt t)
abbrev KT (H:Hp):List (List Key×V)->List (List Key×Addr×Value)->Prop:=Paired fun p q=>p.1=q.1/\H q.2.1=some (.tup (p.1.map kV))/\RelV p.2 q.2.2
theorem KT.val {H:Hp} {kvs:List (List Key×V)} {xs:List (List Key×Addr×Value)} (r:KT H kvs xs) (k:List Key):qX (tX kvs k) ((atKey xs k).map (·.2)):=by
 induction r with
 |nil=>exact True.intro
 |@cons p q ps qs h t ih=>
  obtain⟨h1,_,h2⟩:=h
  by_cases e:p.1=k
  ·have e':q.1=k:=h1.symm.trans e
   have b:atKey (q::qs) k=some q.2:=by simp [atKey,List.find?_cons,e']
   rw [pB e,b];exact h2
  ·have e':¬q.1=k:=fun z=>e (h1.trans z)
   have b:atKey (q::qs) k=atKey qs k:=by simp [atKey,List.find?_cons,e']
   rw [pO e,b];exact ih
theorem KT.repl {H:Hp} {kvs:List (List Key×V)} {xs:List (List Key×Addr×Value)} (r:KT H kvs xs) (k:List Key) {y:V} {u:Value} (ry:RelV y u):
  KT H (kvs.map fun kv=>if kv.1=k then(kv.1,y)else kv) (xs.map (putAt k u)):=by
 induction r with
 |nil=>exact .nil
 |@cons p q ps qs h t ih=>
  rw [List.map_cons,List.map_cons]
  refine .cons ?_ ih
  obtain⟨h1,h2,h3⟩:=h
  unfold putAt
  by_cases e:p.1=k
  ·rw [if_pos e,if_pos (h1.symm.trans e)];exact⟨h1,h2,ry⟩
  ·rw [if_neg e,if_neg (fun z=>e (h1.trans z))];exact⟨h1,h2,h3⟩
theorem KT.put {H:Hp} {kvs:List (List Key×V)} {xs:List (List Key×Addr×Value)} (r:KT H kvs xs) (k:List Key) {b:Addr} {y:V} {u:Value} (hb:H b=some (.tup (k.map kV))) (ry:RelV y u):
  KT H (putK kvs k y) (storedH xs k b u):=by
 have e:(kvs.any fun kv=>decide (kv.1=k))=(atKey xs k).isSome:=by
  rw [aDj,(r.val k).isSome_eq,Option.isSome_map]
 unfold putK storedH
 rw [e]
 by_cases q:(atKey xs k).isSome=true
 ·rw [if_pos q,if_pos q];exact r.repl k ry
 ·rw [if_neg q,if_neg q];exact Paired.snoc r ⟨rfl,hb,ry⟩
theorem KT.keeps {H H':Hp} {kvs:List (List Key×V)} {xs:List (List Key×Addr×Value)} (r:KT H kvs xs) (ht:∀b ys,H b=some (.tup ys)->H' b=some (.tup ys)):KT H' kvs xs:=
 Paired.mapP r fun _ _ z=>⟨z.1,ht _ _ z.2.1,z.2.2⟩
section
variable {P:Program} {w:World} {H:Hp} {h:Heap} {a:Addr}
theorem aOh {u:HO} (ok:HOk P w H h) (e:Rd H a u):cQ P w H h a u:=e.ok ok
theorem aMo {kvs:List (Key×V)} (ok:HOk P w H h) (e:Rd H a (.dK kvs)):kvs.length<=sizeLine/\(a==sysModules)=false/\∃vs,KV kvs vs/\h.DictOf (dN P w) a vs:=
 show cQ P w H h a (.dK kvs)from aOh ok e
theorem aO0 {kvs:List (Key×V)} (ok:HOk P w H h) (e:H a=some (.dK kvs)):kvs.length<=sizeLine/\(a==sysModules)=false/\∃vs,KV kvs vs/\h.DictOf (dN P w) a vs:=aMo ok (.inl e)
theorem aFk {ks:List Key} (ok:HOk P w H h) (e:H a=some (.tup (ks.map kV))):(tupleKind (dN P w)).is h ks a:=by
 obtain⟨_,its,r,o,h1,h2,n,h3⟩:=(show cQ P w H h a (.tup (ks.map kV))from ok a _ e)
 exact⟨o,its.toArray,n,h1,h2,h3,by simpa using aAt r⟩
theorem aMb {kvs:List (List Key×V)} (ok:HOk P w H h) (e:Rd H a (.dT kvs)):kvs.length<=sizeLine/\(a==sysModules)=false/\
  ∃xs,KT H kvs xs/\h.DictOfH (tupleKind (dN P w)) a xs:=by
 obtain⟨z,y,xs,r,o,es,ep,h1,h2,h3,h4,h5⟩:=(show cQ P w H h a (.dT kvs)from aOh ok e)
 refine⟨z,y,xs,r,o,es,ep,h1,h2,h3,h4,fun x hx=>?_,h5⟩
 have all:∀{l:List (List Key×V)} {m:List (List Key×Addr×Value)},KT H l m->∀x∈m,(tupleKind (dN P w)).is h x.1 x.2.1:=by
  intro l m q
  induction q with
  |nil=>intro x hx;exact nomatch hx
  |@cons p q ps qs hq t ih=>
   intro x hx
   rcases List.mem_cons.mp hx with e|hx
   ·subst e
    exact aFk ok (by rw [<-hq.1];exact hq.2.1)
   ·exact ih x hx
 exact all r x hx
theorem aSz {kvs:List (List Key×V)} (ok:HOk P w H h) (e:H a=some (.dT kvs)):kvs.length<=sizeLine/\(a==sysModules)=false/\
  ∃xs,KT H kvs xs/\h.DictOfH (tupleKind (dN P w)) a xs:=aMb ok (.inl e)
end
def aD1 (H:Hp) (a:Addr) (y:V) (r:Option V):Prop:=
 (∃kvs k,Rd H a (.dK kvs)/\y=kV k/\r=tX kvs k)∨∃kvs k b,Rd H a (.dT kvs)/\y= .ref b/\H b=some (.tup (k.map kV))/\r=tX kvs k
def aBe (H:Hp) (a:Addr) (y v:V) (H':Hp):Prop:=
 (∃kvs k,H a=some (.dK kvs)/\y=kV k/\kvs.length<sizeLine/\H'=upd H a (.dK (putK kvs k v)))∨
 ∃kvs k b,H a=some (.dT kvs)/\y= .ref b/\H b=some (.tup (k.map kV))/\kvs.length<sizeLine/\H'=upd H a (.dT (putK kvs k v))
theorem aD1.k {H:Hp} {a:Addr} {kvs:List (Key×V)} {k:Key} (e:H a=some (.dK kvs)):aD1 H a (kV k) (tX kvs k):= .inl ⟨kvs,k,.inl e,rfl,rfl⟩
theorem aBe.k {H:Hp} {a:Addr} {kvs:List (Key×V)} {k:Key} {v:V} (e:H a=some (.dK kvs)) (hl:kvs.length<sizeLine):aBe H a (kV k) v (upd H a (.dK (putK kvs k v))):= .inl ⟨kvs,k,e,rfl,hl,rfl⟩
section
variable {X:Cx} {pins:List (Addr×Obj)} {σ:St} {H:Hp} {s:Shared} {a:Addr} {y v:V} {u r:Value} {o:Option V} {A:Around} {E:Value->Shared->Prop}
theorem Inv.big (I:Inv X pins σ H s):sysModules<s.heap.objs.size:=by
 have h:mainGlobals<s.heap.objs.size:=(I.mod.glob.keeps I.bk).lt
 exact Nat.lt_trans (by decide) h
theorem aIx {Q:Value->Shared->Prop} (hu:A.units+1<cLine) (I:Inv X pins σ H s) (g:aD1 H a y (some v)) (ry:RelV y u) (h:∀w' s',Inv X pins σ H s'->RelV v w'->Q w' s'):
  wpAny (model X.prog X.w) A (getItem (.ref a) u) Q E s:=by
 rcases g with ⟨kvs,k,e,ey,l⟩|⟨kvs,k,b,e,ey,eb,l⟩
 ·subst ey
  obtain⟨z,hd,vs,rel,dd⟩:=aMo I.hok e
  obtain⟨w',hw,rw'⟩:=qX.some_of (v:=v) (o:=valueAt vs k) (by rw [l];exact rel.val k)
  exact wpAny_getItem_of (aHe ry) dd.mapOf hw (h w' _ (I.tok _) rw')
 ·subst ey
  cases (show u=Value.ref b from ry)
  obtain⟨z,hd,xs,rel,dd⟩:=aMb I.hok e
  obtain⟨w',hw,rw'⟩:=qX.some_of (v:=v) (o:=(atKey xs k).map (·.2)) (by rw [l];exact rel.val k)
  obtain⟨p,hp,hp2⟩:=Option.map_eq_some_iff.mp hw
  refine wpAny_getItem_heap (tupleKind_room_in1 hu) (aFk I.hok eb) dd hp ?_
  rw [hp2]
  exact h w' _ (I.tok _) rw'
theorem aBv {h':Heap} {t':Nat} {ob:HO} (I:Inv X pins σ H s) (mu:Mut (H a)) (hs:Heap.SameBut a s.heap h') (he:∃q,h'.get? a=some q) (new:cQ X.prog X.w (upd H a ob) h' a ob):
  Inv X pins σ (upd H a ob) {s with heap:=h',toks:=t'}:=
 I.write (x:=a) (e:=a) mu (.inl rfl) (fun b q hb z=>(hs.2 b hb).trans z) he new
theorem aI6 {P:Program} {w:World} {H':Hp} {h':Heap} {kvs:List (Key×V)} {vs:List (Key×Value)} (z:kvs.length<=sizeLine) (hd:(a==sysModules)=false) (rel:KV kvs vs) (dd:h'.DictOf (dN P w) a vs):
  cQ P w H' h' a (.dK kvs):=⟨z,hd,vs,rel,dd⟩
theorem aIh {H':Hp} {Q:Unit->Shared->Prop} (hu:A.units+1<cLine) (I:Inv X pins σ H s) (g:aBe H a y v H') (ry:RelV y u) (rv:RelV v r) (h:∀s',Inv X pins σ H' s'->Q () s'):
  wpAny (model X.prog X.w) A (setItem (.ref a) u r) Q E s:=by
 rcases g with ⟨kvs,k,e,ey,l,eH⟩|⟨kvs,k,b,e,ey,eb,l,eH⟩
 ·subst ey eH
  obtain⟨z,hd,vs,rel,dd⟩:=aO0 I.hok e
  have hz:vs.length<=sizeLine:=by rw [<-rel.length];exact z
  have hl:(putK kvs k v).length<=sizeLine:=by have:=pD kvs k v;omega
  refine wpAny_setItem_pairs (hsz:=hz) (aHe ry) dd fun h' dd' hs=>h _ ?_
  have he:∃q,h'.get? a=some q:=let⟨q,_,_,hq,_⟩:=dd';⟨q,hq⟩
  exact aBv I (by rw [e];exact True.intro) hs he (aI6 hl hd (rel.put k rv) dd')
 ·subst ey eH
  cases (show u=Value.ref b from ry)
  obtain⟨z,hd,xs,rel,dd⟩:=aSz I.hok e
  have hz:xs.length<=sizeLine:=by rw [<-Paired.length rel];exact z
  have hl:(putK kvs k v).length<=sizeLine:=by have:=pD kvs k v;omega
  refine wpAny_setItem_heap (hsz:=hz) (tupleKind_room_in1 hu) (aFk I.hok eb) dd fun h' dd' hs=>h _ ?_
  obtain⟨q,es,ep,hq,h2,h3,h4,_,h5⟩:=dd'
  refine aBv I (by rw [e];exact True.intro) hs ⟨q,hq⟩ ⟨hl,hd,_,(rel.put k eb rv).keeps fun c ys ec=>?_,q,es,ep,hq,h2,h3,h4,h5⟩
  rw [aQ (aS2 ec e (fun z=>nomatch z))]
  exact ec
end
section
variable {X:Cx} {pins:List (Addr×Obj)} {σ:St} {H:Hp} {s:Shared} {a:Addr} {kvs:List (Key×V)} {k:Key} {u:Value} {A:Around} {E:Value->Shared->Prop}
end
def aPp (i:Expr):Prop:=∀ov iv,subscripted i false ov iv=operate [ov,iv] (getItem ov iv)
theorem aNv {prog:Program} {w:World} {A:Around} {E:Value->Shared->Prop} {s:Shared} {env:Env} {value slice:Expr} {pos:Pos} {T id:String} {Q:Value->Shared->Prop}
  (hl:typeLookup (.type T) "__getitem__"=pure (some (.builtin id))) (hs:aPp slice)
  (h:wpAny (model prog w) A (eval value env) (fun o s₁=>wpAny (model prog w) A (eval slice env) (fun i s₂=>s₂.TypeIs o T/\wpAny (model prog w) A (getItem o i) Q E s₂) E s₁) E s):
  wpAny (model prog w) A (eval (.Subscript value slice pos) env) Q E s:=by
 refine Subscript_ (wpAny_mono h (fun o s₁ h₁=>wpAny_mono h₁ (fun i s₂ h₂=>?_) fun _ _ x=>x) fun _ _ x=>x)
 obtain⟨hT,h₂⟩:=h₂
 unfold subscriptTail
 refine wpAny_bind ?_
 rw [getitemInPython_of_ne hT.not_modules]
 refine wpAny_bind (wpAny_specialOf hT hl ?_)
 have fin:wpAny (model prog w) A (subscripted slice false o i) (fun r s₃=>wpAny (model prog w) A (letTemporaryGo value o r>>=fun _=>pure r) Q E s₃) E s₂:=by
  rw [hs o i]
  exact wpAny_operating (wpAny_mono h₂ (fun r s₃ h₃=>wpAny_bind (wpAny_letTemporaryGo (wpAny_pure h₃))) fun _ _ x=>x)
 first
  |exact wpAny_pure (wpAny_bind fin)
  |exact wpAny_bind (wpAny_pure (wpAny_bind fin))
  |exact wpAny_bind fin
theorem aD2 {X:Cx} {pins:List (Addr×Obj)} {σ:St} {H:Hp} {s:Shared} {a:Addr} {y:V} {o:Option V} (I:Inv X pins σ H s) (g:aD1 H a y o):s.TypeIs (.ref a) "dict":=by
 rcases g with ⟨kvs,k,e,_,_⟩|⟨kvs,k,b,e,_,_,_⟩
 ·obtain⟨_,_,vs,_,dd⟩:=aMo I.hok e
  exact dd.typeIs
 ·obtain⟨_,_,xs,_,dd⟩:=aMb I.hok e
  exact dd.typeIs
def aRv (td ty:TE):TE:=fun σ H Q=>td σ H fun x H1=>ty σ H1 fun y H2=>∃a v,x= .ref a/\aD1 H2 a y (some v)/\Q v H2
def aSu (td ty tv:TE):TS:=fun D σ H=>tv σ H fun v H1=>td σ H1 fun x H2=>ty σ H2 fun y H3=>∃a H4,x= .ref a/\aBe H3 a y v H4/\D.nx σ H4
section
variable {X:Cx} {o i e value:Expr} {pos pos' tpos:Pos} {td ty tv:TE}
theorem aG9 (hu:X.A.units+1<cLine) (ho:PE X o td) (hi:PE X i ty) (hs:aPp i):PE X (.Subscript o i pos) (aRv td ty):=by
 intro pins s σ H Q I h
 refine aNv PySem.F.slot_dict_getitem.lookup hs (thn (ho pins s σ H _ I h) fun u s1 ⟨x,H1,I1,rx,q1⟩=>thn (hi pins s1 σ H1 _ I1 q1) fun iv s2 ⟨y,H2,I2,ry,a,v,ex,g,q2⟩=>?_)
 subst ex
 obtain rfl:u=Value.ref a:=rx
 exact⟨aD2 I2 g,aIx hu I2 g ry fun w' s3 I3 rw'=>⟨v,H2,I3,rw',q2⟩⟩
theorem qP (hu:X.A.units+1<cLine) (ho:PE X o td) (hi:PE X i ty) (hv:PE X value tv) (hs:swapsWith value (some (.Subscript o i pos')) pos.line X.env=pure false):
  PS X (.Assign [.Subscript o i pos'] value pos) (aSu td ty tv):=by
 intro pins s σ H D I h
 refine wpAny_Assign_Subscript (thn (hv pins s σ H _ I h) fun r s1 ⟨v,H1,I1,rv,q1⟩=>thn (ho pins s1 σ H1 _ I1 q1) fun u s2 ⟨x,H2,I2,rx,q2⟩=>thn (hi pins s2 σ H2 _ I2 q2) fun iv s3 ⟨y,H3,I3,ry,a,H4,ex,g,q3⟩=>?_) hs
 subst ex
 obtain rfl:u=Value.ref a:=rx
 exact aIh hu I3 g ry rv fun s4 I4=>⟨σ,H4,I4,q3⟩
end
theorem aKg {P:Program} {w:World} {H:Hp} (h:Heap) (hb:sysModules<h.objs.size):cQ P w H (h.push {cls:= .type "dict",data:= .dict #[]}) h.objs.size (.dK []):=
 ⟨Nat.zero_le _,beq_eq_false_iff_ne.mpr (Ne.symm (Nat.ne_of_lt hb)),[],.nil,Heap.DictOf.new h⟩
section
variable {X:Cx} {pos:Pos}
end
def aFt:List (TE×TE)->St->Hp->(List (V×V)->Hp->Prop)->Prop
 | [],_,H,Q=>Q [] H
 |(tk,tv)::r,σ,H,Q=>tk σ H fun x H1=>tv σ H1 fun y H2=>aFt r σ H2 fun ps H3=>Q ((x,y)::ps) H3
abbrev VV:List (V×V)->List (Value×Value)->Prop:=Paired fun p q=>RelV p.1 q.1/\RelV p.2 q.2
def PPs (X:Cx) (pos:Pos) (keys:List (Option Expr)) (values:List Expr) (trs:List (TE×TE)):Prop:=
 ∀(pins:List (Addr×Obj)) (s:Shared) (σ:St) (H:Hp) (Q:List (V×V)->Hp->Prop),Inv X pins σ H s->aFt trs σ H Q->
  wpAny (model X.prog X.w) X.A (evalPairs (pairTrees keys values X.env pos)) (fun vs s'=>∃ps H',Inv X pins σ H' s'/\VV ps vs/\Q ps H') X.xe s
theorem aNq {X:Cx} {pos:Pos}:PPs X pos [] [] []:=fun pins s σ H Q I h=>pairTrees_nil_walk ⟨[],H,I,.nil,h⟩
theorem pN {X:Cx} {pos:Pos} {k v:Expr} {ks:List (Option Expr)} {vs:List Expr} {tk tv:TE} {trs:List (TE×TE)} (hk:PE X k tk) (hv:PE X v tv) (hr:PPs X pos ks vs trs):
  PPs X pos (some k::ks) (v::vs) ((tk,tv)::trs):=fun pins s σ H Q I h=>
 pairTrees_cons_walk (thn (hk pins s σ H _ I h) fun u s1 ⟨x,H1,I1,rx,q1⟩=>thn (hv pins s1 σ H1 _ I1 q1) fun w2 s2 ⟨y,H2,I2,ry,q2⟩=>
  thn (hr pins s2 σ H2 _ I2 q2) fun ws s3 ⟨ps,H3,I3,rel,q3⟩=>⟨(x,y)::ps,H3,I3,.cons ⟨rx,ry⟩ rel,q3⟩)
def uK (kvs more:List (Key×V)):List (Key×V):=more.foldl (fun acc kv=>putK acc kv.1 kv.2) kvs
theorem KV.merge:∀{more:List (Key×V)} {rs:List (Key×Value)} {kvs:List (Key×V)} {vs:List (Key×Value)},KV more rs->KV kvs vs->KV (uK kvs more) (merged vs rs):=by
 intro more rs kvs vs r
 unfold KV at r
 induction r generalizing kvs vs with
 |nil=>intro q;exact q
 |@cons p q ps qs h t ih=>
  intro r0
  have e:KV (putK kvs p.1 p.2) (stored vs q.1 q.2):=by
   have:=r0.put p.1 h.2
   rw [<-h.1];exact this
  exact ih e
theorem qZ:∀(more kvs:List (Key×V)),(uK kvs more).length<=kvs.length+more.length
 | [],kvs=>by show kvs.length<=kvs.length+0;omega
 |p::r,kvs=>by
  have h1:=qZ r (putK kvs p.1 p.2)
  have h2:=pD kvs p.1 p.2
  show(uK (putK kvs p.1 p.2) r).length<=_
  rw [List.length_cons];omega
theorem xY {P:Program} {w:World}:∀{kvs:List (Key×V)} {ws:List (Value×Value)},VV (kvs.map fun kv=>(kV kv.1,kv.2)) ws->∃rs,Carries (dN P w) ws rs/\KV kvs rs
 | [],_,r=>by rw [List.map_nil]at r;cases r;exact⟨[],True.intro,.nil⟩
 |p::kvs,_,r=>by
  rw [List.map_cons]at r
  cases r with
  |@cons a b as bs h t=>
   obtain⟨rs,c,q⟩:=xY (P:=P) (w:=w) t
   obtain⟨b1,b2⟩:=b
   exact⟨(p.1,b2)::rs,⟨aHe h.1,rfl,c⟩,.cons ⟨rfl,h.2⟩ q⟩
def aS1 (trs:List (TE×TE)):TE:=fun σ H Q=>∀p,H p=none->aFt trs σ (upd H p (.dK [])) fun ps H2=>H2 p=some (.dK [])/\∃kvs:List (Key×V),ps=kvs.map (fun kv=>(kV kv.1,kv.2))/\kvs.length<=15/\Q (.ref p) (upd H2 p (.dK (uK [] kvs)))
theorem aNj {X:Cx} {pos:Pos} {keys:List (Option Expr)} {values:List Expr} {trs:List (TE×TE)} (h:PPs X pos keys values trs) (hall:keys.all (·.isSome)=true) (hl:keys.length=values.length) (h0:keys≠[])
  (h15:keys.length<=15):PE X (.Dict keys values pos) (aS1 trs):=by
 intro pins s σ H Q I q
 have hn:=I.hok.fresh (Nat.le_refl s.heap.objs.size)
 have I1:=I.laid (a:=s.heap.objs.size) (o:= .dK []) (h':=s.heap.push {cls:= .type "dict",data:= .dict #[]}) (t':=s.toks) (fun _ _ q=>Heap.get?_push_of_some _ q) (Nat.le_refl _) (aKg s.heap I.big)
 refine wpAny_Dict_walk (knd:=dN X.prog X.w) hall hl h0 h15 (thn (h pins _ σ _ _ I1 (q _ hn)) fun ws s2 ⟨ps,H2,I2,rel,e,kvs,ep,lk,q2⟩=>?_)
 subst ep
 obtain⟨rs,c,rk⟩:=xY (P:=X.prog) (w:=X.w) rel
 obtain⟨z,hd,vs0,r0,dd⟩:=aO0 I2.hok e
 cases r0
 refine⟨rs,c,dd,fun h' dd' hs=>⟨.ref s.heap.objs.size,_,?_,rfl,q2⟩⟩
 have hz:(uK [] kvs).length<=sizeLine:=by
  have h1:=qZ kvs []
  rw [List.length_nil]at h1
  rw [sizeLine_eq];omega
 have he:∃q,h'.get? s.heap.objs.size=some q:=let⟨q,_,_,hq,_⟩:=dd';⟨q,hq⟩
 exact aBv I2 (by rw [e];exact True.intro) hs he (aI6 hz hd (rk.merge .nil) dd')
section
variable {X:Cx} {pins:List (Addr×Obj)} {σ:St} {H:Hp} {s:Shared} {a:Addr} {y d:V} {u r:Value} {o:Option V} {A:Around} {E:Value->Shared->Prop}
end
section
variable {X:Cx} {o e f:Expr} {apos cpos:Pos} {td ty tx:TE}
end
section
variable {X:Cx} {pins:List (Addr×Obj)} {σ:St} {H:Hp} {s:Shared} {a:Addr} {kvs:List (Key×V)} {A:Around} {E:Value->Shared->Prop}
end
section
variable {X:Cx} {pins:List (Addr×Obj)} {σ:St} {H:Hp} {s:Shared} {a:Addr} {y:V} {u:Value} {A:Around} {E:Value->Shared->Prop}
end
end L2
namespace L2
open PySem PySem.Spec PyProof.Rows
section
variable {X:Cx}
end
section
variable {κ:Type} [DecidableEq κ]
end
end L2
namespace PySem
open AutoSeq1 (wpAny_loadPart')
open Sem (wp)
section
variable {prog:Program} {w:World} {A:Around} {E:Value->Shared->Prop} {s:Shared}
end
section
variable {prog:Program} {w:World} {A:Around} {E:Value->Shared->Prop} {s:Shared}
end
end PySem
namespace PySem
open Sem (wp)
section
variable {prog:Program} {w:World} {K:Type} [DecidableEq K] (knd:KeyKind prog w K)
def bG (h:Heap) (x:K×List K) (a:Addr):Prop:=∃o v b n,h.get? a=some o/\o.cls= .type "tuple"/\o.data= .seq #[v,.ref b] n/\knd.is x.1 v=true/\IsTupleKey knd h x.2 b
def pW (x:K×List K):Int:=reduceHash (Builtin.Tuple.tupleHashOf [knd.hash x.1,tupleKeyHash knd x.2])
variable {knd}
theorem bG.typeIs {s:Shared} {x:K×List K} {a:Addr} (h:bG knd s.heap x a):s.TypeIs (.ref a) "tuple":=let⟨o,_,_,_,ho,hc,_⟩:=h;⟨o,ho,hc⟩
theorem bG.inj {h:Heap} {a:Addr} {x y:K×List K} (hx:bG knd h x a) (hy:bG knd h y a):x=y:=by
 obtain⟨o,v,b,n,ho,_,hd,h1,h2⟩:=hx
 obtain⟨o',v',b',n',ho',_,hd',h1',h2'⟩:=hy
 obtain rfl:o=o':=Option.some.inj (ho.symm.trans ho')
 rw [hd]at hd'
 injection hd' with e _
 have e1:v=v'/\b=b':=by simpa using e
 obtain⟨rfl,rfl⟩:=e1
 exact Prod.ext (knd.inj _ _ _ h1 h1') (h2.inj h2')
theorem bG.keeps {h h':Heap} {x:K×List K} {a d:Addr} {o:Obj} {es ep} (hx:bG knd h x a) (ho:h.get? d=some o) (hd:o.data= .dict es ep) (hs:Heap.SameBut d h h'):bG knd h' x a:=by
 obtain⟨o',v,b,n,ho',hc,hd',h1,h2⟩:=hx
 have hne:a≠d:=by
  rintro rfl
  obtain rfl:o'=o:=Option.some.inj (ho'.symm.trans ho)
  rw [hd]at hd';exact nomatch hd'
 exact⟨o',v,b,n,(hs.2 a hne).trans ho',hc,hd',h1,h2.keeps ho hd hs⟩
variable {A:Around} {E:Value->Shared->Prop} {s:Shared}
theorem tR {x:K×List K} {a:Addr} {Q:Int->Shared->Prop} (hu:A.units+1<cLine) (hk:bG knd s.heap x a) (h:Q (pW knd x) {s with toks:=s.toks+(x.2.length+3)}):
  wpAny (model prog w) A (pyHash (.ref a)) Q E s:=by
 have hT:=hk.typeIs
 obtain⟨o,v,b,n,ho,_,hd,h1,h2⟩:=hk
 unfold pyHash
 first|unfold pyHashByItsType|skip
 first|refine wpAny_bind (wpAny_cRoomFor_or (.inr (by omega)) ?_)|skip
 refine wpAny_bind (wpAny_specialOf hT F.slot_tuple_hash.lookup ?_)
 show wpAny _ _ (if(some (Value.builtin "tuple.__hash__")==some Value.none)=true then _ else _) Q E s
 rw [if_neg (by rw [beq_builtin_none];exact Bool.false_ne_true)]
 refine wpAny_bind (wpAny_specialOf hT F.slot_tuple_hash.lookup ?_)
 show wpAny _ _ (callSpecialIfBoundUnlessNone? (.ref a) "__hash__" _>>=_) Q E s
 refine wpAny_bind (wpAny_callSpecialIfBoundUnlessNone?_slot hT F.slot_tuple_hash (wpAny_call_entry F.slot_tuple_hash hT F.entry_tuple_hash ?_ (F.args_tuple_hash_1 _)))
 show wpAny _ _ (Builtin.Tuple.tupleItemsOf (.ref a)>>=_) _ _ s
 refine wpAny_bind (wpAny_tupleItemsOf ho hd ?_)
 refine wpAny_bind ?_
 rw [<-Array.forIn_toList]
 refine wpAny_forIn_list _
  (fun rest (r:Array Int) s'=>(rest=[v,.ref b]/\r= #[]/\s'=s)∨(rest=[.ref b]/\r= #[knd.hash x.1]/\s'={s with toks:=s.toks+1})∨(rest=[]/\r= #[knd.hash x.1,tupleKeyHash knd x.2]/\s'={s with toks:=s.toks+1+(x.2.length+1)}))
  _ ?_ ?_ _ _ (.inl ⟨rfl,rfl,rfl⟩)
 ·rintro y rest r s' (⟨e,rfl,rfl⟩|⟨e,rfl,rfl⟩|⟨e,_,_⟩)
  ·obtain⟨rfl,rfl⟩:=List.cons.inj e
   refine wpAny_bind (knd.pyHash h1 ?_)
   exact wpAny_pure (.inr (.inl ⟨rfl,rfl,rfl⟩))
  ·obtain⟨rfl,rfl⟩:=List.cons.inj e
   refine wpAny_bind (wpAny_pyHash_tuple (show A.in1.units<cLine from hu) h2 ?_)
   exact wpAny_pure (.inr (.inr ⟨rfl,rfl,rfl⟩))
  ·cases e
 ·rintro r s' (⟨e,_,_⟩|⟨e,_,_⟩|⟨_,rfl,rfl⟩)
  ·cases e
  ·cases e
  ·show wpAny _ _ (retInt (Builtin.Tuple.tupleHashOf [knd.hash x.1,tupleKeyHash knd x.2])) _ _ _
   refine wpAny_ret_mkInt ?_
   show wpAny _ _ (if(decide (-(2:Int) ^ 63<=Builtin.Tuple.tupleHashOf [knd.hash x.1,tupleKeyHash knd x.2]) && decide (Builtin.Tuple.tupleHashOf [knd.hash x.1,tupleKeyHash knd x.2]<2 ^ 63))=true then _ else _) Q E _
   have et:s.toks+1+(x.2.length+1)+1=s.toks+(x.2.length+3):=by omega
   unfold pW reduceHash at h
   by_cases hr:(decide (-(2:Int) ^ 63<=Builtin.Tuple.tupleHashOf [knd.hash x.1,tupleKeyHash knd x.2]) && decide (Builtin.Tuple.tupleHashOf [knd.hash x.1,tupleKeyHash knd x.2]<2 ^ 63))=true
   ·rw [if_pos hr]
    rw [if_pos hr, <-et]at h
    exact wpAny_pure h
   ·rw [if_neg hr]
    rw [if_neg hr, <-et]at h
    exact wpAny_bind (wpAny_rule (wpAny_pure h))
theorem aCq {x y:K×List K} {a b:Addr} {P:Fin->Shared->Prop} (hu:A.units<cLine) (hx:bG knd s.heap x a) (hy:bG knd s.heap y b) (h:P (.done (.ret (.bool (decide (x=y))))) s):
  wpAny (model prog w) A (Builtin.«tuple.__eq__» ⟨[.ref a,.ref b],[]⟩) P E s:=by
 have hTb:=hy.typeIs
 obtain⟨oa,va,ba,na,hoa,_,hda,h1,h2⟩:=hx
 obtain⟨ob,vb,bb,nb,hob,_,hdb,h1',h2'⟩:=hy
 show wpAny _ _ (isInstance (.ref b) (.type "tuple")>>=_) _ _ s
 refine wpAny_bind (wpAny_isInstance hTb isSubtype_tuple_tuple ?_)
 simp only [Bool.not_true,Bool.false_eq_true,if_false]
 refine wpAny_bind (wpAny_tupleItemsOf hoa hda ?_)
 refine wpAny_bind (wpAny_tupleItemsOf hob hdb ?_)
 refine wpAny_bind ?_
 refine wpAny_forIn_list _
  (fun rest r s'=>r.1=none/\s'=s/\((rest=[(va,vb),(.ref ba,.ref bb)])∨(rest=[(.ref ba,.ref bb)]/\x.1=y.1)∨(rest=[]/\x=y)))
  _ ?_ ?_ _ _ ⟨rfl,rfl,.inl rfl⟩
 ·rintro⟨u,v⟩ rest r s' ⟨hr,rfl,(e|⟨e,e1⟩|⟨e,_⟩)⟩
  ·obtain⟨e2,rfl⟩:=List.cons.inj e
   cases e2
   refine wpAny_bind (knd.eqBool (a:=x.1) (b:=y.1) h1 h1' ?_)
   by_cases hk:x.1=y.1
   ·rw [decide_eq_true hk]
    simp only [Bool.not_true,Bool.false_eq_true,if_false]
    exact wpAny_pure ⟨by first|rfl|trivial,by first|rfl|trivial,by first|exact .inr (.inl ⟨rfl,hk⟩)|simp [hk]⟩
   ·rw [decide_eq_false hk]
    simp only [Bool.not_false,if_true]
    have hf:decide (x=y)=false:=decide_eq_false fun z=>hk (by rw [z])
    rw [hf]at h
    exact wpAny_bind (wpAny_pure (wpAny_pure (wpAny_pure h)))
  ·obtain⟨e2,rfl⟩:=List.cons.inj e
   cases e2
   refine wpAny_bind (wpAny_eqBool_tuple hu h2 h2' ?_)
   by_cases hk:x.2=y.2
   ·rw [decide_eq_true hk]
    simp only [Bool.not_true,Bool.false_eq_true,if_false]
    exact wpAny_pure ⟨by first|rfl|trivial,by first|rfl|trivial,by first|exact .inr (.inr ⟨rfl,Prod.ext e1 hk⟩)|simp [e1,hk,Prod.ext_iff]⟩
   ·rw [decide_eq_false hk]
    simp only [Bool.not_false,if_true]
    have hf:decide (x=y)=false:=decide_eq_false fun z=>hk (by rw [z])
    rw [hf]at h
    exact wpAny_bind (wpAny_pure (wpAny_pure (wpAny_pure h)))
  ·cases e
 ·rintro⟨r1,r2⟩ s' ⟨hr,rfl,(e|⟨e,_⟩|⟨_,e⟩)⟩
  ·cases e
  ·cases e
  ·simp only at hr
   subst hr
   refine wpAny_pure ?_
   rw [decide_eq_true e]at h
   exact h
theorem uA {x y:K×List K} {a b:Addr} {Q:Bool->Shared->Prop} (hu:A.units+1<cLine) (hx:bG knd s.heap x a) (hy:bG knd s.heap y b) (h:Q (decide (x=y)) s):
  wpAny (model prog w) A (eqBool (.ref a) (.ref b)) Q E s:=by
 unfold eqBool
 try with_reducible refine wpAny_holding ?_
 show wpAny _ _ (if(Value.ref a==Value.ref b)=true then _ else _) Q E s
 by_cases hab:(Value.ref a==Value.ref b)=true
 ·rw [if_pos hab]
  have e:a=b:=by have:=eq_of_beq hab;injection this
  subst e
  obtain rfl:=hx.inj hy
  exact wpAny_bind (wpAny_rule (wpAny_pure (by simpa using h)))
 ·rw [if_neg hab]
  exact wpAny_bind (wpAny_richCompare_same_room (op:= .Eq) hx.typeIs hy.typeIs F.slot_tuple_eq
   (wpAny_call_entry F.slot_tuple_eq hx.typeIs F.entry_tuple_eq (aCq (by show A.units+1<cLine;exact hu) hx hy ⟨_,rfl,(fun e=>nomatch e),wpAny_truthy_bool h⟩) (F.args_tuple_eq_2 _ _)) (by omega))
theorem oR {n:Nat} {ks:List K} {a:Addr} {Q:Bool->Shared->Prop} (hk:IsTupleKey knd s.heap ks a) (h:Q true s):wpAny (model prog w) A (eqIsQuiet (n+1) (.ref a)) Q E s:=by
 have hT:=hk.typeIs
 obtain⟨o,items,m,ho,_,hd,hi⟩:=hk
 unfold eqIsQuiet
 refine wpAny_bind (wpAny_specialOf hT F.slot_tuple_eq.lookup ?_)
 show wpAny _ _ (isInstance (.ref a) (.type "tuple")>>=_) _ _ s
 refine wpAny_bind (wpAny_isInstance hT isSubtype_tuple_tuple ?_)
 simp only [Bool.not_true,Bool.false_eq_true,if_false]
 refine wpAny_bind (wpAny_seqItems ho hd ?_)
 refine wpAny_bind ?_
 show wpAny _ _ (forIn items _ _) _ _ s
 rw [<-Array.forIn_toList]
 refine wpAny_forIn_list _ (fun rest r s'=>r.1=none/\s'=s/\∀v∈rest,carriedByValue v=true) _ ?_ ?_ _ _ ⟨rfl,rfl,hi.byValue⟩
 ·rintro v rest r s' ⟨hr,rfl,hall⟩
  rw [eqIsQuiet_byValue _ (hall v List.mem_cons_self)]
  refine wpAny_bind (wpAny_pure ?_)
  simp only [Bool.not_true,Bool.false_eq_true,if_false]
  exact wpAny_pure ⟨rfl,rfl,fun u hu'=>hall u (List.mem_cons_of_mem _ hu')⟩
 ·rintro⟨r1,r2⟩ s' ⟨hr,rfl,_⟩
  simp only at hr
  subst hr
  exact wpAny_pure h
theorem pG {x:K×List K} {a:Addr} {Q:Bool->Shared->Prop} (hk:bG knd s.heap x a) (h:Q true s):wpAny (model prog w) A (eqIsQuiet 8 (.ref a)) Q E s:=by
 have hT:=hk.typeIs
 obtain⟨o,v,b,m,ho,_,hd,h1,h2⟩:=hk
 unfold eqIsQuiet
 refine wpAny_bind (wpAny_specialOf hT F.slot_tuple_eq.lookup ?_)
 show wpAny _ _ (isInstance (.ref a) (.type "tuple")>>=_) _ _ s
 refine wpAny_bind (wpAny_isInstance hT isSubtype_tuple_tuple ?_)
 simp only [Bool.not_true,Bool.false_eq_true,if_false]
 refine wpAny_bind (wpAny_seqItems ho hd ?_)
 refine wpAny_bind ?_
 show wpAny _ _ (forIn _ _ _) _ _ s
 rw [<-Array.forIn_toList]
 refine wpAny_forIn_list _ (fun rest r s'=>r.1=none/\s'=s/\∀u∈rest,u=v∨u= .ref b) _ ?_ ?_ _ _ ⟨rfl,rfl,fun u hu=>by simpa using hu⟩
 ·rintro u rest r s' ⟨hr,rfl,hall⟩
  rcases hall u List.mem_cons_self with rfl|rfl
  ·rw [eqIsQuiet_byValue _ (knd.byValue _ _ h1)]
   refine wpAny_bind (wpAny_pure ?_)
   simp only [Bool.not_true,Bool.false_eq_true,if_false]
   exact wpAny_pure ⟨rfl,rfl,fun u hu'=>hall u (List.mem_cons_of_mem _ hu')⟩
  ·refine wpAny_bind (oR h2 ?_)
   simp only [Bool.not_true,Bool.false_eq_true,if_false]
   exact wpAny_pure ⟨rfl,rfl,fun u hu'=>hall u (List.mem_cons_of_mem _ hu')⟩
 ·rintro⟨r1,r2⟩ s' ⟨hr,rfl,_⟩
  simp only at hr
  subst hr
  exact wpAny_pure h
end
def lG {prog:Program} {w:World} {K:Type} [DecidableEq K] (knd:KeyKind prog w K):HeapKind prog w (K×List K) where
 is:=bG knd
 hash:=pW knd
 draws:=fun x=>x.2.length+3
 room:=fun A=>A.units+1<cLine
 inj:=fun hx hy=>hx.inj hy
 keeps:=fun x ho hd hs=>x.keeps ho hd hs
 pyHash:=fun hu hk h=>tR hu hk h
 eqBool:=fun hu hx hy h=>uA hu hx hy h
 quiet:=fun hk h=>pG hk h
end PySem
namespace PySem
namespace SetTable
def gH (mask:Nat):Nat->Nat×Nat->Nat×Nat
 |0,p=>p
 |m+1,p=>gH mask m (leap mask p.1 p.2)
theorem qY (mask:Nat):∀m p,(gH mask m p).2=p.2 / 32 ^ m
 |0,p=>by rw [gH,Nat.pow_zero,Nat.div_one]
 |m+1,p=>by
  rw [gH,qY mask m]
  show p.2 / 32 / 32 ^ m=_
  rw [Nat.div_div_eq_div_mul,Nat.pow_succ,Nat.mul_comm]
theorem aAm (mask:Nat):∀m k p,gH mask (m+k) p=gH mask k (gH mask m p)
 |0,k,p=>by rw [Nat.zero_add,gH]
 |m+1,k,p=>by rw [Nat.succ_add,gH,aAm mask m k,gH]
def five (mask i:Nat):Nat:=(i*5+1) % (mask+1)
def aD4 (mask:Nat):Nat->Nat->Nat
 |0,i=>i
 |m+1,i=>aD4 mask m (five mask i)
theorem yP (mask:Nat):∀m i,(gH mask m (i,0))=(aD4 mask m i,0)
 |0,i=>rfl
 |m+1,i=>by
  rw [gH,aD4]
  show gH mask m ((i*5+1+0 / 32) % (mask+1),0 / 32)=_
  rw [Nat.zero_div,Nat.add_zero]
  exact yP mask m (five mask i)
theorem aEa (mask:Nat):∀m p,(gH mask (m+1) p).1<=mask
 |0,p=>by
  show(p.1*5+1+p.2 / 32) % (mask+1)<=mask
  have:=Nat.mod_lt (p.1*5+1+p.2 / 32) (show 0<mask+1 by omega)
  omega
 |m+1,p=>by rw [gH];exact aEa mask m _
def Round (mask:Nat):Prop:=∀i,i<=mask->∀e,e<=mask->∃k,k<=mask/\aD4 mask (k+1) i=e
theorem aDx {mask:Nat} (h:∀i:_root_.Fin (mask+1),∀e:_root_.Fin (mask+1),∃k:_root_.Fin (mask+1),aD4 mask (k.1+1) i.1=e.1):Round mask:=fun i hi e he=>by
 obtain⟨k,hk⟩:=h ⟨i,by omega⟩ ⟨e,by omega⟩
 exact⟨k.1,by omega,hk⟩
theorem aPs:Round 7:=aDx (by decide+kernel)
theorem aMr:Round 31:=aDx (by decide+kernel)
theorem xR {mask:Nat} (R:Round mask) {e:Nat} (he:e<=mask) (i perturb:Nat) (hp:perturb<2 ^ 64):∃L,1<=L/\L<=mask+14/\(gH mask L (i,perturb)).1=e:=by
 have h13:(gH mask 13 (i,perturb)).2=0:=by
  rw [qY]
  exact Nat.div_eq_of_lt (Nat.lt_of_lt_of_le hp (by decide))
 have hi:=aEa mask 12 (i,perturb)
 obtain⟨k,hk,e1⟩:=R _ hi e he
 refine⟨13+(k+1),by omega,by omega,?_⟩
 rw [aAm]
 have e2:gH mask 13 (i,perturb)=((gH mask 13 (i,perturb)).1,0):=Prod.ext rfl h13
 rw [e2,yP]
 exact e1
variable {t:SetTable} {hashAt:Nat->Int} {h:Int}
theorem aKv (mask i:Nat):runEnd mask i-i<=9:=by unfold runEnd;split<;>omega
theorem aNl {e:Nat} (hd:∀j,t.slot j≠ .dummy) (he:t.slot e= .empty):∀(fuel:Nat) (p:Probe) (L:Nat),1<=L->(gH t.mask L (p.i,p.perturb)).1=e->p.more+2+10*(L-1)<=fuel->∃m,probe.go t hashAt h fuel p=some m:=by
 intro fuel
 induction fuel with
 |zero=>intro p L h1 _ h3;omega
 |succ fuel ih=>
  intro p L h1 h2 h3
  have step:∃m,probe.go t hashAt h fuel (t.advance p)=some m:=by
   unfold advance
   by_cases hm:p.more>0
   ·rw [if_pos hm]
    exact ih _ L h1 h2 (by show p.more-1+2+10*(L-1)<=fuel;omega)
   ·rw [if_neg hm]
    match L,h1 with
    |1,_=>
     have h4:(leap t.mask p.i p.perturb).1=e:=h2
     cases fuel with
     |zero=>omega
     |succ f=>
      show∃m,(match t.slot (leap t.mask p.i p.perturb).1 with| .empty=>_| .dummy=>_| .live i=>_)=some m
      rw [h4,he]
      exact⟨_,rfl⟩
    |L+2,_=>
     have hr:=aKv t.mask (leap t.mask p.i p.perturb).1
     exact ih _ (L+1) (by omega) h2 (by show runEnd t.mask (leap t.mask p.i p.perturb).1-(leap t.mask p.i p.perturb).1+2+10*(L+1-1)<=fuel;omega)
  show∃m,(match t.slot p.j with| .empty=>some (.empty p.j p.dummy)| .dummy=>probe.go t hashAt h fuel (t.advance {p with dummy:=some p.j})| .live i=>if(hashAt i==h)=true then some (.candidate p.j i (t.advance p))else probe.go t hashAt h fuel (t.advance p))=some m
  cases hs:t.slot p.j with
  |empty=>exact⟨_,rfl⟩
  |dummy=>exact absurd hs (hd _)
  |live i=>
   by_cases hh:(hashAt i==h)=true
   ·exact⟨_,if_pos hh⟩
   ·obtain⟨m,hm⟩:=step
    exact⟨m,by simp only;rw [if_neg hh];exact hm⟩
theorem aEy {e:Nat} (R:Round t.mask) (he:e<=t.mask) (hd:∀j,t.slot j≠ .dummy) (hs:t.slot e= .empty) (p:Probe) (hp:p.perturb<2 ^ 64) (hm:p.more<=9):∃m,t.probe hashAt h p=some m:=by
 obtain⟨L,h1,h2,h3⟩:=xR R he p.i p.perturb hp
 refine aNl hd hs _ p L h1 h3 ?_
 unfold turns
 omega
def sI (xs:Array Nat):Prop:=∀i k,i<k->k<xs.size->xs.getD i 0<xs.getD k 0
theorem yV {xs:Array Nat} {i a b:Nat} (h:i<xs.size):xs.getD i a=xs.getD i b:=by simp [Array.getD,h]
theorem aJp {xs:Array Nat} {j:Nat} (R:sI xs):∀(fuel lo hi:Nat),lo<=hi->hi<=xs.size->hi-lo<=fuel->(∀i,i<lo->xs.getD i 0<j)->(∀i,hi<=i->i<xs.size->j<=xs.getD i 0)->
  below.go xs j fuel lo hi<=xs.size/\(∀i,i<below.go xs j fuel lo hi->xs.getD i 0<j)/\∀i,below.go xs j fuel lo hi<=i->i<xs.size->j<=xs.getD i 0:=by
 intro fuel
 induction fuel with
 |zero=>
  intro lo hi h1 h2 h3 a b
  have:lo=hi:=by omega
  subst this
  exact⟨h2,a,b⟩
 |succ fuel ih=>
  intro lo hi h1 h2 h3 a b
  have key:below.go xs j (fuel+1) lo hi=if lo<hi then(if xs.getD ((lo+hi) / 2) j<j then below.go xs j fuel ((lo+hi) / 2+1) hi else below.go xs j fuel lo ((lo+hi) / 2))else lo:=rfl
  rw [key]
  by_cases hl:lo<hi
  ·have hm:(lo+hi) / 2<xs.size:=by omega
   rw [if_pos hl]
   by_cases hx:xs.getD ((lo+hi) / 2) j<j
   ·rw [if_pos hx]
    refine ih _ _ (by omega) h2 (by omega) (fun i hi'=>?_) b
    by_cases e:i=(lo+hi) / 2
    ·subst e;rw [yV hm (b:=j)];exact hx
    ·have:=R i ((lo+hi) / 2) (by omega) hm
     rw [yV hm (b:=j)]at this
     omega
   ·rw [if_neg hx]
    refine ih _ _ (by omega) (by omega) (by omega) a fun i hi' hs=>?_
    rw [yV hm (b:=0)]at hx
    by_cases e:i=(lo+hi) / 2
    ·subst e;omega
    ·have:=R ((lo+hi) / 2) i (by omega) hs
     omega
  ·have:lo=hi:=by omega
   subst this
   rw [if_neg hl]
   exact⟨h2,a,b⟩
theorem gK {xs:Array Nat} (R:sI xs) (j:Nat):below xs j<=xs.size/\(∀i,i<below xs j->xs.getD i 0<j)/\∀i,below xs j<=i->i<xs.size->j<=xs.getD i 0:=
 aJp R _ _ _ (Nat.zero_le _) (Nat.le_refl _) (by omega) (fun i h=>absurd h (Nat.not_lt_zero i)) fun i h1 h2=>by omega
theorem below_at {xs:Array Nat} (R:sI xs) {i:Nat} (h:i<xs.size):below xs (xs.getD i 0)=i:=by
 obtain⟨_,h2,h3⟩:=gK R (xs.getD i 0)
 rcases Nat.lt_trichotomy (below xs (xs.getD i 0)) i with z|z|z
 ·have:=h3 (below xs (xs.getD i 0)) (Nat.le_refl _) (by omega)
  have:=R _ i z h
  omega
 ·exact z
 ·have:=h2 i z
  omega
theorem aK7 {xs:Array Nat} {i j:Nat}:xs[i]? =some j↔i<xs.size/\xs.getD i 0=j:=by
 by_cases h:i<xs.size
 ·simp [Array.getD,h]
 ·simp [h]
theorem aA7 (R:sI t.place) {i j:Nat} (h:t.place[i]? =some j):t.slot j= .live i:=by
 obtain⟨h1,rfl⟩:=aK7.mp h
 unfold slot
 dsimp only
 rw [below_at R h1,h]
 simp
theorem aF8 (hd:t.dummies= #[]) {j:Nat} (h:∀i:Nat,t.place[i]? ≠some j):t.slot j= .empty:=by
 unfold slot
 dsimp only
 have h1:(t.place[below t.place j]? ==some j)=false:=beq_eq_false_iff_ne.mpr (h _)
 rw [h1]
 have h2:has t.dummies j=false:=by rw [hd];unfold has;simp
 rw [h2]
 rfl
theorem sE (hd:t.dummies= #[]) (j:Nat):t.slot j= .empty∨∃i:Nat,t.slot j= .live i/\t.place[i]? =some j:=by
 by_cases h:t.place[below t.place j]? =some j
 ·refine .inr ⟨below t.place j,?_,h⟩
  unfold slot
  dsimp only
  rw [h]
  simp
 ·refine .inl ?_
  unfold slot
  dsimp only
  have h1:(t.place[below t.place j]? ==some j)=false:=beq_eq_false_iff_ne.mpr h
  rw [h1]
  have h2:has t.dummies j=false:=by rw [hd];unfold has;simp
  rw [h2]
  rfl
theorem nY (hd:t.dummies= #[]) (j:Nat):t.slot j≠ .dummy:=by
 rcases sE hd j with e|⟨i,e,_⟩<;>rw [e]<;>intro z<;>cases z
theorem aE4 (hd:t.dummies= #[]) (hs:t.place.size<=t.mask):∃e,e<=t.mask/\t.slot e= .empty:=by
 refine Classical.byContradiction fun no=>?_
 have all:∀e,e<=t.mask->∃i:Nat,t.place[i]? =some e:=fun e he=>by
  rcases sE hd e with z|⟨i,_,z⟩
  ·exact absurd ⟨e,he,z⟩ no
  ·exact⟨i,z⟩
 have sub:List.range (t.mask+1) ⊆ t.place.toList:=fun e he=>by
  obtain⟨i,hi⟩:=all e (by have:=List.mem_range.mp he;omega)
  obtain⟨h1,h2⟩:=Array.getElem?_eq_some_iff.mp hi
  rw [<-h2]
  simp
 have:=(List.nodup_range (n:=t.mask+1)).length_le_of_subset sub
 rw [List.length_range,Array.length_toList]at this
 omega
theorem aDo (R:Round t.mask) (hd:t.dummies= #[]) (hs:t.place.size<=t.mask) (p:Probe) (hp:p.perturb<2 ^ 64) (hm:p.more<=9):∃m,t.probe hashAt h p=some m:=by
 obtain⟨e,he,h1⟩:=aE4 hd hs
 exact aEy R he (nY hd) h1 p hp hm
def adv (mask:Nat) (p:Probe):Probe:=if p.more>0 then{p with j:=p.j+1,more:=p.more-1}else{p with j:=(leap mask p.i p.perturb).1,more:=runEnd mask (leap mask p.i p.perturb).1-(leap mask p.i p.perturb).1,i:=(leap mask p.i p.perturb).1,perturb:=(leap mask p.i p.perturb).2}
def advs (mask:Nat):Nat->Probe->Probe
 |0,p=>p
 |n+1,p=>advs mask n (adv mask p)
theorem qC (mask:Nat):∀m k p,advs mask (m+k) p=advs mask k (advs mask m p)
 |0,k,p=>by rw [Nat.zero_add,advs]
 |m+1,k,p=>by rw [Nat.succ_add,advs,qC mask m k,advs]
theorem aAu (mask:Nat) (p:Probe):(adv mask p).dummy=p.dummy:=by unfold adv;split<;>rfl
theorem aOm (fuel:Nat) (p:Probe):probe.go t hashAt h (fuel+1) p=match t.slot p.j with| .empty=>some (.empty p.j p.dummy)| .dummy=>probe.go t hashAt h fuel (t.advance {p with dummy:=some p.j})| .live i=>if(hashAt i==h)=true then some (.candidate p.j i (t.advance p))else probe.go t hashAt h fuel (t.advance p):=rfl
theorem aM4 (hd:∀j,t.slot j≠ .dummy):∀(fuel:Nat) (p:Probe) (N:Nat),t.slot (advs t.mask N p).j= .empty->N<fuel->p.dummy=none->
    ∃n,n<=N/\(∀m,m<n->∃i,t.slot (advs t.mask m p).j= .live i/\hashAt i≠h)/\
      ((t.slot (advs t.mask n p).j= .empty/\probe.go t hashAt h fuel p=some (.empty (advs t.mask n p).j none))∨
       ∃i,t.slot (advs t.mask n p).j= .live i/\hashAt i=h/\probe.go t hashAt h fuel p=some (.candidate (advs t.mask n p).j i (advs t.mask (n+1) p))):=by
  intro fuel
  induction fuel with
  |zero=>intro p N _ h2;omega
  |succ fuel ih=>
    intro p N h1 h2 h3
    rw [aOm]
    cases hs:t.slot p.j with
    |empty=>exact⟨0,Nat.zero_le _,fun m hm=>absurd hm (Nat.not_lt_zero m),.inl ⟨hs,by rw [h3];rfl⟩⟩
    |dummy=>exact absurd hs (hd _)
    |live i=>
      by_cases hh:hashAt i=h
      · exact⟨0,Nat.zero_le _,fun m hm=>absurd hm (Nat.not_lt_zero m),.inr ⟨i,hs,hh,by dsimp only;rw [if_pos (beq_iff_eq.mpr hh)];rfl⟩⟩
      · cases N with
        |zero=>
          have h1':t.slot p.j= .empty:=h1
          rw [hs]at h1'
          cases h1'
        |succ N=>
          obtain⟨n,a1,a2,a3⟩:=ih (adv t.mask p) N h1 (by omega) (by rw [aAu];exact h3)
          have hb:¬(hashAt i==h)=true:=fun z=>hh (beq_iff_eq.mp z)
          refine⟨n+1,by omega,fun m hm=>?_,?_⟩
          · cases m with
            |zero=>exact⟨i,hs,hh⟩
            |succ m=>exact a2 m (by omega)
          · rcases a3 with ⟨b1,b2⟩|⟨i',b1,b2,b3⟩
            · exact .inl ⟨b1,by dsimp only;rw [if_neg hb];exact b2⟩
            · exact .inr ⟨i',b1,b2,by dsimp only;rw [if_neg hb];exact b3⟩
theorem aKd (hn:∀i,hashAt i≠h) (hd:∀j,t.slot j≠ .dummy):∀(fuel:Nat) (p:Probe) (m:Met),probe.go t hashAt h fuel p=some m->∃N,N<fuel/\t.slot (advs t.mask N p).j= .empty:=by
 intro fuel
 induction fuel with
 |zero=>intro p m e;cases e
 |succ fuel ih=>
  intro p m e
  rw [aOm]at e
  cases hs:t.slot p.j with
  |empty=>exact⟨0,Nat.succ_pos _,hs⟩
  |dummy=>exact absurd hs (hd _)
  |live i=>
   rw [hs]at e
   dsimp only at e
   rw [if_neg (fun z=>hn i (beq_iff_eq.mp z))]at e
   obtain⟨N,h1,h2⟩:=ih _ _ e
   exact⟨N+1,by omega,h2⟩
theorem aFa (R:Round t.mask) (hd:t.dummies= #[]) (hs:t.place.size<=t.mask) (p:Probe) (hp:p.perturb<2 ^ 64) (hm:p.more<=9):∃N,N<10*turns t.mask/\t.slot (advs t.mask N p).j= .empty:=by
 obtain⟨m,e⟩:=aDo (hashAt:=fun _=>1) (h:=0) R hd hs p hp hm
 exact aKd (hashAt:=fun _=>1) (h:=0) (fun _=>by decide) (nY hd) _ p m e
theorem aDw (t:SetTable) (h:Int):(t.probeStart h).perturb<2 ^ 64/\(t.probeStart h).more<=9:=by
 refine⟨?_,aKv _ _⟩
 show bits h<2 ^ 64
 unfold bits
 have h1:=Int.emod_nonneg h (show((2:Int) ^ 64)≠0 by decide)
 have h2:=Int.emod_lt_of_pos h (show(0:Int)<2 ^ 64 by decide)
 omega
def pQ (t:SetTable) (h:Int) (j:Nat):Prop:=∃n,(advs t.mask n (t.probeStart h)).j=j/\∀m,m<n->t.slot (advs t.mask m (t.probeStart h)).j≠ .empty
theorem pQ.ahead {j N:Nat} (w:pQ t h j) (hj:t.slot j≠ .empty) (hN:t.slot (advs t.mask N (t.probeStart h)).j= .empty):∃n,n<N/\(advs t.mask n (t.probeStart h)).j=j:=by
 obtain⟨n,e,a⟩:=w
 rcases Nat.lt_trichotomy n N with z|z|z
 ·exact⟨n,z,e⟩
 ·subst z
  rw [e]at hN
  exact absurd hN hj
 ·exact absurd hN (a N z)
theorem dY {α:Type} (xs:Array α) (p:Nat) (x:α):(insertAt xs p x).toList=xs.toList.take p++x::xs.toList.drop p:=by
 unfold insertAt
 simp [Array.toList_extract]
 exact List.take_of_length_le (by simp)
theorem tH {xs:Array Nat}:sI xs↔xs.toList.Pairwise (·<·):=by
 rw [List.pairwise_iff_getElem]
 constructor
 ·intro R i k hi hk hik
  have h2:k<xs.size:=by simpa using hk
  have:=R i k hik h2
  have h1:i<xs.size:=by omega
  simpa [Array.getD,h1,h2]using this
 ·intro R i k hik hk
  have h1:i<xs.size:=by omega
  have:=R i k (by simpa using h1) (by simpa using hk) hik
  simpa [Array.getD,h1,hk]using this
theorem aHm {j:Nat}:(∃i:Nat,t.place[i]? =some j)↔j∈t.place.toList:=by
 rw [List.mem_iff_getElem?]
 simp
theorem eV (R:sI t.place) (hd:t.dummies= #[]) {j:Nat}:t.slot j= .empty↔j∉t.place.toList:=by
 rw [<-aHm]
 constructor
 ·rintro e ⟨i,hi⟩
  rw [aA7 R hi]at e
  cases e
 ·intro no
  exact aF8 hd fun i z=>no ⟨i,z⟩
theorem aDz (R:sI t.place) {j:Nat} (hj:j∉t.place.toList):sI (insertAt t.place (below t.place j) j):=by
 obtain⟨hb,h1,h2⟩:=gK R j
 rw [tH,dY]
 have Rl:=tH.mp R
 have lo:∀x∈t.place.toList.take (below t.place j),x<j:=fun x hx=>by
  obtain⟨i,hi,e⟩:=List.getElem_of_mem hx
  rw [List.length_take]at hi
  rw [List.getElem_take]at e
  have hs:i<t.place.size:=by simp at hi;omega
  have:=h1 i (by omega)
  rw [<-e]
  simpa [Array.getD,hs]using this
 have hi':∀x∈t.place.toList.drop (below t.place j),j<x:=fun x hx=>by
  have hm:x∈t.place.toList:=List.mem_of_mem_drop hx
  obtain⟨i,hi,e⟩:=List.getElem_of_mem hx
  rw [List.length_drop]at hi
  rw [List.getElem_drop]at e
  have hs:below t.place j+i<t.place.size:=by simp at hi;omega
  have:=h2 (below t.place j+i) (by omega) hs
  have h3:j<=x:=by rw [<-e];simpa [Array.getD,hs]using this
  have h4:j≠x:=fun z=>hj (z▸hm)
  omega
 rw [List.pairwise_append]
 refine⟨Rl.sublist (List.take_sublist _ _),List.pairwise_cons.mpr ⟨hi',Rl.sublist (List.drop_sublist _ _)⟩,fun x hx y hy=>?_⟩
 have:=lo x hx
 rcases List.mem_cons.mp hy with e|m
 ·omega
 ·have:=hi' y m;omega
theorem iT (hd:t.dummies= #[]) (j:Nat):t.put j=({t with place:=insertAt t.place (below t.place j) j},below t.place j):=by
 unfold put
 have h2:has t.dummies j=false:=by rw [hd];unfold has;simp
 rw [h2]
 rfl
theorem xK {xs:Array Nat} {p j x:Nat}:x∈(insertAt xs p j).toList↔x=j∨x∈xs.toList:=by
 rw [dY,List.mem_append,List.mem_cons]
 constructor
 ·rintro(h|h|h)
  ·exact .inr (List.mem_of_mem_take h)
  ·exact .inl h
  ·exact .inr (List.mem_of_mem_drop h)
 ·rintro(h|h)
  ·exact .inr (.inl h)
  ·rw [<-List.take_append_drop p xs.toList]at h
   rcases List.mem_append.mp h with h|h
   ·exact .inl h
   ·exact .inr (.inr h)
theorem lQ {α:Type} (xs:Array α) {p:Nat} (x:α) (h:p<=xs.size):(insertAt xs p x).size=xs.size+1:=by
 rw [<-Array.length_toList,dY,List.length_append,List.length_cons,List.length_take,List.length_drop,Array.length_toList]
 omega
structure Good (t:SetTable):Prop where
 dum:t.dummies= #[]
 rise:sI t.place
 low:∀j∈t.place.toList,j<=t.mask
 room:t.place.size<=t.mask
 round:Round t.mask
theorem Good.put (G:Good t) {j:Nat} (hj:t.slot j= .empty) (hl:j<=t.mask) (hr:t.place.size+1<=t.mask):Good (t.put j).1:=by
 rw [iT G.dum]
 have nj:=(eV G.rise G.dum).mp hj
 refine⟨G.dum,aDz G.rise nj,fun x hx=>?_,?_,G.round⟩
 ·rcases xK.mp hx with e|m
  ·rw [e];exact hl
  ·exact G.low x m
 ·show(insertAt t.place (below t.place j) j).size<=t.mask
  rw [lQ _ _ (gK G.rise j).1]
  exact hr
theorem Good.put_empty (G:Good t) {j:Nat} (hj:t.slot j= .empty) (x:Nat):(t.put j).1.slot x= .empty↔t.slot x= .empty/\x≠j:=by
 have nj:=(eV G.rise G.dum).mp hj
 rw [iT G.dum]
 rw [eV (t:={t with place:=insertAt t.place (below t.place j) j}) (aDz G.rise nj) G.dum,eV G.rise G.dum]
 show x∉(insertAt t.place (below t.place j) j).toList↔_
 rw [xK,not_or]
 exact⟨fun z=>⟨z.2,z.1⟩,fun z=>⟨z.2,z.1⟩⟩
theorem pQ.put (G:Good t) {j x:Nat} (hj:t.slot j= .empty) (w:pQ t h x):pQ (t.put j).1 h x:=by
 obtain⟨n,e,a⟩:=w
 have em:(t.put j).1.mask=t.mask:=by rw [iT G.dum]
 have es:(t.put j).1.probeStart h=t.probeStart h:=by rw [iT G.dum];rfl
 refine⟨n,by rw [em,es];exact e,fun m hm z=>?_⟩
 rw [em,es]at z
 exact a m hm ((G.put_empty hj _).mp z).1
theorem pQ.new (G:Good t) {N:Nat} (hj:t.slot (advs t.mask N (t.probeStart h)).j= .empty) (a:∀m,m<N->t.slot (advs t.mask m (t.probeStart h)).j≠ .empty):pQ (t.put (advs t.mask N (t.probeStart h)).j).1 h (advs t.mask N (t.probeStart h)).j:=by
 have em:(t.put (advs t.mask N (t.probeStart h)).j).1.mask=t.mask:=by rw [iT G.dum]
 have es:(t.put (advs t.mask N (t.probeStart h)).j).1.probeStart h=t.probeStart h:=by rw [iT G.dum];rfl
 refine⟨N,by rw [em,es],fun m hm z=>?_⟩
 rw [em,es]at z
 exact a m hm ((G.put_empty hj _).mp z).1
end SetTable
end PySem
namespace PySem
open Sem (wp)
section
variable {prog:Program} {w:World} {K:Type} [DecidableEq K] (knd:HeapKind prog w K)
structure iK (s:Shared) (a:Addr) (o:Obj) (es:Array (Int×Value)) (ep:Nat) (t:SetTable) (xs:List (K×Addr)):Prop where
 ho:s.heap.get? a=some o
 hex:o.ExactSet
 hd:o.data= .set es ep t
 he:es.toList=xs.map fun x=>(knd.hash x.1,Value.ref x.2)
 good:t.Good
 size:t.place.size=es.size
 keys:∀x∈xs,knd.is s.heap x.1 x.2
 nd:(xs.map (·.1)).Nodup
 way:∀(i j:Nat) (x:K×Addr),t.place[i]? =some j->xs[i]? =some x->SetTable.pQ t (knd.hash x.1) j
variable {knd} {A:Around} {E:Value->Shared->Prop} {s:Shared} {a b:Addr} {o:Obj} {es:Array (Int×Value)} {ep:Nat} {t:SetTable} {xs:List (K×Addr)} {k:K}
structure rG (knd:HeapKind prog w K):Prop where
 mono:∀{h h':Heap} {k:K} {c:Addr},knd.is h k c->(∀b o,o.cls= .type "tuple"->h.get? b=some o->h'.get? b=some o)->knd.is h' k c
 byValue:∀{A:Around} {E:Value->Shared->Prop} {s:Shared} {k:K} {c:Addr} {Q:Bool->Shared->Prop},knd.is s.heap k c->Q true s->wpAny (model prog w) A (hashByValue 8 (.ref c)) Q E s
 plain:∀{A:Around} {E:Value->Shared->Prop} {s:Shared} {k:K} {c:Addr} {Q:Bool->Shared->Prop},knd.is s.heap k c->Q false s->wpAny (model prog w) A (ofAClassStatement 8 (.ref c)) Q E s
theorem rG.keep (D:rG knd) {h h':Heap} {k:K} {c d:Addr} {o:Obj} (hx:knd.is h k c) (ho:h.get? d=some o) (hex:o.ExactSet) (sb:Heap.SameBut d h h'):knd.is h' k c:=D.mono hx fun b o' hc e=>by
 have ne:b≠d:=by
  rintro rfl
  rw [ho]at e
  cases e
  rw [hex.1]at hc
  exact absurd hc (by decide)
 rw [sb.2 b ne]
 exact e
theorem vY (D:rG knd) (hkey:knd.is s.heap k b) {ys:List Value} (hy:∀y∈ys,∃x c,y=Value.ref c/\knd.is s.heap x c) {Q:Bool->Shared->Prop} (h:Q false s):wpAny (model prog w) A (searchCouldBeSeen (.ref b) ys) Q E s:=by
 unfold searchCouldBeSeen
 refine wpAny_bind ?_
 refine wpAny_forIn_list _ (fun rest r s'=>r.1=none/\s'=s/\∀v∈rest,∃x c,v=Value.ref c/\knd.is s.heap x c) _ ?_ ?_ _ _ ⟨rfl,rfl,hy⟩
 ·rintro v rest r s' ⟨hr,rfl,hall⟩
  obtain⟨x,c,rfl,hx⟩:=hall v List.mem_cons_self
  dsimp only
  have nx:∀u∈rest,∃x c,u=Value.ref c/\knd.is s'.heap x c:=fun u hu=>hall u (List.mem_cons_of_mem _ hu)
  split
  ·exact wpAny_pure ⟨rfl,rfl,nx⟩
  ·refine wpAny_bind (knd.quiet hkey ?_)
   simp only [Bool.not_true,Bool.false_eq_true,if_false]
   refine wpAny_bind (knd.quiet hx ?_)
   simp only [Bool.not_true,Bool.false_eq_true,if_false]
   refine wpAny_bind (D.plain hkey ?_)
   simp only [Bool.false_eq_true,if_false]
   refine wpAny_bind (D.plain hx ?_)
   simp only [Bool.false_eq_true,if_false]
   exact wpAny_pure ⟨rfl,rfl,nx⟩
 ·rintro⟨r1,r2⟩ s' ⟨hr,rfl,_⟩
  simp only at hr
  subst hr
  exact wpAny_pure h
theorem iK.fits (S:iK knd s a o es ep t xs):t.fits es.size=true:=by
 unfold SetTable.fits SetTable.fill
 have h1:=S.size
 have h2:=S.good.room
 rw [S.good.dum]
 simp [h1]
 omega
theorem iK.len (S:iK knd s a o es ep t xs):es.size=xs.length:=by rw [<-Array.length_toList,S.he,List.length_map]
theorem iK.entry (S:iK knd s a o es ep t xs) (i:Nat):es[i]? =(xs[i]?).map fun x=>(knd.hash x.1,Value.ref x.2):=by
 rw [<-Array.getElem?_toList,S.he,List.getElem?_map]
theorem iK.even (S:iK knd s a o es ep t xs) (hm:t.mask % 2=1):t.gaveWay=false:=by
 unfold SetTable.gaveWay
 rw [hm]
 rfl
theorem uH (S:iK knd s a o es ep t xs) (hm:t.mask % 2=1) (D:rG knd) (hu:knd.room A) (hkey:knd.is s.heap k b) {N:Nat} (hN:t.slot (SetTable.advs t.mask N (t.probeStart (knd.hash k))).j= .empty) (hF:N<10*SetTable.turns t.mask)
  (first:∀m,m<N->t.slot (SetTable.advs t.mask m (t.probeStart (knd.hash k))).j≠ .empty) {Q:SetFound->Shared->Prop} (hold:(∃x∈xs,x.1=k)->Q (.there none) s) (hnew:(∀x∈xs,x.1≠k)->Q (.free (SetTable.advs t.mask N (t.probeStart (knd.hash k))).j false) s):
  ∀(fuel n:Nat) (stand:Option SetTable.Probe),stand.getD (t.probeStart (knd.hash k))=SetTable.advs t.mask n (t.probeStart (knd.hash k))->n<=N->N-n<fuel->(∀m,m<n->∃(i:Nat) (x:K×Addr),t.slot (SetTable.advs t.mask m (t.probeStart (knd.hash k))).j= .live i/\xs[i]? =some x/\x.1≠k)->
   wpAny (model prog w) A (setSearchFrom a (.ref b) (knd.hash k) true fuel stand) Q E s:=by
 intro fuel
 induction fuel with
 |zero=>intro n stand _ _ h3;omega
 |succ fuel ih=>
  intro n stand h1 h2 h3 past
  have dumA:∀m p,(SetTable.advs t.mask m p).dummy=p.dummy:=by
   intro m
   induction m with
   |zero=>intro p;rfl
   |succ m ih=>intro p;rw [SetTable.advs,ih,SetTable.aAu]
  unfold setSearchFrom
  refine wpAny_bind (wpAny_setState_of S.ho S.hd S.fits ?_)
  dsimp only
  rw [S.even hm]
  simp only [Bool.false_eq_true,if_false]
  rw [h1]
  have comp:∀m,SetTable.advs t.mask m (SetTable.advs t.mask n (t.probeStart (knd.hash k)))=SetTable.advs t.mask (n+m) (t.probeStart (knd.hash k)):=fun m=>(SetTable.qC t.mask n m _).symm
  have ent:∀i:Nat,(es[i]?.map (·.1)).getD 0=((xs[i]?).map fun x=>knd.hash x.1).getD 0:=fun i=>by
   rw [S.entry i,Option.map_map]
   rfl
  have inx:∀(i j:Nat),t.slot j= .live i->∃x,xs[i]? =some x/\t.place[i]? =some j:=fun i j hs=>by
   rcases SetTable.sE S.good.dum j with z|⟨i',z1,z2⟩
   ·rw [hs]at z;cases z
   ·rw [hs]at z1
    cases z1
    have hi:i<t.place.size:=(Array.getElem?_eq_some_iff.mp z2).1
    rw [S.size,S.len]at hi
    exact⟨xs[i],List.getElem?_eq_getElem hi,z2⟩
  obtain⟨n',a1,a2,a3⟩:=SetTable.aM4 (t:=t) (hashAt:=fun i:Nat=>(es[i]?.map (·.1)).getD 0) (h:=knd.hash k) (SetTable.nY S.good.dum) (10*SetTable.turns t.mask) (SetTable.advs t.mask n (t.probeStart (knd.hash k))) (N-n) (by rw [comp,show n+(N-n)=N by omega];exact hN) (by omega) (by rw [dumA];rfl)
  rw [comp]at a3
  rcases a3 with ⟨b1,b2⟩|⟨i,b1,b2,b3⟩
  ·have eN:n+n'=N:=by
    rcases Nat.lt_or_ge (n+n') N with z|z
    ·exact absurd b1 (first _ z)
    ·omega
   have e:t.probe (fun i:Nat=>(es[i]?.map (·.1)).getD 0) (knd.hash k) (SetTable.advs t.mask n (t.probeStart (knd.hash k)))=some (.empty (SetTable.advs t.mask (n+n') (t.probeStart (knd.hash k))).j none):=b2
   erw [e]
   dsimp only
   rw [eN]
   refine wpAny_pure (hnew fun x hx ek=>?_)
   obtain⟨i,hi⟩:=List.mem_iff_getElem?.mp hx
   have his:i<t.place.size:=by rw [S.size,S.len];exact(List.getElem?_eq_some_iff.mp hi).1
   have hpl:t.place[i]? =some t.place[i]:=Array.getElem?_eq_getElem his
   have hsl:=SetTable.aA7 S.good.rise hpl
   have wy:=S.way i _ x hpl hi
   rw [ek]at wy
   obtain⟨m,hm1,hm2⟩:=wy.ahead (by rw [hsl];intro z;cases z) hN
   rcases Nat.lt_or_ge m n with z|z
   ·obtain⟨i',x',c1,c2,c3⟩:=past m z
    rw [hm2,hsl]at c1
    cases c1
    rw [hi]at c2
    cases c2
    exact c3 ek
   ·obtain⟨i',c1,c2⟩:=a2 (m-n) (by omega)
    rw [comp,show n+(m-n)=m by omega,hm2,hsl]at c1
    cases c1
    rw [ent,hi]at c2
    exact c2 (by rw [<-ek];rfl)
  ·obtain⟨x,hx,hpl⟩:=inx i _ b1
   have hxm:=List.mem_of_getElem? hx
   have e:t.probe (fun i:Nat=>(es[i]?.map (·.1)).getD 0) (knd.hash k) (SetTable.advs t.mask n (t.probeStart (knd.hash k)))=some (.candidate (SetTable.advs t.mask (n+n') (t.probeStart (knd.hash k))).j i (SetTable.advs t.mask (n'+1) (SetTable.advs t.mask n (t.probeStart (knd.hash k))))):=b3
   erw [e]
   dsimp only
   cases hl:t.led
   focus
    simp only [Bool.not_false,if_true]
    refine wpAny_bind (vY D hkey (fun y hy=>?_) ?_)
    obtain⟨e,he,rfl⟩:=List.mem_map.mp hy
    have he2:=(Array.mem_filter.mp (Array.mem_toList_iff.mp he)).1
    rw [<-Array.mem_toList_iff,S.he]at he2
    obtain⟨x',hx',rfl⟩:=List.mem_map.mp he2
    exact⟨_,_,rfl,S.keys x' hx'⟩
    simp only [Bool.false_eq_true,if_false]
   rotate_left
   focus
    simp only [Bool.not_true,Bool.false_eq_true,if_false]
   all_goals
    rw [S.entry i,hx]
    dsimp only [Option.map_some]
    refine wpAny_bind (wpAny_holding (knd.eqBool hu (S.keys x hxm) hkey ?_))
    refine wpAny_bind (wpAny_setState_of S.ho S.hd S.fits ?_)
    by_cases ek:x.1=k
    ·rw [decide_eq_true ek]
     simp only [Bool.and_self,if_true]
     exact wpAny_pure (hold ⟨x,hxm,ek⟩)
    ·rw [decide_eq_false ek]
     simp only [Bool.and_false,Bool.false_eq_true,if_false]
     have sm:t.sameMemory t.moves t.mask=some true:=by unfold SetTable.sameMemory;simp
     rw [sm]
     simp only [if_true]
     rw [b1]
     dsimp only
     rw [S.entry i,hx]
     dsimp only [Option.map_some]
     refine wpAny_bind (wpAny_isSame_ref_self ?_)
     simp only [if_true]
     refine wpAny_bind (wpAny_pure ?_)
     dsimp only
     have lt:n+n'<N:=by
      rcases Nat.lt_or_ge (n+n') N with z|z
      ·exact z
      ·have z2:n+n'=N:=by omega
       rw [z2,hN]at b1
       cases b1
     refine ih (n+(n'+1)) _ (by show SetTable.advs t.mask (n'+1) _=_;rw [comp]) (by omega) (by omega) fun m hm'=>?_
     rcases Nat.lt_or_ge m n with z|z
     ·exact past m z
     ·by_cases z2:m=n+n'
      ·subst z2
       exact⟨i,x,b1,hx,ek⟩
      ·obtain⟨i',c1,c2⟩:=a2 (m-n) (by omega)
       rw [comp,show n+(m-n)=m by omega]at c1
       obtain⟨x',hx',_⟩:=inx i' _ c1
       refine⟨i',x',c1,hx',fun ek'=>c2 ?_⟩
       rw [ent,hx', <-ek']
       rfl
theorem sX {o:Obj} (es':Array (Int×Value)) (t':SetTable) (hd:o.data= .set es ep t) (h:o.ExactSet):(Obj.putSet es' t' o).ExactSet:=by
 rw [putSet_of es' t' hd]
 exact h
theorem get_ins {α:Type} {l:List α} {p i:Nat} {y x:α} (hp:p<=l.length) (h:(l.take p++x::l.drop p)[i]? =some y):(i<p/\l[i]? =some y)∨(i=p/\y=x)∨(p<i/\l[i-1]? =some y):=by
 have hlen:(l.take p).length=p:=by rw [List.length_take];omega
 rcases Nat.lt_trichotomy i p with z|z|z
 ·rw [List.getElem?_append_left (by omega),List.getElem?_take_of_lt z]at h
  exact .inl ⟨z,h⟩
 ·subst z
  rw [List.getElem?_append_right (by omega),hlen,Nat.sub_self]at h
  exact .inr (.inl ⟨rfl,(Option.some.inj h).symm⟩)
 ·rw [List.getElem?_append_right (by omega),hlen]at h
  obtain⟨d,rfl⟩:∃d,i=p+(d+1):=⟨i-p-1,by omega⟩
  rw [show p+(d+1)-p=d+1 by omega,List.getElem?_cons_succ,List.getElem?_drop]at h
  exact .inr (.inr ⟨by omega,by rw [show p+(d+1)-1=p+d by omega];exact h⟩)
theorem iK.add (S:iK knd s a o es ep t xs) (hkey:knd.is s.heap k b) (hn:∀x∈xs,x.1≠k) (hkeep:∀h',Heap.SameBut a s.heap h'->∀x c,knd.is s.heap x c->knd.is h' x c) {N:Nat} (hN:t.slot (SetTable.advs t.mask N (t.probeStart (knd.hash k))).j= .empty)
  (first:∀m,m<N->t.slot (SetTable.advs t.mask m (t.probeStart (knd.hash k))).j≠ .empty) (hl:(SetTable.advs t.mask N (t.probeStart (knd.hash k))).j<=t.mask) (hroom:t.place.size+1<=t.mask) {j p:Nat} (ej:j=(SetTable.advs t.mask N (t.probeStart (knd.hash k))).j) (epp:p=SetTable.below t.place j):
  iK knd {s with heap:=s.heap.update a (Obj.putSet (SetTable.insertAt es p (knd.hash k,.ref b)) (t.put j).1)} a (Obj.putSet (SetTable.insertAt es p (knd.hash k,.ref b)) (t.put j).1 o) (SetTable.insertAt es p (knd.hash k,.ref b)) (ep+1) (t.put j).1 (xs.take p++(k,b)::xs.drop p):=by
 subst ej epp
 have hb:=(SetTable.gK S.good.rise (SetTable.advs t.mask N (t.probeStart (knd.hash k))).j).1
 have hbx:SetTable.below t.place (SetTable.advs t.mask N (t.probeStart (knd.hash k))).j<=xs.length:=by rw [<-S.len, <-S.size];exact hb
 have hnf:(Obj.putSet (SetTable.insertAt es (SetTable.below t.place (SetTable.advs t.mask N (t.probeStart (knd.hash k))).j) (knd.hash k,.ref b)) (t.put (SetTable.advs t.mask N (t.probeStart (knd.hash k))).j).1 o).isFreed=false:=by
  rw [putSet_of _ _ S.hd]
  rfl
 refine⟨Heap.get?_update_self _ S.ho hnf,sX _ _ S.hd S.hex,by rw [putSet_of _ _ S.hd],?_,S.good.put hN hl hroom,?_,fun x hx=>?_,?_,fun i j x h1 h2=>?_⟩
 ·rw [SetTable.dY,S.he, <-List.map_take, <-List.map_drop,List.map_append,List.map_cons]
 ·rw [SetTable.iT S.good.dum]
  show(SetTable.insertAt t.place _ _).size=_
  rw [SetTable.lQ _ _ hb,SetTable.lQ _ _ (by rw [<-S.size];exact hb),S.size]
 ·rcases List.mem_append.mp hx with m|m
  ·exact hkeep _ (Heap.SameBut.update ..) _ _ (S.keys x (List.mem_of_mem_take m))
  ·rcases List.mem_cons.mp m with e|m
   ·rw [e];exact hkeep _ (Heap.SameBut.update ..) _ _ hkey
   ·exact hkeep _ (Heap.SameBut.update ..) _ _ (S.keys x (List.mem_of_mem_drop m))
 ·have pm:((xs.take (SetTable.below t.place (SetTable.advs t.mask N (t.probeStart (knd.hash k))).j)++(k,b)::xs.drop (SetTable.below t.place (SetTable.advs t.mask N (t.probeStart (knd.hash k))).j)).map (·.1)).Perm (k::xs.map (·.1)):=by
   have:=(List.perm_middle (a:=(k,b)) (l₁:=xs.take (SetTable.below t.place (SetTable.advs t.mask N (t.probeStart (knd.hash k))).j)) (l₂:=xs.drop (SetTable.below t.place (SetTable.advs t.mask N (t.probeStart (knd.hash k))).j))).map (·.1)
   rw [List.take_append_drop]at this
   exact this
  rw [pm.nodup_iff,List.nodup_cons]
  refine⟨fun m=>?_,S.nd⟩
  obtain⟨x,hx,e⟩:=List.mem_map.mp m
  exact hn x hx e
 ·rw [SetTable.iT S.good.dum]at h1
  have h1':(t.place.toList.take (SetTable.below t.place (SetTable.advs t.mask N (t.probeStart (knd.hash k))).j)++(SetTable.advs t.mask N (t.probeStart (knd.hash k))).j::t.place.toList.drop (SetTable.below t.place (SetTable.advs t.mask N (t.probeStart (knd.hash k))).j))[i]? =some j:=by
   rw [<-SetTable.dY,Array.getElem?_toList];exact h1
  have gp:=get_ins (by rw [Array.length_toList];exact hb) h1'
  have gx:=get_ins hbx h2
  rcases gp with ⟨z1,z2⟩|⟨z1,z2⟩|⟨z1,z2⟩
  ·rcases gx with ⟨y1,y2⟩|⟨y1,y2⟩|⟨y1,y2⟩
   ·exact(S.way i j x (by rw [<-Array.getElem?_toList];exact z2) y2).put S.good hN
   ·omega
   ·omega
  ·rcases gx with ⟨y1,y2⟩|⟨y1,y2⟩|⟨y1,y2⟩
   ·omega
   ·rw [z2,y2]
    exact SetTable.pQ.new S.good hN first
   ·omega
  ·rcases gx with ⟨y1,y2⟩|⟨y1,y2⟩|⟨y1,y2⟩
   ·omega
   ·omega
   ·exact(S.way (i-1) j x (by rw [<-Array.getElem?_toList];exact z2) y2).put S.good hN
end
end PySem
namespace PySem
namespace SetTable
def stP (M:Nat) (i perturb:Nat):Probe:={j:=i,more:=runEnd M i-i,i,perturb,dummy:=none}
def st (M:Nat) (h:Int):Probe:=stP M (bits h % (M+1)) (bits h)
theorem wL (M i perturb:Nat):∀k,k<=runEnd M i-i->(advs M k (stP M i perturb))={stP M i perturb with j:=i+k,more:=runEnd M i-i-k}:=by
 have gen:∀(k:Nat) (p:Probe),k<=p.more->advs M k p={p with j:=p.j+k,more:=p.more-k}:=by
  intro k
  induction k with
  |zero=>intro p _;rfl
  |succ k ih=>
   intro p hk
   rw [advs]
   have e:adv M p={p with j:=p.j+1,more:=p.more-1}:=by unfold adv;rw [if_pos (by omega)]
   rw [e,ih _ (by show k<=p.more-1;omega)]
   have e1:p.j+1+k=p.j+(k+1):=by omega
   have e2:p.more-1-k=p.more-(k+1):=by omega
   show({p with j:=p.j+1+k,more:=p.more-1-k}:Probe)=_
   rw [e1,e2]
 intro k hk
 exact gen k _ hk
theorem aCw (M i perturb:Nat):advs M (runEnd M i-i+1) (stP M i perturb)=stP M (leap M i perturb).1 (leap M i perturb).2:=by
 rw [qC,wL M i perturb _ (Nat.le_refl _),Nat.sub_self,advs,advs]
 unfold adv
 rw [if_neg (by show¬(0>0);omega)]
 rfl
theorem aKa {M:Nat} {owner:Array (Option Nat)} (hsz:owner.size=M+1):∀(fuel i perturb:Nat) (j:Nat),layClean.free M owner fuel i perturb=some j->
  owner[j]? =some none/\∃n,(advs M n (stP M i perturb)).j=j/\∀m,m<n->owner[(advs M m (stP M i perturb)).j]? ≠some none:=by
 intro fuel
 induction fuel with
 |zero=>intro i perturb j e;cases e
 |succ fuel ih=>
  intro i perturb j e
  have key:layClean.free M owner (fuel+1) i perturb=match (List.range (runEnd M i+1-i)).find? fun k=>(owner.getD (i+k) (some 0)).isNone with|some k=>some (i+k)|none=>layClean.free M owner fuel (leap M i perturb).1 (leap M i perturb).2:=rfl
  rw [key]at e
  have none_of:∀x,(owner.getD x (some 0)).isNone=true↔owner[x]? =some none:=fun x=>by
   by_cases hx:x<owner.size
   ·simp [Array.getD,hx]
   ·simp [Array.getD,hx]
  have hre:runEnd M i+1-i=runEnd M i-i+1:=by unfold runEnd;split<;>omega
  cases hf:(List.range (runEnd M i+1-i)).find? fun k=>(owner.getD (i+k) (some 0)).isNone with
  |some k=>
   rw [hf]at e
   cases e
   have h1:=List.find?_some hf
   have h2:=List.mem_range.mp (List.mem_of_find?_eq_some hf)
   refine⟨(none_of _).mp h1,k,by rw [wL M i perturb k (by omega)],fun m hm=>?_⟩
   rw [wL M i perturb m (by omega)]
   intro z
   have z':owner[i+m]? =some none:=z
   rw [List.find?_eq_some_iff_append]at hf
   obtain⟨_,as,bs,e1,e2⟩:=hf
   have hk:as.length=k:=by
    have h3:(List.range (runEnd M i+1-i))[as.length]? =some k:=by rw [e1];simp
    rw [List.getElem?_range (by have:=congrArg List.length e1;simp at this;omega)]at h3
    exact Option.some.inj h3
   have h4:m∈as:=by
    have h5:(List.range (runEnd M i+1-i))[m]? =some m:=List.getElem?_range (by omega)
    rw [e1,List.getElem?_append_left (by omega)]at h5
    exact List.mem_of_getElem? h5
   have:=e2 m h4
   rw [(none_of _).mpr z']at this
   exact absurd this (by decide)
  |none=>
   rw [hf]at e
   obtain⟨b1,n,b2,b3⟩:=ih _ _ _ e
   refine⟨b1,runEnd M i-i+1+n,by rw [qC,aCw];exact b2,fun m hm=>?_⟩
   rcases Nat.lt_or_ge m (runEnd M i-i+1)with z|z
   ·rw [wL M i perturb m (by omega)]
    intro y
    have y':owner[i+m]? =some none:=y
    have:=List.find?_eq_none.mp hf m (List.mem_range.mpr (by omega))
    exact this ((none_of _).mpr y')
   ·obtain⟨d,rfl⟩:∃d,m=runEnd M i-i+1+d:=⟨m-(runEnd M i-i+1),by omega⟩
    rw [qC,aCw]
    exact b3 d (by omega)
theorem aHq {M:Nat} {owner:Array (Option Nat)} {e:Nat} (he:owner[e]? =some none):∀(fuel i perturb L:Nat),(gH M L (i,perturb)).1=e->L<fuel->∃j,layClean.free M owner fuel i perturb=some j:=by
 intro fuel
 induction fuel with
 |zero=>intro i perturb L _ h;omega
 |succ fuel ih=>
  intro i perturb L h1 h2
  have key:layClean.free M owner (fuel+1) i perturb=match (List.range (runEnd M i+1-i)).find? fun k=>(owner.getD (i+k) (some 0)).isNone with|some k=>some (i+k)|none=>layClean.free M owner fuel (leap M i perturb).1 (leap M i perturb).2:=rfl
  rw [key]
  cases hf:(List.range (runEnd M i+1-i)).find? fun k=>(owner.getD (i+k) (some 0)).isNone with
  |some k=>exact⟨_,rfl⟩
  |none=>
   cases L with
   |zero=>
    have h1':i=e:=h1
    subst h1'
    have hr:0<runEnd M i+1-i:=by unfold runEnd;split<;>omega
    have:=List.find?_eq_none.mp hf 0 (List.mem_range.mpr hr)
    have hs:i<owner.size:=(Array.getElem?_eq_some_iff.mp he).1
    have h3:owner[i]=none:=(Array.getElem?_eq_some_iff.mp he).2
    exact absurd (by simp [Array.getD,hs,h3]) this
   |succ L=>exact ih _ _ L h1 (by omega)
structure Lay (M:Nat) (hs:List Int) (owner:Array (Option Nat)):Prop where
 size:owner.size=M+1
 has:∀i,i<hs.length->∃j:Nat,owner[j]? =some (some i)
 low:∀(j i:Nat),owner[j]? =some (some i)->i<hs.length
 uniq:∀(j j' i:Nat),owner[j]? =some (some i)->owner[j']? =some (some i)->j=j'
 way:∀(j i:Nat) (h:Int),owner[j]? =some (some i)->hs[i]? =some h->∃n,(advs M n (st M h)).j=j/\∀m,m<n->owner[(advs M m (st M h)).j]? ≠some none
theorem Lay.start (M:Nat):Lay M [] (Array.replicate (M+1) none):=by
 have no:∀(j i:Nat),(Array.replicate (M+1) (none:Option Nat))[j]? ≠some (some i):=fun j i e=>by
  rw [Array.getElem?_replicate]at e
  split at e<;>cases e
 exact⟨by simp,fun i h=>absurd h (Nat.not_lt_zero i),fun j i e=>absurd e (no j i),fun j j' i e=>absurd e (no j i),fun j i h e=>absurd e (no j i)⟩
theorem Lay.empty {M:Nat} {hs:List Int} {owner:Array (Option Nat)} (L:Lay M hs owner) (hl:hs.length<=M):∃e,e<=M/\owner[e]? =some none:=by
 refine Classical.byContradiction fun no=>?_
 have all:∀j,j<=M->∃i,owner[j]? =some (some i):=fun j hj=>by
  have hs:j<owner.size:=by rw [L.size];omega
  cases g:owner[j]with
  |none=>exact absurd ⟨j,hj,by rw [Array.getElem?_eq_getElem hs,g]⟩ no
  |some i=>exact⟨i,by rw [Array.getElem?_eq_getElem hs,g]⟩
 have f:∀j,∃i,j<=M->owner[j]? =some (some i):=fun j=>by
  by_cases hj:j<=M
  ·obtain⟨i,hi⟩:=all j hj;exact⟨i,fun _=>hi⟩
  ·exact⟨0,fun z=>absurd z hj⟩
 obtain⟨F,hF⟩:=Classical.axiomOfChoice f
 have nd:((List.range (M+1)).map F).Nodup:=by
  rw [List.Nodup,List.pairwise_map]
  refine(List.nodup_range (n:=M+1)).imp_of_mem fun{a b} ha hb hab z=>hab ?_
  have h1:=hF a (by have:=List.mem_range.mp ha;omega)
  have h2:=hF b (by have:=List.mem_range.mp hb;omega)
  rw [z]at h1
  exact L.uniq a b _ h1 h2
 have sub:(List.range (M+1)).map F ⊆ List.range hs.length:=fun x hx=>by
  obtain⟨j,hj,rfl⟩:=List.mem_map.mp hx
  exact List.mem_range.mpr (L.low j _ (hF j (by have:=List.mem_range.mp hj;omega)))
 have:=nd.length_le_of_subset sub
 rw [List.length_map,List.length_range,List.length_range]at this
 omega
theorem Lay.step {M:Nat} {hs:List Int} {owner:Array (Option Nat)} (R:Round M) (L:Lay M hs owner) (hl:hs.length<=M) (h:Int):∃j,layClean.free M owner (turns M) (bits h % (M+1)) (bits h)=some j/\Lay M (hs++[h]) (owner.setIfInBounds j (some hs.length)):=by
 obtain⟨e,he,e1⟩:=L.empty hl
 have hb:bits h<2 ^ 64:=by
  unfold bits
  have h1:=Int.emod_nonneg h (show((2:Int) ^ 64)≠0 by decide)
  have h2:=Int.emod_lt_of_pos h (show(0:Int)<2 ^ 64 by decide)
  omega
 obtain⟨Lp,_,l2,l3⟩:=xR R he (bits h % (M+1)) (bits h) hb
 obtain⟨j,hj⟩:=aHq e1 (turns M) _ _ Lp l3 (by unfold turns;omega)
 obtain⟨w1,n,w2,w3⟩:=aKa L.size _ _ _ _ hj
 have hjs:j<owner.size:=(Array.getElem?_eq_some_iff.mp w1).1
 have at_:∀x,(owner.setIfInBounds j (some hs.length))[x]? =if x=j then some (some hs.length)else owner[x]? :=fun x=>by
  rw [Array.getElem?_setIfInBounds]
  by_cases z:j=x
  ·subst z;simp [hjs]
  ·rw [if_neg z,if_neg (fun y=>z y.symm)]
 have occ:∀x,owner[x]? ≠some none->(owner.setIfInBounds j (some hs.length))[x]? ≠some none:=fun x z=>by
  rw [at_]
  split
  ·intro y;cases y
  ·exact z
 refine⟨j,hj,⟨by simp [L.size],fun i hi=>?_,fun x i g=>?_,fun x y i g1 g2=>?_,fun x i h' g g'=>?_⟩⟩
 ·rw [List.length_append,List.length_singleton]at hi
  by_cases z:i<hs.length
  ·obtain⟨x,hx⟩:=L.has i z
   refine⟨x,?_⟩
   rw [at_,if_neg (fun y=>by subst y;rw [w1]at hx;cases hx)]
   exact hx
  ·exact⟨j,by rw [at_,if_pos rfl,show i=hs.length by omega]⟩
 ·rw [at_]at g
  rw [List.length_append,List.length_singleton]
  split at g
  ·cases g;omega
  ·have:=L.low x i g;omega
 ·rw [at_]at g1
  rw [at_]at g2
  split at g1
  ·split at g2
   ·omega
   ·cases g1
    exact absurd (L.low y _ g2) (Nat.lt_irrefl _)
  ·split at g2
   ·cases g2
    exact absurd (L.low x _ g1) (Nat.lt_irrefl _)
   ·exact L.uniq x y i g1 g2
 ·rw [at_]at g
  split at g
  ·cases g
   rw [List.getElem?_append_right (Nat.le_refl _),Nat.sub_self]at g'
   cases g'
   subst x
   exact⟨n,w2,fun m hm=>occ _ (w3 m hm)⟩
  ·have:=L.low x i g
   rw [List.getElem?_append_left this]at g'
   obtain⟨n',a1,a2⟩:=L.way x i h' g g'
   exact⟨n',a1,fun m hm=>occ _ (a2 m hm)⟩
theorem aHg {M:Nat} (R:Round M):∀(l hs:List Int) (owner:Array (Option Nat)),Lay M hs owner->hs.length+l.length<=M+1->∃owner',(l.foldl (init:=some (owner,hs.length)) fun acc h=>do
   let(owner,k)<-acc
   let j<-layClean.free M owner (turns M) (bits h % (M+1)) (bits h)
   pure (owner.setIfInBounds j (some k),k+1))=some (owner',(hs++l).length)/\Lay M (hs++l) owner'
 | [],hs,owner,L,_=>⟨owner,by simp,by simpa using L⟩
 |h::l,hs,owner,L,hl=>by
  rw [List.length_cons]at hl
  obtain⟨j,hj,L'⟩:=L.step R (by omega) h
  obtain⟨o',e1,e2⟩:=aHg R l (hs++[h]) _ L' (by rw [List.length_append,List.length_singleton];omega)
  refine⟨o',?_,by simpa using e2⟩
  rw [List.foldl_cons]
  have:(do
   let(owner,k)<-some (owner,hs.length)
   let j<-layClean.free M owner (turns M) (bits h % (M+1)) (bits h)
   pure (owner.setIfInBounds j (some k),k+1):Option (Array (Option Nat)×Nat))=some (owner.setIfInBounds j (some hs.length),hs.length+1):=by
   show(layClean.free M owner (turns M) (bits h % (M+1)) (bits h)).bind _=_
   rw [hj]
   rfl
  rw [this]
  rw [List.length_append,List.length_singleton]at e1
  rw [e1]
  simp
theorem zM {M:Nat} (R:Round M) (hashes:Array Int) (hl:hashes.size<=M+1):∃owner,layClean M hashes=some owner/\Lay M hashes.toList owner:=by
 obtain⟨o',e1,e2⟩:=aHg R hashes.toList [] _ (Lay.start M) (by simpa using hl)
 refine⟨o',?_,by simpa using e2⟩
 unfold layClean
 rw [<-Array.foldl_toList]
 have e1':=e1
 rw [List.length_nil]at e1'
 rw [e1']
 rfl
def gJ (M:Nat) (owner:Array (Option Nat)):List (Nat×Nat):=(List.range (M+1)).filterMap fun j=>(owner.getD j none).map (j,·)
theorem lD {M:Nat} {owner:Array (Option Nat)} (hsz:owner.size=M+1) {j i:Nat}:(j,i)∈gJ M owner↔owner[j]? =some (some i):=by
 unfold gJ
 rw [List.mem_filterMap]
 constructor
 ·rintro⟨x,hx,e⟩
  obtain⟨y,hy,e2⟩:=Option.map_eq_some_iff.mp e
  cases e2
  have hs:j<owner.size:=by rw [hsz];exact List.mem_range.mp hx
  have hy':owner[j]=some i:=by simpa [Array.getD,hs]using hy
  rw [Array.getElem?_eq_getElem hs,hy']
 ·intro e
  obtain⟨hs,e2⟩:=Array.getElem?_eq_some_iff.mp e
  refine⟨j,List.mem_range.mpr (by omega),?_⟩
  have:owner.getD j none=some i:=by simp [Array.getD,hs,e2]
  rw [this]
  rfl
theorem uM (M:Nat) (owner:Array (Option Nat)):((gJ M owner).map (·.1)).Pairwise (·<·):=by
 unfold gJ
 rw [List.pairwise_map,List.pairwise_filterMap]
 refine(List.pairwise_lt_range (n:=M+1)).imp fun{a b} hab x hx y hy=>?_
 obtain⟨_,_,rfl⟩:=Option.map_eq_some_iff.mp hx
 obtain⟨_,_,rfl⟩:=Option.map_eq_some_iff.mp hy
 exact hab
theorem aEu {M:Nat} {hs:List Int} {owner:Array (Option Nat)} (L:Lay M hs owner):((gJ M owner).map (·.2)).Perm (List.range hs.length):=by
 have nd:((gJ M owner).map (·.2)).Nodup:=by
  rw [List.Nodup,List.pairwise_map]
  have h1:=uM M owner
  rw [List.pairwise_map]at h1
  refine h1.imp_of_mem fun{a b} ha hb hab z=>?_
  have g1:=(lD L.size).mp (show(a.1,a.2)∈_ from ha)
  have g2:=(lD L.size).mp (show(b.1,b.2)∈_ from hb)
  rw [z]at g1
  have:=L.uniq _ _ _ g1 g2
  omega
 refine(List.perm_ext_iff_of_nodup nd List.nodup_range).mpr fun i=>?_
 rw [List.mem_range,List.mem_map]
 constructor
 ·rintro⟨⟨j,i'⟩,hm,rfl⟩
  exact L.low j _ ((lD L.size).mp hm)
 ·intro hi
  obtain⟨j,hj⟩:=L.has i hi
  exact⟨(j,i),(lD L.size).mpr hj,rfl⟩
theorem aMx (M:Nat) {p:Probe} (h:p.j+p.more<=M):(adv M p).j+(adv M p).more<=M:=by
 unfold adv
 split
 ·show p.j+1+(p.more-1)<=M;omega
 ·show(leap M p.i p.perturb).1+(runEnd M (leap M p.i p.perturb).1-(leap M p.i p.perturb).1)<=M
  have:(leap M p.i p.perturb).1<=M:=by
   show(p.i*5+1+p.perturb / 32) % (M+1)<=M
   have:=Nat.mod_lt (p.i*5+1+p.perturb / 32) (show 0<M+1 by omega)
   omega
  unfold runEnd
  split<;>omega
theorem yF (M:Nat):∀(n:Nat) {p:Probe},p.j+p.more<=M->(advs M n p).j<=M
 |0,_,h=>by rw [advs];omega
 |n+1,_,h=>by rw [advs];exact yF M n (aMx M h)
theorem aKn (M:Nat) (h:Int):(st M h).j+(st M h).more<=M:=by
 show bits h % (M+1)+(runEnd M (bits h % (M+1))-bits h % (M+1))<=M
 have:=Nat.mod_lt (bits h) (show 0<M+1 by omega)
 unfold runEnd
 split<;>omega
theorem aI2 {M:Nat} (R:Round M) (finger moves:Nat) (led plain:Bool) (hashes:Array Int) (hl:hashes.size<=M):
  ∃t order,laid M finger moves led plain hashes=some (t,order)/\t.mask=M/\t.led=led/\t.plain=plain/\t.moves=moves/\t.Good/\t.place.size=hashes.size/\order.toList.Perm (List.range hashes.size)/\
   ∀(r j i:Nat) (h:Int),t.place[r]? =some j->order[r]? =some i->hashes[i]? =some h->pQ t h j:=by
 obtain⟨owner,e1,L⟩:=zM R hashes (by omega)
 have Pm:=aEu L
 have Ps:(gJ M owner).length=hashes.size:=by
  have:=Pm.length_eq
  rw [List.length_map,List.length_range,Array.length_toList]at this
  exact this
 refine⟨{mask:=M,place:=((gJ M owner).map (·.1)).toArray,dummies:= #[],finger,led,moves,plain},((gJ M owner).map (·.2)).toArray,?_,rfl,rfl,rfl,rfl,?_,?_,?_,?_⟩
 ·unfold laid
  rw [e1]
  rfl
 ·refine⟨rfl,tH.mpr (uM M owner),fun j hj=>?_,?_,R⟩
  ·obtain⟨⟨j',i⟩,hm,rfl⟩:=List.mem_map.mp hj
   have:=(Array.getElem?_eq_some_iff.mp ((lD L.size).mp hm)).1
   show j'<=M
   rw [L.size]at this
   omega
  ·show((gJ M owner).map (·.1)).toArray.size<=M
   rw [List.size_toArray,List.length_map,Ps]
   exact hl
 ·show((gJ M owner).map (·.1)).toArray.size=_
  rw [List.size_toArray,List.length_map,Ps]
 ·show((gJ M owner).map (·.2)).Perm _
  rw [Array.length_toList]at Pm
  exact Pm
 ·intro r j i h h1 h2 h3
  have g1:((gJ M owner).map (·.1))[r]? =some j:=by simpa using h1
  have g2:((gJ M owner).map (·.2))[r]? =some i:=by simpa using h2
  rw [List.getElem?_map]at g1 g2
  obtain⟨x,hx,rfl⟩:=Option.map_eq_some_iff.mp g1
  rw [hx]at g2
  cases g2
  have hm:=(lD L.size).mp (show(x.1,x.2)∈_ from List.mem_of_getElem? hx)
  obtain⟨n,w1,w2⟩:=L.way x.1 x.2 h hm (by rw [Array.getElem?_toList];exact h3)
  refine⟨n,w1,fun m hm' z=>w2 m hm' ?_⟩
  have z1:=(eV (t:={mask:=M,place:=((gJ M owner).map (·.1)).toArray,dummies:= #[],finger,led,moves,plain}) (tH.mpr (uM M owner)) rfl).mp z
  have low:(advs M m (st M h)).j<=M:=yF M m (aKn M h)
  have hs:(advs M m (st M h)).j<owner.size:=by rw [L.size];omega
  cases g:owner[(advs M m (st M h)).j]with
  |none=>rw [Array.getElem?_eq_getElem hs,g]
  |some i'=>
   have g':owner[(advs M m (st M h)).j]? =some (some i'):=by rw [Array.getElem?_eq_getElem hs,g]
   exact absurd (List.mem_map.mpr ⟨((advs M m (st M h)).j,i'),(lD L.size).mpr g',rfl⟩) z1
end SetTable
end PySem
namespace PySem
open Sem (wp)
theorem filterMap_get {α β:Type} {f:α->Option β}:∀{l:List α},(∀i∈l,∃y,f i=some y)->∀r:Nat,(l.filterMap f)[r]? =l[r]?.bind f
 | [],_,r=>by simp
 |a::l,h,r=>by
  obtain⟨y,hy⟩:=h a (List.mem_cons_self ..)
  rw [List.filterMap_cons_some hy]
  cases r with
  |zero=>simp [hy]
  |succ r=>
   rw [List.getElem?_cons_succ,List.getElem?_cons_succ]
   exact filterMap_get (fun i hi=>h i (List.mem_cons_of_mem _ hi)) r
theorem oW {α:Type} (l:List α):(List.range l.length).filterMap (fun i:Nat=>l[i]?)=l:=by
 apply List.ext_getElem?
 intro r
 rw [filterMap_get (fun i hi=>⟨l[i]'(List.mem_range.mp hi),List.getElem?_eq_getElem (List.mem_range.mp hi)⟩)]
 by_cases h:r<l.length
 ·rw [List.getElem?_range h];rfl
 ·rw [List.getElem?_eq_none (by rw [List.length_range];omega),List.getElem?_eq_none (by omega)];rfl
section
variable {prog:Program} {w:World} {K:Type} [DecidableEq K] {knd:HeapKind prog w K} {A:Around} {E:Value->Shared->Prop} {s:Shared} {a b:Addr} {o:Obj} {es:Array (Int×Value)} {ep:Nat} {t:SetTable} {xs:List (K×Addr)} {k:K}
theorem iK.relaid (S:iK knd s a o es ep t xs) (hkeep:∀h',Heap.SameBut a s.heap h'->∀x c,knd.is s.heap x c->knd.is h' x c) {wanted:Nat} (R:SetTable.Round (SetTable.sizeAbove wanted-1)) (hl:es.size<=SetTable.sizeAbove wanted-1):
  ∃t' order,t.relaid (es.map (·.1)) wanted=some (t',order)/\(order.filterMap (es[·]?)).size=es.size/\t'.mask=SetTable.sizeAbove wanted-1/\t'.led=t.led/\t'.plain=t.plain/\∃xs':List (K×Addr),xs'.Perm xs/\
   iK knd {s with heap:=s.heap.update a (Obj.putSet (order.filterMap (es[·]?)) t')} a (Obj.putSet (order.filterMap (es[·]?)) t' o) (order.filterMap (es[·]?)) (ep+1) t' xs':=by
 obtain⟨t',order,e1,e2,e3,e4,e5,G,sz,pm,wy⟩:=SetTable.aI2 R t.finger (t.movedTo (SetTable.sizeAbove wanted-1)) t.led t.plain (es.map (·.1)) (by rw [Array.size_map];exact hl)
 rw [Array.size_map]at sz pm
 have hin:∀i∈order.toList,∃y,xs[i]? =some y:=fun i hi=>by
  have:=List.mem_range.mp (pm.mem_iff.mp hi)
  rw [S.len]at this
  exact⟨xs[i],List.getElem?_eq_getElem this⟩
 have el:(order.filterMap (es[·]?)).toList=(order.toList.filterMap fun i:Nat=>xs[i]?).map fun x=>(knd.hash x.1,Value.ref x.2):=by
  rw [Array.toList_filterMap,List.map_filterMap]
  congr 1
  funext i
  exact S.entry i
 have px:(order.toList.filterMap fun i:Nat=>xs[i]?).Perm xs:=by
  have:=pm.filterMap fun i:Nat=>xs[i]?
  rw [S.len,oW]at this
  exact this
 have esz:(order.filterMap (es[·]?)).size=es.size:=by rw [<-Array.length_toList,el,List.length_map,px.length_eq,S.len]
 have hnf:(Obj.putSet (order.filterMap (es[·]?)) t' o).isFreed=false:=by
  rw [putSet_of _ _ S.hd]
  rfl
 refine⟨t',order,e1,esz,e2,e3,e4,_,px,⟨Heap.get?_update_self _ S.ho hnf,sX _ _ S.hd S.hex,by rw [putSet_of _ _ S.hd],el,G,by rw [sz,esz],fun x hx=>hkeep _ (Heap.SameBut.update ..) _ _ (S.keys x (px.mem_iff.mp hx)),?_,fun r j x h1 h2=>?_⟩⟩
 ·rw [(px.map (·.1)).nodup_iff];exact S.nd
 ·rw [filterMap_get hin]at h2
  obtain⟨i,hi,hx⟩:=Option.bind_eq_some_iff.mp h2
  refine wy r j i _ h1 (by rw [<-Array.getElem?_toList];exact hi) ?_
  rw [Array.getElem?_map,S.entry i,hx]
  rfl
theorem uO (S:iK knd s a o es ep t xs) (hkeep:∀h',Heap.SameBut a s.heap h'->∀x c,knd.is s.heap x c->knd.is h' x c) {wanted:Nat} (R:SetTable.Round (SetTable.sizeAbove wanted-1)) (hl:es.size<=SetTable.sizeAbove wanted-1) (hsz:SetTable.sizeAbove wanted<=sizeLine) {Q:Unit->Shared->Prop}
  (h:∀(h':Heap) (o':Obj) (es':Array (Int×Value)) (t':SetTable) (xs':List (K×Addr)),Heap.SameBut a s.heap h'->xs'.Perm xs->t'.mask=SetTable.sizeAbove wanted-1->t'.led=t.led->t'.plain=t.plain->iK knd {s with heap:=h'} a o' es' (ep+1) t' xs'->Q () {s with heap:=h'}):
  wpAny (model prog w) A (setRelay a wanted) Q E s:=by
 obtain⟨t',order,e1,e2,e3,e4,e5,xs',px,S'⟩:=S.relaid hkeep R hl
 unfold setRelay
 refine wpAny_bind (wpAny_setState_of S.ho S.hd S.fits ?_)
 dsimp only
 rw [if_neg (by omega)]
 refine wpAny_bind ?_
 rw [e1]
 show wpAny _ _ (if(order.filterMap (es[·]?)).size != es.size then _ else pure (order.filterMap (es[·]?),t')) _ _ _
 rw [if_neg (by rw [e2];simp)]
 refine wpAny_pure ?_
 refine wpAny_storeSet_of S.ho S.hd (h _ _ _ _ xs' (Heap.SameBut.update ..) px e3 e4 e5 S') ?_
 rw [e2]
 omega
end
end PySem
namespace PySem
open Sem (wp)
namespace SetTable
variable {t:SetTable}
theorem aDr (G:t.Good) (h:Int):∃N,N<10*turns t.mask/\t.slot (advs t.mask N (t.probeStart h)).j= .empty/\∀m,m<N->t.slot (advs t.mask m (t.probeStart h)).j≠ .empty:=by
 obtain⟨N,h1,h2⟩:=aFa G.round G.dum G.room (t.probeStart h) (aDw t h).1 (aDw t h).2
 induction N using Nat.strongRecOn with
 |_ N ih=>
  by_cases hx:∃m,m<N/\t.slot (advs t.mask m (t.probeStart h)).j= .empty
  ·obtain⟨m,hm,e⟩:=hx
   exact ih m hm (by omega) e
  ·exact⟨N,h1,h2,fun m hm e=>hx ⟨m,hm,e⟩⟩
def Small (t:SetTable):Prop:=(t.mask=7/\t.place.size<=4)∨(t.mask=31/\t.place.size<=18)
theorem Small.odd (S:t.Small):t.mask % 2=1:=by rcases S with ⟨e,_⟩|⟨e,_⟩<;>rw [e]
end SetTable
section
variable {prog:Program} {w:World} {K:Type} [DecidableEq K] (knd:HeapKind prog w K)
def jP (s:Shared) (a:Addr) (l:Bool) (xs:List (K×Addr)):Prop:=∃o es ep t,iK knd s a o es ep t xs/\t.Small/\t.plain=true/\t.led=l
variable {knd} {A:Around} {E:Value->Shared->Prop} {s:Shared} {a b:Addr} {o:Obj} {es:Array (Int×Value)} {ep:Nat} {t:SetTable} {xs:List (K×Addr)} {k:K} {l:Bool}
theorem jP.at (D:rG knd) {s':Shared} (S:jP knd s a l xs) (h1:∀o,s.heap.get? a=some o->s'.heap.get? a=some o) (h2:∀b o,o.cls= .type "tuple"->s.heap.get? b=some o->s'.heap.get? b=some o):jP knd s' a l xs:=by
 obtain⟨o,es,ep,t,S,r⟩:=S
 exact⟨o,es,ep,t,⟨h1 o S.ho,S.hex,S.hd,S.he,S.good,S.size,fun x hx=>D.mono (S.keys x hx) h2,S.nd,S.way⟩,r⟩
theorem aEr (x:Addr) (es:Array (Int×Value)):byScan (.ref x) es=false:=rfl
theorem mW (D:rG knd) (S:jP knd s a l xs) (hn:xs.length<18) (hu:knd.room A) (hkey:knd.is s.heap k b) {Q:Bool->Shared->Prop}
  (hold:(∃x∈xs,x.1=k)->Q false s)
  (hnew:(∀x∈xs,x.1≠k)->∀h' xs',Heap.SameBut a s.heap h'->xs'.Perm ((k,b)::xs)->jP knd {s with heap:=h'} a l xs'->Q true {s with heap:=h'}):
  wpAny (model prog w) A (setAddHashed a (.ref b) (knd.hash k)) Q E s:=by
 obtain⟨o,es,ep,t,S,sm,pl,rfl⟩:=S
 unfold setAddHashed
 refine wpAny_holding ?_
 unfold setAddHashedIn
 refine wpAny_bind (wpAny_setState_of S.ho S.hd S.fits ?_)
 dsimp only
 rw [aEr]
 simp only [Bool.false_eq_true,if_false]
 obtain⟨N,n1,n2,n3⟩:=SetTable.aDr S.good (knd.hash k)
 have bigm:10*SetTable.turns t.mask<=100000:=by
  unfold SetTable.turns
  rcases sm with ⟨e,_⟩|⟨e,_⟩<;>rw [e]<;>decide
 refine wpAny_bind (uH S sm.odd D hu hkey n2 n1 n3 (fun h=>?_) (fun h=>?_) 100000 0 none rfl (Nat.zero_le _) (by omega) fun m hm=>absurd hm (Nat.not_lt_zero m))
 ·exact wpAny_pure (hold h)
 ·dsimp only
  refine wpAny_bind (wpAny_setState_of S.ho S.hd S.fits ?_)
  dsimp only
  have lowj:(SetTable.advs t.mask N (t.probeStart (knd.hash k))).j<=t.mask:=SetTable.yF _ _ (SetTable.aKn _ _)
  have hsz:t.place.size+1<=t.mask:=by rcases sm with ⟨e,h⟩|⟨e,h⟩<;>omega
  have S':=S.add hkey h (fun h' sb x c hx=>D.keep hx S.ho S.hex sb) n2 n3 lowj hsz rfl rfl
  have hb:=(SetTable.gK S.good.rise (SetTable.advs t.mask N (t.probeStart (knd.hash k))).j).1
  have psz:(t.put (SetTable.advs t.mask N (t.probeStart (knd.hash k))).j).1.place.size=t.place.size+1:=by
   rw [SetTable.iT S.good.dum]
   exact SetTable.lQ _ _ hb
  have pmk:(t.put (SetTable.advs t.mask N (t.probeStart (knd.hash k))).j).1.mask=t.mask:=by rw [SetTable.iT S.good.dum]
  have ppl:(t.put (SetTable.advs t.mask N (t.probeStart (knd.hash k))).j).1.plain=true:=by rw [SetTable.iT S.good.dum];exact pl
  have pld:(t.put (SetTable.advs t.mask N (t.probeStart (knd.hash k))).j).1.led=t.led:=by rw [SetTable.iT S.good.dum]
  have p2:(t.put (SetTable.advs t.mask N (t.probeStart (knd.hash k))).j).2=SetTable.below t.place (SetTable.advs t.mask N (t.probeStart (knd.hash k))).j:=by rw [SetTable.iT S.good.dum]
  have pm:=(List.perm_middle (a:=(k,b)) (l₁:=xs.take (SetTable.below t.place (SetTable.advs t.mask N (t.probeStart (knd.hash k))).j)) (l₂:=xs.drop (SetTable.below t.place (SetTable.advs t.mask N (t.probeStart (knd.hash k))).j)))
  rw [List.take_append_drop]at pm
  have fl:(t.put (SetTable.advs t.mask N (t.probeStart (knd.hash k))).j).1.fill=t.place.size+1:=by
   unfold SetTable.fill
   rw [psz,S'.good.dum]
   rfl
  rw [ppl]
  simp only [if_true]
  refine wpAny_bind (D.byValue hkey ?_)
  simp only [if_true,p2]
  have els:=S'.len
  have eln:=S.len
  have hxl:=pm.length_eq
  rw [List.length_cons]at hxl
  refine wpAny_bind (wpAny_storeSet_of S.ho S.hd ?_ (by rw [els,hxl];unfold sizeLine;omega))
  by_cases full:(t.put (SetTable.advs t.mask N (t.probeStart (knd.hash k))).j).1.tooFull=true
  ·rw [full]
   simp only [Bool.not_false,Bool.and_self,if_true]
   have fd:t.mask=7/\t.place.size=4:=by
    unfold SetTable.tooFull at full
    rw [fl,pmk]at full
    have full:=of_decide_eq_true full
    have:=S.size
    rcases sm with ⟨e,h⟩|⟨e,h⟩<;>rw [e]at full<;>omega
   have e5:es.size=4:=by rw [<-S.size];exact fd.2
   have eg:SetTable.sizeAbove (SetTable.grown (es.size+1))=32:=by rw [e5];decide
   refine wpAny_bind (uO S' (fun h' sb x c hx=>D.keep hx S'.ho S'.hex sb) (by rw [eg];exact SetTable.aMr) (by rw [els,hxl,eg, <-eln,e5];decide) (by rw [eg];unfold sizeLine;omega) fun h' o' es' t' xs' sb px e1 e2 e3 S2=>?_)
   refine wpAny_pure ?_
   refine hnew h h' xs' (Heap.SameBut.trans (Heap.SameBut.update ..) sb) (px.trans pm) ⟨o',es',_,t',S2,.inr ⟨by rw [e1,eg],?_⟩,by rw [e3];exact ppl,by rw [e2];exact pld⟩
   rw [S2.size,S2.len,px.length_eq,hxl, <-eln,e5]
   decide
  ·have full:=Bool.eq_false_iff.mpr full
   rw [full]
   simp only [Bool.and_false,Bool.false_eq_true,if_false]
   refine wpAny_pure (hnew h _ _ (Heap.SameBut.update ..) pm ⟨_,_,_,_,S',?_,ppl,pld⟩)
   unfold SetTable.tooFull at full
   rw [fl,pmk]at full
   have full:=of_decide_eq_false full
   have sz:=S.size
   unfold SetTable.Small
   rw [pmk,psz]
   rcases sm with ⟨e,h⟩|⟨e,h⟩
   ·left
    rw [e]at full
    exact⟨e,by omega⟩
   ·right
    exact⟨e,by omega⟩
end
end PySem
namespace PySem
open Sem (wp)
theorem oU (n:Nat) (i:Int) (tk):hashByValue n (.int i tk)=pure true:=by cases n<;>rfl
theorem tO (n:Nat) {v:Value} (h:carriedByValue v=true):ofAClassStatement n v=pure false:=by
 cases v with
 |ref a=>cases h
 |_=>first|rfl|(unfold ofAClassStatement;rfl)
section
variable {prog:Program} {w:World} {K:Type} [DecidableEq K] {knd:KeyKind prog w K} {A:Around} {E:Value->Shared->Prop} {s:Shared}
theorem ItemsAre.ints (hv:∀k v,knd.is k v=true->∃i tk,v=Value.int i tk) {x:List K} {vs:List Value} (hx:ItemsAre knd x vs):∀v∈vs,∃i tk,v=Value.int i tk:=by
 induction hx with
 |nil=>intro v hv;simp at hv
 |@cons k v' ks vs h1 _ ih=>
  intro v hm
  rcases List.mem_cons.mp hm with rfl|hm
  ·exact hv _ _ h1
  ·exact ih v hm
theorem mO (hv:∀k v,knd.is k v=true->∃i tk,v=Value.int i tk) {n:Nat} {ks:List K} {a:Addr} {Q:Bool->Shared->Prop} (hk:IsTupleKey knd s.heap ks a) (h:Q true s):wpAny (model prog w) A (hashByValue (n+1) (.ref a)) Q E s:=by
 have hT:=hk.typeIs
 obtain⟨o,items,m,ho,_,hd,hi⟩:=hk
 unfold hashByValue
 refine wpAny_bind (wpAny_specialOf hT F.slot_tuple_hash.lookup ?_)
 show wpAny _ _ (seqItems? (.ref a)>>=_) _ _ s
 refine wpAny_bind (wpAny_seqItems ho hd ?_)
 refine wpAny_bind ?_
 show wpAny _ _ (forIn items _ _) _ _ s
 rw [<-Array.forIn_toList]
 refine wpAny_forIn_list _ (fun rest r s'=>r.1=none/\s'=s/\∀v∈rest,∃i tk,v=Value.int i tk) _ ?_ ?_ _ _ ⟨rfl,rfl,hi.ints hv⟩
 ·rintro v rest r s' ⟨hr,rfl,hall⟩
  obtain⟨i,tk,rfl⟩:=hall v List.mem_cons_self
  rw [oU]
  refine wpAny_bind (wpAny_pure ?_)
  simp only [Bool.not_true,Bool.false_eq_true,if_false]
  exact wpAny_pure ⟨rfl,rfl,fun u hu'=>hall u (List.mem_cons_of_mem _ hu')⟩
 ·rintro⟨r1,r2⟩ s' ⟨hr,rfl,_⟩
  simp only at hr
  subst hr
  exact wpAny_pure h
theorem mZ (hv:∀k v,knd.is k v=true->∃i tk,v=Value.int i tk) {x:K×List K} {a:Addr} {Q:Bool->Shared->Prop} (hk:bG knd s.heap x a) (h:Q true s):wpAny (model prog w) A (hashByValue 8 (.ref a)) Q E s:=by
 have hT:=hk.typeIs
 obtain⟨o,v,b,m,ho,_,hd,h1,h2⟩:=hk
 unfold hashByValue
 refine wpAny_bind (wpAny_specialOf hT F.slot_tuple_hash.lookup ?_)
 show wpAny _ _ (seqItems? (.ref a)>>=_) _ _ s
 refine wpAny_bind (wpAny_seqItems ho hd ?_)
 refine wpAny_bind ?_
 show wpAny _ _ (forIn _ _ _) _ _ s
 rw [<-Array.forIn_toList]
 refine wpAny_forIn_list _ (fun rest r s'=>r.1=none/\s'=s/\∀u∈rest,u=v∨u= .ref b) _ ?_ ?_ _ _ ⟨rfl,rfl,fun u hu=>by simpa using hu⟩
 ·rintro u rest r s' ⟨hr,rfl,hall⟩
  rcases hall u List.mem_cons_self with rfl|rfl
  ·obtain⟨i,tk,rfl⟩:=hv _ _ h1
   rw [oU]
   refine wpAny_bind (wpAny_pure ?_)
   simp only [Bool.not_true,Bool.false_eq_true,if_false]
   exact wpAny_pure ⟨rfl,rfl,fun u hu'=>hall u (List.mem_cons_of_mem _ hu')⟩
  ·refine wpAny_bind (mO hv h2 ?_)
   simp only [Bool.not_true,Bool.false_eq_true,if_false]
   exact wpAny_pure ⟨rfl,rfl,fun u hu'=>hall u (List.mem_cons_of_mem _ hu')⟩
 ·rintro⟨r1,r2⟩ s' ⟨hr,rfl,_⟩
  simp only at hr
  subst hr
  exact wpAny_pure h
theorem pA {n:Nat} {ks:List K} {a:Addr} {Q:Bool->Shared->Prop} (hk:IsTupleKey knd s.heap ks a) (h:Q false s):wpAny (model prog w) A (ofAClassStatement (n+1) (.ref a)) Q E s:=by
 have hT:=hk.typeIs
 obtain⟨o,items,m,ho,_,hd,hi⟩:=hk
 unfold ofAClassStatement
 refine wpAny_bind (wpAny_typeOf hT ?_)
 dsimp only
 simp only [beq_self_eq_true,if_true]
 refine wpAny_bind (wpAny_pure ?_)
 simp only [Bool.not_true,Bool.false_eq_true,if_false]
 refine wpAny_bind (wpAny_seqItems ho hd ?_)
 dsimp only
 refine wpAny_bind ?_
 rw [<-Array.forIn_toList]
 refine wpAny_forIn_list _ (fun rest r s'=>r.1=none/\s'=s/\∀v∈rest,carriedByValue v=true) _ ?_ ?_ _ _ ⟨rfl,rfl,hi.byValue⟩
 ·rintro v rest r s' ⟨hr,rfl,hall⟩
  rw [tO _ (hall v List.mem_cons_self)]
  refine wpAny_bind (wpAny_pure ?_)
  simp only [Bool.false_eq_true,if_false]
  exact wpAny_pure ⟨rfl,rfl,fun u hu'=>hall u (List.mem_cons_of_mem _ hu')⟩
 ·rintro⟨r1,r2⟩ s' ⟨hr,rfl,_⟩
  simp only at hr
  subst hr
  exact wpAny_pure h
theorem qW {x:K×List K} {a:Addr} {Q:Bool->Shared->Prop} (hk:bG knd s.heap x a) (h:Q false s):wpAny (model prog w) A (ofAClassStatement 8 (.ref a)) Q E s:=by
 have hT:=hk.typeIs
 obtain⟨o,v,b,m,ho,_,hd,h1,h2⟩:=hk
 unfold ofAClassStatement
 refine wpAny_bind (wpAny_typeOf hT ?_)
 dsimp only
 simp only [beq_self_eq_true,if_true]
 refine wpAny_bind (wpAny_pure ?_)
 simp only [Bool.not_true,Bool.false_eq_true,if_false]
 refine wpAny_bind (wpAny_seqItems ho hd ?_)
 dsimp only
 refine wpAny_bind ?_
 rw [<-Array.forIn_toList]
 refine wpAny_forIn_list _ (fun rest r s'=>r.1=none/\s'=s/\∀u∈rest,u=v∨u= .ref b) _ ?_ ?_ _ _ ⟨rfl,rfl,fun u hu=>by simpa using hu⟩
 ·rintro u rest r s' ⟨hr,rfl,hall⟩
  rcases hall u List.mem_cons_self with rfl|rfl
  ·rw [tO _ (knd.byValue _ _ h1)]
   refine wpAny_bind (wpAny_pure ?_)
   simp only [Bool.false_eq_true,if_false]
   exact wpAny_pure ⟨rfl,rfl,fun u hu'=>hall u (List.mem_cons_of_mem _ hu')⟩
  ·refine wpAny_bind (pA h2 ?_)
   simp only [Bool.false_eq_true,if_false]
   exact wpAny_pure ⟨rfl,rfl,fun u hu'=>hall u (List.mem_cons_of_mem _ hu')⟩
 ·rintro⟨r1,r2⟩ s' ⟨hr,rfl,_⟩
  simp only at hr
  subst hr
  exact wpAny_pure h
theorem IsTupleKey.monoS {h h':Heap} {ks:List K} {a:Addr} (x:IsTupleKey knd h ks a) (hs:∀b o,o.cls= .type "tuple"->h.get? b=some o->h'.get? b=some o):IsTupleKey knd h' ks a:=by
 obtain⟨o',items,n,ho',hc,hd',hi⟩:=x
 exact⟨o',items,n,hs _ _ hc ho',hc,hd',hi⟩
theorem bG.monoS {h h':Heap} {x:K×List K} {a:Addr} (hx:bG knd h x a) (hs:∀b o,o.cls= .type "tuple"->h.get? b=some o->h'.get? b=some o):bG knd h' x a:=by
 obtain⟨o',v,b,n,ho',hc,hd',h1,h2⟩:=hx
 exact⟨o',v,b,n,hs _ _ hc ho',hc,hd',h1,h2.monoS hs⟩
theorem aMh (hv:∀k v,knd.is k v=true->∃i tk,v=Value.int i tk):rG (lG knd) where
 mono:=fun x hs=>bG.monoS x hs
 byValue:=fun x h=>mZ hv x h
 plain:=fun x h=>qW x h
end
end PySem
namespace PySem
open Sem (wp)
namespace F
theorem cM:Slot "set_iterator" "__next__" "set_iterator.__next__":=
 .of (owner:="set_iterator") (n:="__next__") (by rw [typeLookup_type,builtinLookup_eq_fast];kernel_rfl) (by decide+kernel) (by decide+kernel) (by decide+kernel)
  (by first|exact .inl (by decide+kernel)|exact .inr (by decide+kernel)) (by rw [isSubtype_type];kernel_rfl)
theorem iD:Slot "set_iterator" "__iter__" "set_iterator.__iter__":=
 .of (owner:="set_iterator") (n:="__iter__") (by rw [typeLookup_type,builtinLookup_eq_fast];kernel_rfl) (by decide+kernel) (by decide+kernel) (by decide+kernel)
  (by first|exact .inl (by decide+kernel)|exact .inr (by decide+kernel)) (by rw [isSubtype_type];kernel_rfl)
theorem mK:entryFor table "set_iterator.__next__"=some Builtin.«set_iterator.__next__»:=entryFor_of_tree (by kernel_rfl)
theorem mQ:entryFor table "set_iterator.__iter__"=some Builtin.«dict_keyiterator.__iter__»:=
 entryFor_alias (id':="dict_keyiterator.__iter__") (by kernel_rfl) (by first|rfl|decide+kernel) (by decide+kernel) (by kernel_rfl)
theorem xT:entryFor table "set.__iter__"=some Builtin.«frozenset.__iter__»:=
 entryFor_alias (id':="frozenset.__iter__") (by kernel_rfl) (by first|rfl|decide+kernel) (by decide+kernel) (by kernel_rfl)
theorem lF:Manifest.owners.lookup (String.ofList ['r','o','t','a','r','e','t','i','_','t','e','s'].reverse)=some Manifest.sig_set_iterator:=by kernel_rfl
theorem lX (a:Value):argsOk "set_iterator.__next__" ⟨[a],[]⟩:=by
 unfold argsOk;rw [signature?_of (id:="set_iterator.__next__") (n:=['_','_','t','x','e','n','_','_']) (o:=['r','o','t','a','r','e','t','i','_','t','e','s']) (by kernel_rfl) lF];kernel_rfl
theorem lW (a:Value):argsOk "set_iterator.__iter__" ⟨[a],[]⟩:=by
 unfold argsOk;rw [signature?_of (id:="set_iterator.__iter__") (n:=['_','_','r','e','t','i','_','_']) (o:=['r','o','t','a','r','e','t','i','_','t','e','s']) (by kernel_rfl) lF];kernel_rfl
end F
theorem eE {α:Type}:∀{l:List α} {n:Nat} (h:n<l.length),(l[n]::l.eraseIdx n).Perm l
 | [],_,h=>absurd h (Nat.not_lt_zero _)
 |a::l,0,_=>List.Perm.refl _
 |a::l,n+1,h=>by
  have h':n<l.length:=Nat.lt_of_succ_lt_succ h
  show(l[n]::a::l.eraseIdx n).Perm (a::l)
  exact(List.Perm.swap _ _ _).trans ((eE (Nat.lt_of_succ_lt_succ h)).cons a)
theorem yW {α:Type} (next:Nat->Nat) (xs:Array α):(pickOrder next xs).toList.Perm xs.toList:=by
 have go:∀(fuel k:Nat) (left:List α) (out:Array α),left.length=fuel->(pickOrder.go next fuel k left out).toList.Perm (out.toList++left):=by
  intro fuel
  induction fuel with
  |zero=>
   intro k left out h
   have:left=[]:=List.length_eq_zero_iff.mp h
   subst this
   simp [pickOrder.go]
  |succ fuel ih=>
   intro k left out h
   have hlt:next k % left.length<left.length:=Nat.mod_lt _ (by omega)
   rw [pickOrder.go,List.getElem?_eq_getElem hlt]
   dsimp only
   refine(ih _ _ _ (by rw [List.length_eraseIdx_of_lt hlt];omega)).trans ?_
   rw [Array.toList_push,List.append_assoc]
   refine List.Perm.append_left _ ?_
   exact eE hlt
 exact go xs.size 0 xs.toList #[] (by simp)
section
variable {prog:Program} {w:World} {A:Around} {E:Value->Shared->Prop} {s:Shared}
def fY (w:World) (S:Addr) (es:Array (Int×Value)) (ep:Nat):List Value:=if w.params.followText "set-order"=true then(pickOrder (w.params.setOrder S ep) es).toList.map (·.2)else es.toList.map (·.2)
theorem jH (w:World) (S:Addr) (es:Array (Int×Value)) (ep:Nat):(fY w S es ep).Perm (es.toList.map (·.2)):=by
 unfold fY
 split
 ·exact(yW _ _).map _
 ·exact List.Perm.refl _
def wY (w:World) (t:SetTable) (slot i:Nat):Prop:=w.params.followText "set-order"=true∨SetTable.below t.place slot=i
theorem aFz {xs:Array Nat} (R:SetTable.sI xs) {i:Nat} (h:i<xs.size):SetTable.below xs (xs.getD i 0+1)=i+1:=by
 obtain⟨h1,h2,h3⟩:=SetTable.gK R (xs.getD i 0+1)
 rcases Nat.lt_trichotomy (SetTable.below xs (xs.getD i 0+1)) (i+1)with z|z|z
 ·have:=h3 i (by omega) h
  omega
 ·exact z
 ·have:=h2 (i+1) z
  have:=R i (i+1) (by omega) (by omega)
  omega
theorem zX {S:Addr} {o:Obj} {es:Array (Int×Value)} {ep:Nat} {t:SetTable} {slot i:Nat} {Q:Option (Value×Nat)->Shared->Prop} (ho:s.heap.get? S=some o) (hd:o.data= .set es ep t) (hf:t.fits es.size=true) (hr:SetTable.sI t.place) (hpl:t.plain=true) (hl:t.led= !w.params.followText "set-order")
  (hs:wY w t slot i) (h1:∀v slot',(fY w S es ep)[i]? =some v->wY w t slot' (i+1)->Q (some (v,slot')) s) (h2:es.size<=i->Q none s):wpAny (model prog w) A (setNext S slot i ep) Q E s:=by
 have psz:t.place.size=es.size:=by
  simp only [SetTable.fits,Bool.and_eq_true,beq_iff_eq,decide_eq_true_eq]at hf
  exact hf.1
 unfold setNext setsByText
 refine wpAny_bind (wpAny_setState_of ho hd hf ?_)
 dsimp only
 refine wpAny_bind (wpAny_bind (wpAny_askSetting (wpAny_pure ?_)))
 dsimp only [model]
 have olen:(fY w S es ep).length=es.size:=by rw [(jH w S es ep).length_eq,List.length_map,Array.length_toList]
 cases hb:w.params.followText "set-order"
 ·simp only [Bool.false_eq_true,if_false]
  have hs:SetTable.below t.place slot=i:=by
   rcases hs with z|z
   ·rw [hb]at z;cases z
   ·exact z
  show wpAny _ _ (if(!t.plain && decide (es.size>1))=true then _ else _) _ _ _
  rw [hpl]
  simp only [Bool.not_true,Bool.false_and,Bool.false_eq_true,if_false]
  show wpAny _ _ ((if(!t.led && !es.isEmpty)=true then _ else _)>>=_) _ _ _
  rw [hl,hb]
  simp only [Bool.not_false,Bool.not_true,Bool.false_and,Bool.false_eq_true,if_false]
  refine wpAny_bind (wpAny_pure ?_)
  rw [hs]
  have eo:(fY w S es ep)[i]? =(es[i]?).map (·.2):=by
   unfold fY
   rw [hb]
   simp
  by_cases hi:i<es.size
  ·have hp:i<t.place.size:=by omega
   rw [Array.getElem?_eq_getElem hi,Array.getElem?_eq_getElem hp]
   refine wpAny_pure (h1 _ _ (by rw [eo,Array.getElem?_eq_getElem hi];rfl) (.inr ?_))
   have:=aFz hr hp
   simpa [Array.getD,hp]using this
  ·rw [Array.getElem?_eq_none (by omega)]
   exact wpAny_pure (h2 (by omega))
 ·simp only [if_true]
  rw [if_neg (by simp)]
  unfold setWalk setsByText
  refine wpAny_bind (wpAny_bind (wpAny_setState_of ho hd hf ?_))
  dsimp only
  refine wpAny_bind (wpAny_bind (wpAny_askSetting (wpAny_pure ?_)))
  dsimp only [model]
  rw [hb]
  simp only [if_true]
  refine wpAny_bind (wpAny_askSetting ?_)
  refine wpAny_pure ?_
  dsimp only [model]
  have eo:(fY w S es ep)[i]? =((pickOrder (w.params.setOrder S ep) es)[i]?).map (·.2):=by
   unfold fY
   rw [hb]
   simp
  cases hg:(pickOrder (w.params.setOrder S ep) es)[i]? with
  |none=>
   rw [hg]at eo
   have:=List.getElem?_eq_none_iff.mp eo
   exact wpAny_pure (h2 (by omega))
  |some e=>
   rw [hg]at eo
   exact wpAny_pure (h1 _ _ eo (.inl hb))
def mH (h:Heap) (I S:Addr) (slot i n ep:Nat):Prop:=∃o,h.get? I=some o/\o.cls= .type "set_iterator"/\o.data= .fields #[.int slot 0,.int i 0,.ref S,.int n 0,.int ep 0]
theorem mH.typeIs {I S:Addr} {slot i n ep:Nat} (h:mH s.heap I S slot i n ep):s.TypeIs (.ref I) "set_iterator":=let⟨o,ho,hc,_⟩:=h;⟨o,ho,hc⟩
variable {I S:Addr} {o:Obj} {es:Array (Int×Value)} {ep:Nat} {t:SetTable} {slot i:Nat}
theorem mR {Q:Option Value->Shared->Prop} (hh:A.handled=none) (hit:mH s.heap I S slot i es.size ep) (ho:s.heap.get? S=some o) (hd:o.data= .set es ep t) (hf:t.fits es.size=true) (hr:SetTable.sI t.place) (hpl:t.plain=true) (hl:t.led= !w.params.followText "set-order")
  (hs:wY w t slot i) (h1:∀v slot' h',(fY w S es ep)[i]? =some v->wY w t slot' (i+1)->mH h' I S slot' (i+1) es.size ep->Heap.SameBut I s.heap h'->Q (some v) {s with heap:=h'}) (h2:es.size<=i->∀h',Heap.ExtBut I s.heap h'->Q none {s with heap:=h'}):
  wpAny (model prog w) A (pyNext (.ref I)) Q E s:=by
 obtain⟨oi,hoi,hci,hdi⟩:=id hit
 unfold pyNext
 refine wpAny_bind (wpAny_attempt (wpAny_callSpecial?_slot (name:=Str.ofString "__next__") hit.typeIs F.cM
  (wpAny_call_entry F.cM hit.typeIs F.mK ?_ (F.lX _))))
 unfold Builtin.«set_iterator.__next__»
 refine wpAny_bind (m:=slotArgs "__next__" 0 _) (wpAny_pure ?_)
 refine wpAny_bind (wpAny_fieldsOf hoi hdi ?_)
 dsimp only
 refine wpAny_bind (wpAny_setEntries_of ho hd hf ?_)
 rw [if_neg (by simp)]
 simp only [Int.toNat_natCast]
 refine wpAny_bind (zX ho hd hf hr hpl hl hs (fun v slot' e ok=>?_) fun hge=>?_)
 ·dsimp only
  refine wpAny_bind (wpAny_setField hoi hdi (by simp) ?_)
  have hoi2:=Heap.get?_update_self (Obj.mapFields (·.setIfInBounds 0 (rawInt slot'))) hoi (Obj.isFreed_of_fields (Obj.data_mapFields hdi _))
  have hdi2:=Obj.data_mapFields hdi (·.setIfInBounds 0 (rawInt slot'))
  refine wpAny_bind (wpAny_setField hoi2 hdi2 (by simp) ?_)
  refine wpAny_pure ⟨_,rfl,wpAny_pure (h1 v slot' _ e ok ⟨_,Heap.get?_update_self _ hoi2 (Obj.isFreed_of_fields (Obj.data_mapFields hdi2 _)),(Obj.cls_mapFields ..).trans ((Obj.cls_mapFields ..).trans hci),by rw [Obj.data_mapFields hdi2];simp [rawInt]⟩ (Heap.SameBut.trans (Heap.SameBut.update ..) (Heap.SameBut.update ..)))⟩
 ·dsimp only
  refine wpAny_bind (wpAny_setField hoi hdi (by simp) ?_)
  show wpAny _ _ (newExc (.type "StopIteration") []>>=_) _ _ _
  refine wpAny_bind ?_
  simp only [newExc,newTuple]
  refine wpAny_bind (wpAny_newObj_type ?_ (by size_fits))
  refine wpAny_bind (m:=firstArgMember _ _) (wpAny_of_eq (a:=Value.none) (by first|rfl|(simp only [firstArgMember];rfl)) ?_)
  refine wpAny_newObj_type ?_ (by size_fits)
  simp only [raiseNew]
  refine wpAny_bind (wpAny_handled ?_)
  rw [show A.in1.handled=none from hh]
  refine wpAny_bind (wpAny_pure (wpAny_throw ?_))
  refine wpAny_bind (wpAny_isInstance (T:="StopIteration") (b:=true) ⟨_,Heap.get?_push_size _ rfl,rfl⟩ isSubtype_stop ?_)
  exact wpAny_pure (h2 hge _ (((Heap.SameBut.update ..).extBut.push _).push _))
theorem Walks.set (hh:A.handled=none) (hne:S≠I) (o:Obj) (hd:o.data= .set es ep t) (hf:t.fits es.size=true) (hr:SetTable.sI t.place) (hpl:t.plain=true) (hl:t.led= !w.params.followText "set-order"):
  Walks prog w A I [I,S] [I] es.size (fun i v=>(fY w S es ep)[i]? =some v) (fun i h=>(∃slot,mH h I S slot i es.size ep/\wY w t slot i)/\h.get? S=some o) where
 sub:=fun b hb=>by simp at hb;simp [hb]
 frame:=fun _ _ _ st hk=>by
  obtain⟨⟨slot,⟨oi,h1,h2⟩,h3⟩,h4⟩:=st
  exact⟨⟨slot,⟨oi,hk I (by simp) _ h1,h2⟩,h3⟩,hk S (by simp) _ h4⟩
 item:=fun i s Q E hi st hQ=>by
  obtain⟨⟨slot,h1,h3⟩,h4⟩:=st
  refine mR hh h1 h4 hd hf hr hpl hl h3 (fun v slot' h' e ok it' sb=>?_) fun hge=>absurd hi (by omega)
  exact hQ _ h' s.toks e ⟨⟨slot',it',ok⟩,(sb.2 S hne).trans h4⟩ fun b o hb e=>sb.extBut b o (fun h=>hb (by simp [h])) e
 done:=fun s Q E st hQ=>by
  obtain⟨⟨slot,h1,h3⟩,h4⟩:=st
  refine mR hh h1 h4 hd hf hr hpl hl h3 (fun v slot' h' e ok it' sb=>?_) fun hge h' he'=>hQ h' s.toks fun b o hb e=>he' b o (fun h=>hb (by simp [h])) e
  have olen:(fY w S es ep).length=es.size:=by rw [(jH w S es ep).length_eq,List.length_map,Array.length_toList]
  rw [List.getElem?_eq_none (by omega)]at e
  cases e
 self:=fun _ _ _ _ st hQ=>by
  obtain⟨⟨slot,h1,h3⟩,h4⟩:=st
  refine wpAny_pyIter_slot h1.typeIs F.iD (wpAny_call_entry F.iD h1.typeIs F.mQ ?_ (F.lW _))
  show wpAny _ _ (ret (.ref I)) _ _ _
  exact wpAny_pure ⟨_,rfl,"set_iterator",_,h1.typeIs,F.cM.lookup,hQ⟩
end
end PySem
namespace PySem
open Sem (wp)
namespace F
theorem aCg:isSubtype (.type "set") (.type "set")=pure true:=by rw [isSubtype_type];kernel_rfl
end F
section
variable {prog:Program} {w:World} {A:Around} {E:Value->Shared->Prop} {s:Shared} {I S:Addr} {o:Obj} {es:Array (Int×Value)} {ep:Nat} {t:SetTable}
theorem uQ {Q:Value->Shared->Prop} (ho:s.heap.get? S=some o) (hex:o.ExactSet) (hd:o.data= .set es ep t) (hf:t.fits es.size=true) (hpl:t.plain=true)
  (hQ:Q (.ref s.heap.objs.size) {s with heap:=s.heap.push {cls:= .type "set_iterator",data:= .fields #[.int 0 0,.int 0 0,.ref S,.int es.size 0,.int ep 0]}}):wpAny (model prog w) A (pyIter (.ref S)) Q E s:=by
 have hT:s.TypeIs (.ref S) "set":=⟨o,ho,hex.1⟩
 refine wpAny_pyIter_slot hT F.slot_set_iter (wpAny_call_entry F.slot_set_iter hT F.xT ?_ (F.args_set_iter_1 _))
 unfold Builtin.«frozenset.__iter__»
 refine wpAny_bind (m:=Builtin.Frozenset.slot0 "__iter__" _) (wpAny_pure ?_)
 unfold Builtin.Frozenset.sizeOf
 refine wpAny_bind (wpAny_bind (wpAny_setEntries_of ho hd hf (wpAny_pure ?_)))
 unfold setDrawn setsByText
 refine wpAny_bind (wpAny_bind (wpAny_setState_of ho hd hf ?_))
 dsimp only
 refine wpAny_bind (wpAny_bind (wpAny_askSetting (wpAny_pure ?_)))
 show wpAny _ _ (pure (!(model prog w).w.params.followText "set-order" && (!t.plain && decide (es.size>1)))) _ _ _
 rw [hpl]
 simp only [Bool.not_true,Bool.false_and,Bool.and_false]
 refine wpAny_pure ?_
 simp only [Bool.false_eq_true,if_false]
 refine wpAny_bind (wpAny_pure ?_)
 refine wpAny_bind (wpAny_setEpoch_of ho hd hf ?_)
 unfold newFields
 refine wpAny_bind (wpAny_newObj_type (wpAny_pure ⟨_,rfl,"set_iterator",_,⟨_,Heap.get?_push_size _ rfl,rfl⟩,F.cM.lookup,?_⟩))
 simpa [rawInt]using hQ
theorem lO {Q:List Value->Shared->Prop} (hh:A.handled=none) (ho:s.heap.get? S=some o) (hex:o.ExactSet) (hd:o.data= .set es ep t) (hf:t.fits es.size=true) (hr:SetTable.sI t.place) (hpl:t.plain=true) (hl:t.led= !w.params.followText "set-order") (hn:es.size<=sizeLine)
  (hQ:∀h' tk,s.heap.objs.size<h'.objs.size->(∀b o,s.heap.get? b=some o->h'.get? b=some o)->Q (fY w S es ep) {s with heap:=h',toks:=tk}):wpAny (model prog w) A (collect (.ref S)) Q E s:=by
 have hSlt:S<s.heap.objs.size:=Heap.lt_size ho
 unfold collect
 refine wpAny_bind (wpAny_runValue (codeAny_builtin F.entry_proto_collect ?_))
 rw [Around.under_plainId F.plain_proto_collect _]
 show wpAny _ A.in1 (newList []>>=fun l=>again (.builtin "list.__iadd__" ⟨[l,.ref S],[]⟩)) _ _ s
 refine wpAny_bind (wpAny_newObj_type ?_)
 refine wpAny_pure ⟨plainId_quiet F.plain_list_iadd _,codeAny_builtin F.entry_list_iadd ?_⟩
 rw [Around.under_plainId F.plain_list_iadd _]
 have ho1:(s.heap.push {cls:= .type "list",data:= .seq ([]:List Value).toArray}).get? S=some o:=Heap.get?_push_of_some _ ho
 have hT1:Shared.TypeIs {s with heap:=s.heap.push {cls:= .type "list",data:= .seq ([]:List Value).toArray}} (.ref S) "set":=⟨o,ho1,hex.1⟩
 have hS₁:(s.heap.push {cls:= .type "list",data:= .seq ([]:List Value).toArray}).get? s.heap.objs.size=some {cls:= .type "list",data:= .seq ([]:List Value).toArray}:=Heap.get?_push_size _ rfl
 have hne:s.heap.objs.size≠S:=Nat.ne_of_gt hSlt
 have h1:Builtin.List.listSameRef (.ref s.heap.objs.size) (.ref S)=false:=by simp [Builtin.List.listSameRef,hne]
 show wpAny _ A.in1 (Builtin.List.listExtendWith (.ref s.heap.objs.size) (.ref S) (.ref s.heap.objs.size)) _ _ _
 unfold Builtin.List.listExtendWith
 refine wpAny_bind (wpAny_typeOf hT1 ?_)
 rw [if_neg (by rw [h1];decide)]
 refine wpAny_bind (uQ ho1 hex hd hf hpl ?_)
 have esz:(s.heap.push {cls:= .type "list",data:= .seq ([]:List Value).toArray}).objs.size=s.heap.objs.size+1:=Heap.size_push ..
 rw [esz]
 generalize hH2:(s.heap.push {cls:= .type "list",data:= .seq ([]:List Value).toArray}).push {cls:= .type "set_iterator",data:= .fields #[.int 0 0,.int 0 0,.ref S,.int es.size 0,.int ep 0]}=H2
 have keep2:∀b o,s.heap.get? b=some o->H2.get? b=some o:=fun b o e=>by rw [<-hH2];exact Heap.get?_push_of_some _ (Heap.get?_push_of_some _ e)
 have ho2:H2.get? S=some o:=keep2 _ _ ho
 have hL2:H2.get? s.heap.objs.size=some {cls:= .type "list",data:= .seq ([]:List Value).toArray}:=by rw [<-hH2];exact Heap.get?_push_of_some _ hS₁
 have hI2:H2.get? (s.heap.objs.size+1)=some {cls:= .type "set_iterator",data:= .fields #[.int 0 0,.int 0 0,.ref S,.int es.size 0,.int ep 0]}:=by rw [<-hH2, <-esz];exact Heap.get?_push_size _ rfl
 have hT2:Shared.TypeIs {s with heap:=H2} (.ref S) "set":=⟨o,ho2,hex.1⟩
 refine wpAny_bind (wpAny_holding ?_)
 unfold Builtin.List.listLengthHint
 refine wpAny_bind (wpAny_specialOf hT2 F.slot_set_len.lookup ?_)
 (generalize hid:("set.__len__":String)=id0;(fail_if_success (clear hid id0));wp_delta;rw [show splitId id0=some ("set","__len__")from by subst hid;decide+kernel];subst hid)
 refine wpAny_bind (wpAny_isInstance (b:=true) hT2 F.aCg ?_)
 simp only [Bool.not_true,Bool.false_eq_true,if_false]
 rw [if_pos (by decide+kernel)]
 refine wpAny_bind (wpAny_typeOf hT2 ?_)
 refine wpAny_pure ?_
 rw [if_pos (by decide+kernel)]
 show wpAny _ A.in1 (rule "list.extend.makes-room">>=fun _=>Builtin.List.listTouch (.ref s.heap.objs.size)>>=fun _=>
  again (.builtin "list.extend.loop" ⟨[.ref s.heap.objs.size,.ref (s.heap.objs.size+1),.ref s.heap.objs.size],[]⟩)) _ _ _
 refine wpAny_bind (wpAny_rule ?_)
 refine wpAny_bind ?_
 show wpAny _ A.in1 (updateSeq s.heap.objs.size (·.push .none)>>=fun _=>updateSeq s.heap.objs.size (·.pop)) _ _ _
 refine wpAny_bind (wpAny_updateSeq hL2 rfl ?_)
 have hS₂:=Heap.get?_update_self (Obj.mapSeq (·.push Value.none)) hL2 rfl
 refine wpAny_updateSeq hS₂ rfl ?_
 have hS₃:=Heap.get?_update_self (Obj.mapSeq (·.pop)) hS₂ rfl
 have oth:∀b o,b≠s.heap.objs.size->H2.get? b=some o->((H2.update s.heap.objs.size (Obj.mapSeq (·.push Value.none))).update s.heap.objs.size (Obj.mapSeq (·.pop))).get? b=some o:=
  fun b o hb e=>(Heap.get?_update_other _ _ (Ne.symm hb)).trans ((Heap.get?_update_other _ _ (Ne.symm hb)).trans e)
 have hneI:S≠s.heap.objs.size+1:=Nat.ne_of_lt (Nat.lt_succ_of_lt hSlt)
 have W:=(Walks.set (prog:=prog) (A:=A.in1) (I:=s.heap.objs.size+1) (S:=S) (by simp [hh]) hneI o hd hf hr hpl hl).toS
 have hSf:s.heap.objs.size∉[s.heap.objs.size+1,S]:=by
  simp only [List.mem_cons,List.mem_singleton,List.not_mem_nil,or_false,not_or]
  exact⟨Nat.ne_of_lt (Nat.lt_succ_self _),hne⟩
 refine wpAny_pure ⟨plainId_quiet F.plain_extend_loop _,codeAny_extend_loopS W hn _ hSf _ es.size 0 _ _ _ rfl (Nat.zero_le _)
  ⟨⟨0,⟨_,oth _ _ (Nat.ne_of_gt (Nat.lt_succ_self _)) hI2,rfl,rfl⟩,.inr ?_⟩,oth _ _ hne.symm ho2⟩ hS₃ (ItemsOf.nil _) fun s' acc' c' hm hS' hacc=>?_⟩
 ·have:=(SetTable.gK hr 0).2.1
  rcases Nat.eq_zero_or_pos (SetTable.below t.place 0)with z|z
  ·exact z
  ·exact absurd (this 0 z) (Nat.not_lt_zero _)
 ·show wpAny _ A (load s.heap.objs.size>>=_) _ _ s'
  refine wpAny_bind (wpAny_load hS' ?_)
  obtain⟨h',g',d',tk',os'⟩:=s'
  have eg:g'=s.gens:=hm.gens
  have ed:d'=s.drawn:=hm.drawn
  have eo:os'=s.os:=hm.os
  subst eg;subst ed;subst eo
  have ea:acc'.toList=fY w S es ep:=by
   apply List.ext_getElem?
   intro j
   have olen:(fY w S es ep).length=es.size:=by rw [(jH w S es ep).length_eq,List.length_map,Array.length_toList]
   by_cases hj:j<acc'.size
   ·rw [Array.getElem?_toList,Array.getElem?_eq_getElem hj]
    exact(hacc.2 j _ (Array.getElem?_eq_getElem hj)).symm
   ·rw [List.getElem?_eq_none (by rw [Array.length_toList];omega),List.getElem?_eq_none (by rw [olen, <-hacc.1];omega)]
  refine wpAny_pure ?_
  rw [ea]
  refine hQ h' tk' (Heap.lt_size hS') fun b o e=>?_
  have hb:b<s.heap.objs.size:=Heap.lt_size e
  exact hm.heap b o (by simp only [List.mem_cons,List.mem_singleton,List.not_mem_nil,or_false,not_or];exact⟨Nat.ne_of_lt hb,Nat.ne_of_lt (Nat.lt_succ_of_lt hb)⟩) (oth b o (Nat.ne_of_lt hb) (keep2 b o e))
end
end PySem
namespace PySem.W
open PyProof.Rows
def KasT.Way {α:Type} (lt:Nat->Nat->Bool) (P:Nat->Prop):KasT α->(α->Prop)->Prop
 | .ret a,Q=>Q a
 | .ask i j k,Q=>P i/\P j/\(k (lt i j)).Way lt P Q
variable {lt:Nat->Nat->Bool} {P:Nat->Prop}
theorem KasT.way_bind {α β:Type} {f:α->KasT β} {Q:β->Prop}:∀(t:KasT α),t.Way lt P (fun a=>(f a).Way lt P Q)->(t.bind f).Way lt P Q
 | .ret _,h=>h
 | .ask i j k,h=>⟨h.1,h.2.1,KasT.way_bind (k (lt i j)) h.2.2⟩
theorem KasT.way_mono {α:Type} {Q Q':α->Prop} (hq:∀a,Q a->Q' a):∀(t:KasT α),t.Way lt P Q->t.Way lt P Q'
 | .ret _,h=>hq _ h
 | .ask i j k,h=>⟨h.1,h.2.1,KasT.way_mono hq (k (lt i j)) h.2.2⟩
theorem KasT.way_wp {α:Type} {cmp:Nat->Nat->(Bool->Shared->Prop)->Shared->Prop} {s:Shared} (hc:∀i j C,P i->P j->C (lt i j) s->cmp i j C s) {Q:α->Prop} {G:α->Shared->Prop} (hg:∀a,Q a->G a s):∀(t:KasT α),t.Way lt P Q->t.kasWp cmp G s
 | .ret _,h=>hg _ h
 | .ask i j k,h=>hc i j _ h.1 h.2.1 (KasT.way_wp hc hg (k (lt i j)) h.2.2)
structure nA (n:Nat) (lt:Nat->Nat->Bool):Prop where
 tot:∀i j,i<n->j<n->i≠j->lt i j=true∨lt j i=true
 asym:∀i j,lt i j=true->lt j i=false
 trans:∀i j k,lt i j=true->lt j k=true->lt i k=true
def vAt (p:Array Nat) (i:Nat):Nat:=p.getD i 0
def lH (n:Nat) (p:Array Nat):Prop:=p.toList.Perm (List.range n)
variable {n:Nat} {p:Array Nat}
theorem lH.size (h:lH n p):p.size=n:=by have:=h.length_eq;rw [List.length_range,Array.length_toList]at this;exact this
theorem iW {p:Array Nat} {i:Nat}:vAt p i=(p[i]?).getD 0:=by
 unfold vAt Array.getD
 by_cases h:i<p.size
 ·simp [h]
 ·simp [h]
theorem lH.low (h:lH n p) (hn:0<n) (i:Nat):vAt p i<n:=by
 rw [iW]
 cases e:p[i]? with
 |none=>exact hn
 |some x=>
  have:x∈p.toList:=List.mem_of_getElem? (by rw [Array.getElem?_toList];exact e)
  exact List.mem_range.mp (h.mem_iff.mp this)
theorem lH.inj (h:lH n p) {i j:Nat} (hi:i<n) (hj:j<n) (e:i≠j):vAt p i≠vAt p j:=by
 have nd:p.toList.Nodup:=h.nodup_iff.mpr List.nodup_range
 have si:i<p.toList.length:=by rw [Array.length_toList,h.size];exact hi
 have sj:j<p.toList.length:=by rw [Array.length_toList,h.size];exact hj
 intro z
 have h1:vAt p i=p.toList[i]:=by rw [iW, <-Array.getElem?_toList,List.getElem?_eq_getElem si];rfl
 have h2:vAt p j=p.toList[j]:=by rw [iW, <-Array.getElem?_toList,List.getElem?_eq_getElem sj];rfl
 rw [h1,h2]at z
 exact e ((List.getElem_inj nd).mp z)
theorem lH.perm {q:Array Nat} (h:lH n p) (e:q.Perm p):lH n q:=(Array.perm_iff_toList_perm.mp e).trans h
def mL (lt:Nat->Nat->Bool) (p:Array Nat) (k:Nat):Prop:=∀i j,i<j->j<k->lt (vAt p i) (vAt p j)=true
def aAi (lt:Nat->Nat->Bool) (p:Array Nat) (k:Nat):Prop:=∀i j,i<j->j<k->lt (vAt p j) (vAt p i)=true
theorem mL.more (S:nA n lt) {k:Nat} (h:mL lt p k) (hk:1<=k) (e:lt (vAt p (k-1)) (vAt p k)=true):mL lt p (k+1):=fun i j hi hj=>by
 by_cases z:j<k
 ·exact h i j hi z
 ·obtain rfl:j=k:=by omega
  by_cases y:i=j-1
  ·subst y;exact e
  ·exact S.trans _ _ _ (h i (j-1) (by omega) (by omega)) e
theorem aAi.more (S:nA n lt) {k:Nat} (h:aAi lt p k) (hk:1<=k) (e:lt (vAt p k) (vAt p (k-1))=true):aAi lt p (k+1):=fun i j hi hj=>by
 by_cases z:j<k
 ·exact h i j hi z
 ·obtain rfl:j=k:=by omega
  by_cases y:i=j-1
  ·subst y;exact e
  ·exact S.trans _ _ _ e (h i (j-1) (by omega) (by omega))
theorem aBq (S:nA n lt) (hn:0<n) (T:lH n p):∀(f k:Nat),1<=k->k+f=n->mL lt p k->(kas_asc p f k).Way lt (·<n) fun m=>mL lt p m/\k<=m/\m<=n/\(m=n∨lt (vAt p m) (vAt p (m-1))=true)
 |0,k,h1,h2,h3=>⟨h3,Nat.le_refl _,by omega,.inl (by omega)⟩
 |f+1,k,h1,h2,h3=>by
  refine⟨T.low hn k,T.low hn (k-1),?_⟩
  show KasT.Way lt (·<n) (if lt (vAt p k) (vAt p (k-1))=true then _ else _) _
  by_cases c:lt (vAt p k) (vAt p (k-1))=true
  ·rw [if_pos c]
   exact⟨h3,Nat.le_refl _,by omega,.inr c⟩
  ·rw [if_neg c]
   have c':=(S.tot _ _ (T.low hn k) (T.low hn (k-1)) (T.inj (by omega) (by omega) (by omega))).resolve_left c
   exact KasT.way_mono (fun m z=>⟨z.1,by omega,z.2.2⟩) _ (aBq S hn T f (k+1) (by omega) (by omega) (h3.more S h1 c'))
theorem aEf (S:nA n lt) (hn:0<n) (T:lH n p):∀(f k:Nat),1<=k->k+f=n->aAi lt p k->(kas_desc f p k 0).Way lt (·<n) fun r=>r.1=p/\r.2.2=0/\aAi lt p r.2.1/\k<=r.2.1/\r.2.1<=n
 |0,k,h1,h2,h3=>⟨rfl,rfl,h3,Nat.le_refl _,by show k<=n;omega⟩
 |f+1,k,h1,h2,h3=>by
  refine⟨T.low hn k,T.low hn (k-1),?_⟩
  show KasT.Way lt (·<n) (if lt (vAt p k) (vAt p (k-1))=true then _ else _) _
  by_cases c:lt (vAt p k) (vAt p (k-1))=true
  ·rw [if_pos c,if_neg (by omega)]
   exact KasT.way_mono (fun m z=>⟨z.1,z.2.1,z.2.2.1,by omega,z.2.2.2.2⟩) _ (aEf S hn T f (k+1) (by omega) (by omega) (h3.more S h1 c))
  ·rw [if_neg c]
   refine⟨T.low hn (k-1),T.low hn k,?_⟩
   have c':=(S.tot _ _ (T.low hn k) (T.low hn (k-1)) (T.inj (by omega) (by omega) (by omega))).resolve_left c
   show KasT.Way lt (·<n) (if lt (vAt p (k-1)) (vAt p k)=true then _ else _) _
   rw [if_pos c']
   exact⟨rfl,rfl,h3,Nat.le_refl _,by show k<=n;omega⟩
theorem aJ8 {m:Nat} (hm:m<=p.size) (i:Nat):vAt (kas_rev p 0 m) i=if i<m then vAt p (m-1-i)else vAt p i:=by
 rw [iW,kas_rev,getElem?_mirror_all hm]
 by_cases h:i<m
 ·rw [if_pos ⟨Nat.zero_le _,h⟩,if_pos h,iW,Nat.zero_add]
 ·rw [if_neg (fun z=>h z.2),if_neg h,iW]
theorem aIo (S:nA n lt) (hn:0<n) (T:lH n p):(kas_count n p).Way lt (·<n) fun r=>lH n r.2/\mL lt r.2 r.1/\1<=r.1/\r.1<=n:=by
 refine KasT.way_bind _ (KasT.way_mono (fun m z=>?_) _ (aBq S hn T (n-1) 1 (Nat.le_refl _) (by omega) fun i j h1 h2=>by omega))
 obtain⟨z1,z2,z3,z4⟩:=z
 by_cases e:m=n
 ·rw [if_pos (beq_iff_eq.mpr e)]
  exact⟨T,z1,z2,z3⟩
 ·rw [if_neg (fun y=>e (beq_iff_eq.mp y))]
  have z4:=z4.resolve_left e
  by_cases g:m>1
  ·rw [if_pos g]
   refine⟨T.low hn 0,T.low hn (m-1),?_⟩
   have c:lt (p.getD 0 0) (p.getD (m-1) 0)=true:=z1 0 (m-1) (by omega) (by omega)
   rw [c]
   dsimp only
   rw [if_pos rfl]
   exact⟨T,z1,z2,z3⟩
  ·rw [if_neg g]
   obtain rfl:m=1:=by omega
   refine KasT.way_bind _ (KasT.way_mono (fun r y=>?_) _ (aEf S hn T (n-(1+1)) (1+1) (by omega) (by omega) fun i j h1 h2=>?_))
   ·obtain⟨q,k,w⟩:=r
    obtain⟨y1,y2,y3,y4,y5⟩:=y
    have y1:q=p:=y1
    have y2:w=0:=y2
    subst y1 y2
    show KasT.Way lt (·<n) (if 0>0 then _ else _) _
    rw [if_neg (by omega)]
    have y3:aAi lt q k:=y3
    have y4:2<=k:=y4
    have y5:k<=n:=y5
    have T':lH n (kas_rev q 0 k):=T.perm (mirror_perm ..)
    have hs:k<=q.size:=by rw [T.size];exact y5
    refine KasT.way_bind _ (KasT.way_mono (fun m' x=>?_) _ (aBq S hn T' (n-k) k (by omega) (by omega) fun i j h1 h2=>?_))
    ·exact⟨T',x.1,by have:=x.2.1;show 1<=m';omega,x.2.2.1⟩
    ·rw [aJ8 hs,aJ8 hs,if_pos (by omega),if_pos h2]
     exact y3 _ _ (by omega) (by omega)
   ·obtain rfl:i=0:=by omega
    obtain rfl:j=1:=by omega
    exact z4
theorem uJ (S:nA n lt) (hn:0<n) (T:lH n p) {k:Nat} (hk:k<n) (R:mL lt p k):∀(f l r:Nat),l<=r->r<=k->r-l<=f->(∀i,i<l->lt (vAt p i) (vAt p k)=true)->(∀i,r<=i->i<k->lt (vAt p k) (vAt p i)=true)->
  (kas_place p k f l r).Way lt (·<n) fun m=>m<=k/\(∀i,i<m->lt (vAt p i) (vAt p k)=true)/\∀i,m<=i->i<k->lt (vAt p k) (vAt p i)=true
 |0,l,r,h1,h2,h3,a,b=>by
  obtain rfl:l=r:=by omega
  exact⟨h2,a,b⟩
 |f+1,l,r,h1,h2,h3,a,b=>by
  show KasT.Way lt (·<n) (if l≥r then _ else _) _
  by_cases e:l≥r
  ·rw [if_pos e]
   obtain rfl:l=r:=by omega
   exact⟨h2,a,b⟩
  ·rw [if_neg e]
   refine⟨T.low hn k,T.low hn _,?_⟩
   show KasT.Way lt (·<n) (if lt (vAt p k) (vAt p ((l+r) / 2))=true then _ else _) _
   by_cases c:lt (vAt p k) (vAt p ((l+r) / 2))=true
   ·rw [if_pos c]
    refine uJ S hn T hk R f l _ (by omega) (by omega) (by omega) a fun i g1 g2=>?_
    by_cases y:i=(l+r) / 2
    ·subst y;exact c
    ·exact S.trans _ _ _ c (R _ i (by omega) g2)
   ·rw [if_neg c]
    have c':=(S.tot _ _ (T.low hn k) (T.low hn ((l+r) / 2)) (T.inj hk (by omega) (by omega))).resolve_left c
    refine uJ S hn T hk R f _ r (by omega) h2 (by omega) (fun i g=>?_) b
    by_cases y:i=(l+r) / 2
    ·subst y;exact c'
    ·exact S.trans _ _ _ (R i _ (by omega) (by omega)) c'
theorem aL6 {k l:Nat} (hk:k<p.size) (hl:l<=k) (i:Nat):vAt (bubble p k (k-l)) i=if i=l then vAt p k else if l<i/\i<=k then vAt p (i-1)else vAt p i:=by
 rw [iW,getElem?_bubble hk _ (by omega),show k-(k-l)=l by omega]
 split
 ·rw [iW]
 ·split<;>rw [iW]
theorem aG2 (S : nA n lt) (hn : 0 < n) : ∀ (f : Nat) (p : Array Nat) (k : Nat), lH n p → k + f = n → mL lt p k → (kas_bin f p k).Way lt (· < n) fun q => lH n q ∧ mL lt q n
  | 0, p, k, T, h, R => ⟨T, by obtain rfl : k = n := by omega
                               exact R⟩
  | f + 1, p, k, T, h, R => by
    refine KasT.way_bind _ (KasT.way_mono (fun l z => ?_) _ (uJ S hn T (k := k) (by omega) R k 0 k (Nat.zero_le _) (Nat.le_refl _) (by omega) (fun i g => by omega) fun i g1 g2 => by omega))
    obtain ⟨z1, z2, z3⟩ := z
    have hs : k < p.size := by rw [T.size]; omega
    refine aG2 S hn f _ (k + 1) (T.perm (bubble_perm ..)) (by omega) fun i j h1 h2 => ?_
    rw [aL6 hs z1, aL6 hs z1]
    by_cases a1 : i = l
    · subst a1
      rw [if_pos rfl, if_neg (by omega), if_pos ⟨h1, by omega⟩]
      exact z3 (j - 1) (by omega) (by omega)
    · rw [if_neg a1]
      by_cases a2 : l < i ∧ i ≤ k
      · rw [if_pos a2, if_neg (by omega), if_pos ⟨by omega, by omega⟩]
        exact R _ _ (by omega) (by omega)
      · rw [if_neg a2]
        by_cases b1 : j = l
        · rw [if_pos b1]
          exact z2 i (by omega)
        · rw [if_neg b1]
          by_cases b2 : l < j ∧ j ≤ k
          · rw [if_pos b2]
            by_cases e : i = j - 1
            · omega
            · exact R _ _ (by omega) (by omega)
          · rw [if_neg b2]
            exact R _ _ h1 (by omega)
theorem aMj (S:nA n lt) (hn:0<n):(kas_sort n).Way lt (·<n) fun q=>lH n q/\mL lt q n:=by
 have T:lH n (List.toArray (List.range n)):=List.Perm.refl _
 refine KasT.way_bind _ (KasT.way_mono (fun r z=>?_) _ (aIo S hn T))
 obtain⟨m,q⟩:=r
 obtain⟨z1,z2,z3,z4⟩:=z
 have z1:lH n q:=z1
 have z2:mL lt q m:=z2
 have z3:1<=m:=z3
 have z4:m<=n:=z4
 show KasT.Way lt (·<n) (if m<n then kas_bin (n-max m 1) q (max m 1)else _) _
 by_cases e:m<n
 ·rw [if_pos e,show max m 1=m by omega]
  exact aG2 S hn _ _ _ z1 (by omega) z2
 ·rw [if_neg e]
  obtain rfl:m=n:=by omega
  exact⟨z1,z2⟩
end PySem.W
namespace PySem
open Sem (wp)
open PyProof.Rows (listItems_at)
open SeqAt
def aUm (A:Around) (s:Shared) (y x:Value) (b:Bool):Prop:=
 ∀(prog:Program) (w:World) (E:Value->Shared->Prop) (Q:Value->Shared->Prop),Q (.bool b) s->wpAny (model prog w) A (richCompare .Lt y x) Q E s
def LtN (n:Nat) (s:Shared) (y x:Value) (b:Bool):Prop:=∀A:Around,A.units<=n->aUm A s y x b
theorem LtN.ints (n:Nat) (s:Shared) (a b:Int) (t u):LtN n s (.int a t) (.int b u) (decide (a<b)):=fun A _ prog w E Q h=>PyProof.Rows.lt_int h
section
variable {s:Shared} {a b:Addr} {xs ys:Array Value} {n:Nat}
end
end PySem
namespace PySem
open Sem (wp)
def jK:List Int->List Int->Bool
 | [],[]=>false
 | [],_::_=>true
 |_::_,[]=>false
 |x::xs,y::ys=>if x=y then jK xs ys else decide (x<y)
theorem zG:∀x,jK x x=false
 | []=>rfl
 |x::xs=>by rw [jK,if_pos rfl];exact zG xs
theorem aD3:∀x y,x≠y->jK x y=true∨jK y x=true
 | [],[],h=>absurd rfl h
 | [],_::_,_=> .inl rfl
 |_::_,[],_=> .inr rfl
 |x::xs,y::ys,h=>by
  unfold jK
  by_cases e:x=y
  ·subst e
   rw [if_pos rfl,if_pos rfl]
   exact aD3 xs ys fun z=>h (by rw [z])
  ·rw [if_neg e,if_neg (Ne.symm e),decide_eq_true_iff,decide_eq_true_iff]
   omega
theorem sJ:∀x y z,jK x y=true->jK y z=true->jK x z=true
 | [],[],_,h,_=>absurd h (by decide)
 | [],_::_,[],_,h=>absurd h (by simp [jK])
 | [],_::_,_::_,_,_=>rfl
 |_::_,[],_,h,_=>absurd h (by simp [jK])
 |_::_,_::_,[],_,h=>absurd h (by simp [jK])
 |x::xs,y::ys,z::zs,h1,h2=>by
  unfold jK at h1 h2⊢
  by_cases e1:x=y
  ·subst e1
   rw [if_pos rfl]at h1
   by_cases e2:x=z
   ·subst e2
    rw [if_pos rfl]at h2⊢
    exact sJ xs ys zs h1 h2
   ·rw [if_neg e2]at h2⊢
    exact h2
  ·rw [if_neg e1,decide_eq_true_iff]at h1
   by_cases e2:y=z
   ·subst e2
    rw [if_neg e1,decide_eq_true_iff]
    exact h1
   ·rw [if_neg e2,decide_eq_true_iff]at h2
    rw [if_neg (by omega),decide_eq_true_iff]
    omega
theorem aA1 (x y:List Int) (h:jK x y=true):jK y x=false:=by
 cases e:jK y x with
 |false=>rfl
 |true=>
  have:=sJ x y x h e
  rw [zG]at this
  cases this
end PySem
namespace PySem
open Sem (wp)
open SeqAt
section
variable {prog:Program} {w:World} {s:Shared} {n:Nat}
theorem LtN.tups {a b:Addr} {x y:List Int} (ha:IsTupleKey (intKind prog w) s.heap x a) (hb:IsTupleKey (intKind prog w) s.heap y b) (hn:n+4<cLine):LtN n s (.ref a) (.ref b) (jK x y):=by
 obtain⟨oa,ia,na,hoa,ca,da,ha⟩:=ha
 obtain⟨ob,ib,nb,hob,cb,db,hb⟩:=hb
 have Ta:s.TypeIs (.ref a) "tuple":=⟨oa,hoa,ca⟩
 have Tb:s.TypeIs (.ref b) "tuple":=⟨ob,hob,cb⟩
 intro A hA prog' w' E Q hQ
 refine wpAny_richCompare_same_room (op:= .Lt) Ta Tb F.slot_tuple_lt (wpAny_call (codeAny_call_builtin F.slot_tuple_lt.plain F.entry_tuple_lt (F.slot_tuple_lt.check _ _ _ _ _ _ _ _ Ta (F.args_tuple_lt_2 _ _) ?_))) (by omega)
 show wpAny _ _ (isInstance (.ref b) (.type "tuple")>>=_) _ _ s
 refine wpAny_bind (wpAny_isInstance Tb isSubtype_tuple_tuple ?_)
 simp only [Bool.not_true,Bool.false_eq_true,if_false]
 refine wpAny_bind (wpAny_tupleItemsOf hoa da ?_)
 refine wpAny_bind (wpAny_tupleItemsOf hob db ?_)
 refine wpAny_bind (wpAny_mono (Q:=fun r s'=>s'=s/\(match r.1 with|some v=>v= .done (.ret (.bool (jK x y)))|none=>jK x y=decide (x.length<y.length))) ?_ (fun r s' h=>?_) fun _ _ z=>z)
 ·clear hQ hoa hob da db ca cb Ta Tb
  generalize ia.toList=us at ha⊢
  generalize ib.toList=vs at hb⊢
  induction ha generalizing y vs with
  |nil=>
   rw [List.zip_nil_left,List.forIn_nil]
   refine wpAny_pure ⟨rfl,?_⟩
   cases hb<;>rfl
  |@cons i u x us h1 t1 ih=>
   cases hb with
   |nil=>
    rw [List.zip_nil_right,List.forIn_nil]
    exact wpAny_pure ⟨rfl,rfl⟩
   |@cons j v y vs h2 t2=>
    obtain⟨tu,rfl⟩:=Value.isInt_shape h1
    obtain⟨tv,rfl⟩:=Value.isInt_shape h2
    rw [List.zip_cons_cons,List.forIn_cons]
    refine wpAny_bind (wpAny_bind (wpAny_eqBool_int ?_))
    by_cases ij:i=j
    ·subst ij
     rw [beq_self_eq_true]
     simp only [Bool.not_true,Bool.false_eq_true,if_false]
     refine wpAny_pure ?_
     dsimp only
     have:=ih vs t2
     have e1:jK (i::x) (i::y)=jK x y:=by rw [jK,if_pos rfl]
     have e2:decide ((i::x).length<(i::y).length)=decide (x.length<y.length):=by simp
     rw [e1,e2]
     exact this
    ·rw [beq_eq_false_iff_ne.mpr ij]
     have e1:jK (i::x) (j::y)=decide (i<j):=by rw [jK,if_neg ij]
     rw [e1]
     simp only [Bool.not_false,if_true]
     refine wpAny_bind (wpAny_rule (wpAny_bind (LtN.ints (n+3) s i j tu tv A.in1 (by show A.units+1<=n+3;omega) prog' w' _ _ ?_)))
     exact wpAny_bind (wpAny_pure (wpAny_pure (wpAny_pure ⟨rfl,rfl⟩)))
 ·obtain⟨rfl,h⟩:=h
  obtain⟨r,u⟩:=r
  cases r with
  |some v=>
   have h:v=_:=h
   subst h
   exact wpAny_pure ⟨(fun z=>nomatch z),hQ⟩
  |none=>
   have h:jK x y=_:=h
   rw [ha.length,hb.length,Array.length_toList,Array.length_toList]at h
   refine wpAny_pure ⟨(fun z=>nomatch z),?_⟩
   rw [h]at hQ
   exact hQ
end
end PySem
namespace PySem
open Sem (wp)
section
variable {prog:Program} {w:World} {K:Type} [DecidableEq K] {knd:HeapKind prog w K} {A:Around}
structure Met (val:Nat->K) (adr:Nat->Addr) (i:Nat) (xs:List (K×Addr)):Prop where
 from':∀x∈xs,∃j,j<i/\x=(val j,adr j)
 all:∀j,j<i->∃x∈xs,x.1=val j
 len:xs.length<=i
theorem mD {R:Result->Shared->Prop} {I:Addr} {fp wr:List Addr} {G:Array GenState->Array GenState->Prop} {n:Nat} {P:Nat->Value->Prop} {St:Nat->Shared->Prop}
  (D:rG knd) (W:WalksS prog w A.in1 I fp wr G n P St) (S:Addr) (hSf:S∉fp) (hu:knd.room A.in1) (l:Bool)
  (val:Nat->K) (adr:Nat->Addr) (hval:∀i v,P i v->v= .ref (adr i)) (hn:∀i xs,i<n->Met val adr i xs->(xs.map (·.1)).Nodup->xs.length<18) (hnt:∀i s,St i s->∀b∈wr,∀o,s.heap.get? b=some o->o.cls≠ .type "tuple"):
  ∀(k i:Nat) (s:Shared) (xs:List (K×Addr)),n-i=k->i<=n->St i s->(∀j,j<n->knd.is s.heap (val j) (adr j))->
   jP knd s S l xs->Met val adr i xs->
   (∀s' xs',Moved (S::wr) G s s'->jP knd s' S l xs'->Met val adr n xs'->(∀b o,o.cls= .type "tuple"->s.heap.get? b=some o->s'.heap.get? b=some o)->R (.ok (.ret .none)) s')->
   codeAny (model prog w) A (.builtin "set.update.loop" ⟨[.ref S,.ref I],[]⟩) R s:=by
 have hSw:S∉wr:=fun h=>hSf (W.sub _ h)
 have hsub:∀b∈wr,b∈S::wr:=fun b hb=>List.mem_cons_of_mem _ hb
 intro k
 induction k with
 |zero=>
  intro i s xs hk hi hst hkey hS hm0 hR
  have hin:i=n:=by omega
  subst hin
  refine codeAny_builtin PyProof.Rows.F.entry_set_update_loop ?_
  rw [Around.under_plainId PyProof.Rows.F.plain_set_update_loop _]
  show wpAny _ A.in1 (pyNext (.ref I)>>=_) _ _ s
  refine wpAny_bind (W.done s _ _ hst fun s' hm=>?_)
  have ht:∀b o,o.cls= .type "tuple"->s.heap.get? b=some o->s'.heap.get? b=some o:=fun b o hc e=>hm.heap b o (fun hb=>hnt _ _ hst b hb o e hc) e
  show wpAny _ A.in1 (ret Value.none) _ _ s'
  exact wpAny_pure (hR s' xs (hm.mono hsub) (hS.at D (fun o e=>hm.heap S o hSw e) ht) hm0 ht)
 |succ k ih=>
  intro i s xs hk hi hst hkey hS hm0 hR
  have hlt:i<n:=by omega
  refine codeAny_builtin PyProof.Rows.F.entry_set_update_loop ?_
  rw [Around.under_plainId PyProof.Rows.F.plain_set_update_loop _]
  show wpAny _ A.in1 (pyNext (.ref I)>>=_) _ _ s
  refine wpAny_bind (W.item i s _ _ hlt hst fun v s' hP hst' hm=>?_)
  obtain rfl:=hval i v hP
  have ht:∀b o,o.cls= .type "tuple"->s.heap.get? b=some o->s'.heap.get? b=some o:=fun b o hc e=>hm.heap b o (fun hb=>hnt _ _ hst b hb o e hc) e
  have hS':=hS.at D (fun o e=>hm.heap S o hSw e) ht
  have hk':∀j,j<n->knd.is s'.heap (val j) (adr j):=fun j hj=>D.mono (hkey j hj) ht
  show wpAny _ A.in1 (holding [Value.ref (adr i)] (setAdd S (.ref (adr i)))>>=_) _ _ s'
  refine wpAny_bind (wpAny_holding ?_)
  unfold setAdd
  refine wpAny_holding ?_
  refine wpAny_bind (knd.pyHash (k:=val i) hu (hk' i hlt) ?_)
  have hS2:jP knd {s' with toks:=s'.toks+knd.draws (val i)} S l xs:=hS'.at D (fun _ e=>e) fun _ _ _ e=>e
  refine mW D hS2 (hn i xs hlt hm0 (by obtain⟨_,_,_,_,z,_⟩:=hS2;exact z.nd)) hu (hk' i hlt) (fun hold=>?_) (fun hnew h' xs' hsb pm S3=>?_)
  ·refine wpAny_pure ⟨plainId_quiet PyProof.Rows.F.plain_set_update_loop _,ih (i+1) _ xs (by omega) hlt (W.frame _ s' _ _ hst' (Nat.le_add_right _ _) fun b hb o e=>e) hk' hS2 ⟨fun x hx=>?_,fun j hj=>?_,by have:=hm0.len;omega⟩ fun s'' xs'' hm'' S'' M'' ht''=>?_⟩
   ·obtain⟨j,h1,h2⟩:=hm0.from' x hx
    exact⟨j,by omega,h2⟩
   ·by_cases e:j=i
    ·subst e;exact hold
    ·exact hm0.all j (by omega)
   ·exact hR s'' xs'' (Moved.trans W.gtrans ((hm.mono hsub).then_heap (Nat.le_add_right _ _) fun b o hb e=>e) hm'') S'' M'' fun b o hc e=>ht'' b o hc (ht b o hc e)
  ·have hSt:∀b o,o.cls= .type "tuple"->s'.heap.get? b=some o->h'.get? b=some o:=fun b o hc e=>by
    have ne:b≠S:=by
     rintro rfl
     obtain⟨o2,_,_,_,z,_⟩:=hS'
     rw [z.ho]at e
     cases e
     rw [z.hex.1]at hc
     exact absurd hc (by decide)
    rw [hsb.2 b ne]
    exact e
   refine wpAny_pure ⟨plainId_quiet PyProof.Rows.F.plain_set_update_loop _,ih (i+1) _ xs' (by omega) hlt (W.frame _ s' _ _ hst' (Nat.le_add_right _ _) fun b hb o e=>?_) (fun j hj=>D.mono (hk' j hj) hSt) S3 ⟨fun x hx=>?_,fun j hj=>?_,by have:=hm0.len;rw [pm.length_eq,List.length_cons];omega⟩ fun s'' xs'' hm'' S'' M'' ht''=>?_⟩
   ·rw [hsb.2 b (fun h:b=S=>hSf (by rw [<-h];exact hb))];exact e
   ·rcases List.mem_cons.mp (pm.mem_iff.mp hx)with e|m
    ·exact⟨i,by omega,e⟩
    ·obtain⟨j,h1,h2⟩:=hm0.from' x m
     exact⟨j,by omega,h2⟩
   ·by_cases e:j=i
    ·subst e;exact⟨_,pm.mem_iff.mpr List.mem_cons_self,rfl⟩
    ·obtain⟨x,hx,ex⟩:=hm0.all j (by omega)
     exact⟨x,pm.mem_iff.mpr (List.mem_cons_of_mem _ hx),ex⟩
   ·refine hR s'' xs'' (Moved.trans W.gtrans ((hm.mono hsub).then_heap (Nat.le_add_right _ _) fun b o hb e=>?_) hm'') S'' M'' fun b o hc e=>ht'' b o hc (hSt b o hc (ht b o hc e))
    rw [hsb.2 b (fun h:b=S=>hb (by rw [h];exact List.mem_cons_self))];exact e
end
section
variable {prog:Program} {w:World} {A:Around} {E:Value->Shared->Prop} {s:Shared}
theorem zV (a:Value) {Q₁:Value->Shared->Prop}
  (h:Q₁ (.ref s.heap.objs.size) {s with heap:=s.heap.push {cls:= .type "set",dict:=none,data:= .set #[] 0 (.fresh 0 0 (!w.params.followText "set-order"))}}):
  codeAny (model prog w) A (.call (.builtin "set.__new__") ⟨[.type "set",a],[]⟩) (wants Q₁ E) s:=by
 refine codeAny_of_tree ?_
 show wpAny _ A.in1 (do checkBuiltinCall "set.__new__" ⟨[.type "set",a],[]⟩;again (.builtin "set.__new__" ⟨[.type "set",a],[]⟩)) _ _ s
 refine wpAny_bind (wpAny_of_eq (F.newCall_set_1 a) (wpAny_pure ⟨plainId_quiet F.plain_set_new _,codeAny_builtin F.entry_set_new ?_⟩))
 rw [Around.under_plainId F.plain_set_new _]
 unfold Builtin.«set.__new__» Builtin.Frozenset.newClass
 have hsub:=sub_set_self
 obtain⟨hp,g,d,tk,os⟩:=s
 dsimp only
 wp_walk
 refine wpAny_askSetting (wpAny_pure ?_)
 dsimp only
 simp only [newObj]
 refine wpAny_bind (wpAny_alloc (wpAny_pure ?_))
 exact wpAny_pure h
end
section
variable {prog:Program} {w:World} {K:Type} [DecidableEq K] {knd:HeapKind prog w K} {A:Around} {E:Value->Shared->Prop} {s:Shared}
theorem jP.fresh (s:Shared) {a:Addr} (l:Bool) (h:s.heap.get? a=some {cls:= .type "set",dict:=none,data:= .set #[] 0 (.fresh 0 0 l)}):jP knd s a l []:=
 ⟨_, #[],0,_,⟨h,⟨rfl,rfl,rfl⟩,rfl,rfl,⟨rfl,fun i k h1 h2=>absurd h2 (Nat.not_lt_zero _),fun j hj=>(nomatch hj),Nat.zero_le _,SetTable.aPs⟩,rfl,fun x hx=>(nomatch hx),List.nodup_nil,fun i j x h1 h2=>(nomatch h2)⟩,.inl ⟨rfl,Nat.zero_le _⟩,rfl,rfl⟩
def aRa (prog:Program) (w:World) (n:Nat) (P:Nat->Value->Prop) (u:Nat) (s:Shared) (S:Addr) (led:Bool) (Z:Shared->Prop):Prop:=
 ∀{A:Around} {R:Result->Shared->Prop} {I:Addr} {fp wr:List Addr} {G:Array GenState->Array GenState->Prop} {St:Nat->Shared->Prop} (s1:Shared),WalksS prog w A.in1 I fp wr G n P St->S∉fp->A.in1.units<=u+8->
  (∀i s,St i s->∀b∈wr,∀o,s.heap.get? b=some o->o.cls≠ .type "tuple")->St 0 s1->(∀b o,s.heap.get? b=some o->s1.heap.get? b=some o)->s1.heap.get? S=some {cls:= .type "set",dict:=none,data:= .set #[] 0 (.fresh 0 0 led)}->
  (∀s',Moved (S::wr) G s1 s'->Z s'->R (.ok (.ret .none)) s')->codeAny (model prog w) A (.builtin "set.update.loop" ⟨[.ref S,.ref I],[]⟩) R s1
theorem uF {l:Addr} {items:Array Value} {Q:Value->Shared->Prop} (Z:Shared->Prop) (hh:A.handled=none) (hl:s.heap.IsList l items)
  (L:aRa prog w items.size (fun i v=>items[i]? =some v) A.units s s.heap.objs.size (!w.params.followText "set-order") Z)
  (h:∀(h':Heap) (tk:Nat),Z {s with heap:=h',toks:=tk}->(∀b o,b<s.heap.objs.size->s.heap.get? b=some o->h'.get? b=some o)->Q (.ref s.heap.objs.size) {s with heap:=h',toks:=tk}):
  wpAny (model prog w) A (call (.type "set") [.ref l]) Q E s:=by
 obtain⟨c,tl,hmro⟩:=F.called_set.mro
 have hmade:=F.called_set.made
 have hsub:=F.called_set.sub
 refine wpAny_call (codeAny_of_tree ?_)
 show wpAny _ _ (callAny (.type "set") _) _ _ _
 refine wpAny_pure ⟨Code.quiet_builtin _ (by decide+kernel),codeAny_builtin F.entry_type_call ?_⟩
 rw [Around.under_plain (weight_type_call_type "set" [.ref l] []) rfl]
 have h1:=F.called_set.notType
 have h2:=F.called_set.canCreate
 have hct:=F.typeCall_set_1 (.ref l)
 repeat (any_goals (first|assumption|wp_step))
 generalize hled:(!w.params.followText "set-order")=led at L
 refine codeAny_mono (zV (.ref l) (E:=E) (Q₁:=fun obj s₁=>obj= .ref s.heap.objs.size/\s₁={s with heap:=s.heap.push {cls:= .type "set",dict:=none,data:= .set #[] 0 (.fresh 0 0 led)}}) ⟨rfl,by rw [hled]⟩) fun r s₁ hr=>?_
 cases r with
 |error e=>exact hr
 |ok fl=>
  cases fl with
  |ret obj=>
   obtain⟨rfl,rfl⟩:=hr
   have hS:(s.heap.push {cls:= .type "set",dict:=none,data:= .set #[] 0 (.fresh 0 0 led)}).get? s.heap.objs.size=some {cls:= .type "set",dict:=none,data:= .set #[] 0 (.fresh 0 0 led)}:=Heap.get?_push_size _ rfl
   have hT:Shared.TypeIs {s with heap:=s.heap.push {cls:= .type "set",dict:=none,data:= .set #[] 0 (.fresh 0 0 led)}} (.ref s.heap.objs.size) "set":=⟨_,hS,rfl⟩
   have hli:=F.called_set.init.lookup
   have hbi:=F.called_set.init.bind (.ref s.heap.objs.size)
   repeat (any_goals (first|assumption|wp_step))
   refine codeAny_mono (codeAny_call_builtin (R:=wants (fun r s₂=>r= .none/\∃h' tk,s₂={s with heap:=h',toks:=tk}/\Z {s with heap:=h',toks:=tk}/\
     (∀b o,b<s.heap.objs.size->s.heap.get? b=some o->h'.get? b=some o)) E) F.called_set.init.plain F.entry_set_init (check_set_init_1 hT ?_)) fun r₂ s₂ hr₂=>?_
   ·obtain⟨ol,hol,hcl,nl,hdl⟩:=hl
    obtain⟨ocls,odict,odata,oslots⟩:=ol
    simp only at hcl hdl
    subst hcl;subst hdl
    have hol':(s.heap.push {cls:= .type "set",dict:=none,data:= .set #[] 0 (.fresh 0 0 led)}).get? l=some {cls:= .type "list",dict:=odict,data:= .seq items nl,slots:=oslots}:=Heap.get?_push_of_some _ hol
    have hsls:=F.sub_list_set
    have hslf:=F.sub_list_frozenset
    have hne:(Value.type "list"==Value.type "dict")=false:=by decide
    have hl1:(s.heap.push {cls:= .type "set",dict:=none,data:= .set #[] 0 (.fresh 0 0 led)}).IsList l items:=⟨_,hol',rfl,nl,rfl⟩
    unfold Builtin.«set.__init__» noKeywords Builtin.Frozenset.updateFrom
    generalize hPI:pyIter=PI
    wp_walk
    subst hPI
    refine wpAny_pyIter_list hl1 ?_
    refine wpAny_bind (wpAny_runValue ?_)
    have hlS:l<s.heap.objs.size:=Heap.lt_size hol
    have hh3:A.in1.in1.in1.handled=none:=by simp [hh]
    have hneI:l≠(s.heap.push {cls:= .type "set",dict:=none,data:= .set #[] 0 (.fresh 0 0 led)}).objs.size:=by
     rw [Heap.size_push];exact Nat.ne_of_lt (Nat.lt_succ_of_lt hlS)
    have hSf:s.heap.objs.size∉[(s.heap.push {cls:= .type "set",dict:=none,data:= .set #[] 0 (.fresh 0 0 led)}).objs.size,l]:=by
     rw [Heap.size_push];simp only [List.mem_cons,List.mem_singleton,List.not_mem_nil,or_false,not_or]
     exact⟨Nat.ne_of_lt (Nat.lt_succ_self _),Nat.ne_of_gt hlS⟩
    have keep2:∀b o,s.heap.get? b=some o->((s.heap.push {cls:= .type "set",dict:=none,data:= .set #[] 0 (.fresh 0 0 led)}).push {cls:= .type "list_iterator",data:= .fields #[.ref l,.int 0 0]}).get? b=some o:=fun b o e=>Heap.get?_push_of_some _ (Heap.get?_push_of_some _ e)
    refine L _ ((Walks.list hh3 _ l hneI items).toS) hSf (by simp [Around.in1]) ?hnt ⟨⟨_,Heap.get?_push_size _ rfl,rfl,rfl⟩,(hl1.push _)⟩ keep2 (Heap.get?_push_of_some _ hS) ?hR
    case hnt=>
     rintro i s2 ⟨⟨o2,g1,g2,_⟩,_⟩ b hb o e hc
     have hb:=List.mem_singleton.mp hb
     subst hb
     rw [g1]at e
     cases e
     rw [g2]at hc
     exact absurd hc (by decide)
    case hR=>
     intro s' hm hS'
     obtain⟨h',g',d',tk',os'⟩:=s'
     have eg:g'=s.gens:=hm.gens
     have ed:d'=s.drawn:=hm.drawn
     have eo:os'=s.os:=hm.os
     subst eg;subst ed;subst eo
     show wpAny _ _ _ _ _ _
     refine wpAny_pure ?_
     show wpAny _ _ (ret Value.none) _ _ _
     refine wpAny_pure ⟨rfl,h',tk',rfl,hS',fun b o hb e=>?_⟩
     have hb1:b≠s.heap.objs.size:=Nat.ne_of_lt hb
     have hb2:b≠(s.heap.push {cls:= .type "set",dict:=none,data:= .set #[] 0 (.fresh 0 0 led)}).objs.size:=by
      rw [Heap.size_push];exact Nat.ne_of_lt (Nat.lt_succ_of_lt hb)
     exact hm.heap b o (by simp only [List.mem_cons,List.mem_singleton,List.not_mem_nil,or_false,not_or];exact⟨hb1,hb2⟩) (keep2 b o e)
   ·cases r₂ with
    |error e=>exact hr₂
    |ok fl₂=>
     cases fl₂ with
     |ret r=>
      obtain⟨rfl,h',tk,rfl,hS',hk'⟩:=hr₂
      repeat (any_goals (first|assumption|wp_step))
      exact h _ _ hS' hk'
     |_=>exact hr₂.elim
  |_=>exact hr.elim
theorem yU {l:Addr} {items:Array Value} {val:Nat->K} {adr:Nat->Addr} {Q:Value->Shared->Prop} (D:rG knd) (hu:∀A':Around,A'.units<=A.units+8->knd.room A')
  (hh:A.handled=none) (hl:s.heap.IsList l items) (hi:∀(i:Nat) (v:Value),items[i]? =some v->v=Value.ref (adr i)) (hk:∀j,j<items.size->knd.is s.heap (val j) (adr j)) (hb:∀i xs,i<items.size->Met val adr i xs->(xs.map (·.1)).Nodup->xs.length<18)
  (h:∀(h':Heap) (tk:Nat) (xs:List (K×Addr)),jP knd {s with heap:=h',toks:=tk} s.heap.objs.size (!w.params.followText "set-order") xs->Met val adr items.size xs->
   (∀b o,b<s.heap.objs.size->s.heap.get? b=some o->h'.get? b=some o)->Q (.ref s.heap.objs.size) {s with heap:=h',toks:=tk}):
  wpAny (model prog w) A (call (.type "set") [.ref l]) Q E s:=
 uF (fun s'=>∃xs,jP knd s' s.heap.objs.size (!w.params.followText "set-order") xs/\Met val adr items.size xs) hh hl
  (fun s1 W hSf hA hnt st kp hS hR=>mD D W s.heap.objs.size hSf (hu _ hA) _ val adr hi hb hnt (items.size-0) 0 s1 [] (by omega) (Nat.zero_le _) st (fun j hj=>D.mono (hk j hj) fun b o _ e=>kp b o e) (jP.fresh _ _ hS) ⟨fun x hx=>(nomatch hx),fun j hj=>absurd hj (Nat.not_lt_zero _),Nat.zero_le _⟩ fun s' xs' hm S M _=>hR s' hm ⟨xs',S,M⟩)
  fun h' tk ⟨xs,S,M⟩ kp=>h h' tk xs S M kp
end
end PySem
namespace PySem
open Sem (wp)
open PyProof.Rows PySem.W
section
variable {prog:Program} {w:World} {A:Around} {E:Value->Shared->Prop} {s:Shared}
end
structure aDh {prog:Program} {w:World} {α:Type} [DecidableEq α] (knd:HeapKind prog w α) (ok:α->Prop) (lt:α->α->Bool):Prop where
 set:rG knd
 tot:∀x y,x≠y->lt x y=true∨lt y x=true
 asym:∀x y,lt x y=true->lt y x=false
 trans:∀x y z,lt x y=true->lt y z=true->lt x z=true
 first:∀{h:Heap} {k:α} {a:Addr},ok k->knd.is h k a->∃o items n i tk,h.get? a=some o/\o.cls= .type "tuple"/\o.data= .seq items n/\items[0]? =some (Value.int i tk)
 cmp:∀{A:Around} {E:Value->Shared->Prop} {b:Bool} {s:Shared} {x y:α} {p q:Addr} {Q:Bool->Shared->Prop},A.units+10<cLine->knd.is s.heap x p->knd.is s.heap y q->Q (lt x y) s->wpAny (model prog w) A (keyLt' (tuples' b) (.ref p) (.ref q)) Q E s
section
variable {prog:Program} {w:World} {A:Around} {E:Value->Shared->Prop} {s:Shared} {α:Type} [DecidableEq α] [Inhabited α] {knd:HeapKind prog w α} {ok:α->Prop} {lt:α->α->Bool}
def zZ (knd:HeapKind prog w α) (ok:α->Prop) (h:Heap) (xs:List (α×Addr)):Prop:=∀x∈xs,ok x.1/\knd.is h x.1 x.2
theorem zZ.mono (O:aDh knd ok lt) {h h':Heap} {xs:List (α×Addr)} (T:zZ knd ok h xs) (hs:∀b o,o.cls= .type "tuple"->h.get? b=some o->h'.get? b=some o):zZ knd ok h' xs:=fun x hx=>⟨(T x hx).1,O.set.mono (T x hx).2 hs⟩
theorem zZ.kat (O:aDh knd ok lt) {h:Heap}:∀{xs:List (α×Addr)},zZ knd ok h xs->∃fs:List Value,fs.length=xs.length/\(∀v∈fs,∃i tk,v=Value.int i tk)/\KatTups h (xs.map fun x=>Value.ref x.2) fs
 | [],_=>⟨[],rfl,fun v hv=>(nomatch hv),KatTups.nil⟩
 |x::xs,T=>by
  obtain⟨fs,f1,f2,f3⟩:=zZ.kat O (xs:=xs) fun y hy=>T y (List.mem_cons_of_mem _ hy)
  obtain⟨o,items,n,i,tk,ho,hc,hd,hf⟩:=O.first (T x List.mem_cons_self).1 (T x List.mem_cons_self).2
  refine⟨.int i tk::fs,by rw [List.length_cons,List.length_cons,f1],fun v hv=>?_,KatTups.cons ho hc hd hf f3⟩
  rcases List.mem_cons.mp hv with rfl|hv
  ·exact⟨_,_,rfl⟩
  ·exact f2 v hv
theorem aAs {α:Type} {xs:List α} {p:List Nat} (hp:p.Perm (List.range xs.length)):(p.filterMap fun i:Nat=>xs[i]?).Perm xs:=by
 have:=hp.filterMap fun i:Nat=>xs[i]?
 rw [oW]at this
 exact this
theorem yN (O:aDh knd ok lt) (hu:A.units+20<cLine) {a:Addr} {xs:List (α×Addr)} {n:Nat} {P:Fin->Shared->Prop} (ho:s.heap.get? a=some (seqObj "list" (xs.map fun x=>Value.ref x.2).toArray n))
  (T:zZ knd ok s.heap xs) (nd:(xs.map (·.1)).Nodup) (h64:xs.length<64)
  (h:∀ys:List (α×Addr),ys.Perm xs->ys.Pairwise (fun x y=>lt x.1 y.1=true)->P (.done (.ret .none)) {s with heap:=sortedHeap s.heap a (xs.map fun x=>Value.ref x.2) (ys.map fun x=>Value.ref x.2).toArray}):
  wpAny (model prog w) A (Builtin.«list.sort» ⟨[.ref a],[]⟩) P E s:=by
 rw [list_sort_plain]
 have ha:a<s.heap.objs.size:=Heap.lt_size ho
 generalize hvs:(xs.map fun x=>Value.ref x.2)=vs at ho h
 have vl:vs.length=xs.length:=by rw [<-hvs,List.length_map]
 refine wpAny_bind (listItems_at ho rfl ?_)
 refine wpAny_bind (listUpdate_at ho rfl ?_ (by rw [List.size_toArray,sizeLine_eq];omega) (Nat.zero_le _))
 obtain⟨e1,ho1⟩:∃e1,(s.heap.update a (Obj.mapSeq fun _=> #[])).get? a=some (seqObj "list" #[] e1):=⟨_,get?_update_seq ho (fun _=> #[])⟩
 refine wpAny_bind (seqEpoch_at ho1 rfl ?_)
 refine wpAny_bind (wpAny_newTuple ?_ (by show vs.length<=_;rw [sizeLine_eq];omega))
 refine wpAny_bind (wpAny_newList ?_ (Nat.zero_le _))
 refine wpAny_holding ?_
 have kp:∀b o,b≠a->s.heap.get? b=some o->(((s.heap.update a (Obj.mapSeq fun _=> #[])).push (seqObj "tuple" vs.toArray 0)).push (seqObj "list" #[] 0)).get? b=some o:=fun b o hb e=>
  Heap.get?_push_of_some _ (Heap.get?_push_of_some _ ((Heap.get?_update_other _ _ (Ne.symm hb)).trans e))
 have ho6:(((s.heap.update a (Obj.mapSeq fun _=> #[])).push (seqObj "tuple" vs.toArray 0)).push (seqObj "list" #[] 0)).get? a=some (seqObj "list" #[] e1):=Heap.get?_push_of_some _ (Heap.get?_push_of_some _ ho1)
 show wpAny (model prog w) A _ P E {s with heap:=((s.heap.update a (Obj.mapSeq fun _=> #[])).push (seqObj "tuple" vs.toArray 0)).push (seqObj "list" #[] 0)}
 dsimp only
 generalize hH:((s.heap.update a (Obj.mapSeq fun _=> #[])).push (seqObj "tuple" vs.toArray 0)).push (seqObj "list" #[] 0)=H at ho6 kp
 have T6:zZ knd ok H xs:=T.mono O fun b o hc e=>kp b o (fun z=>by subst z;rw [ho]at e;cases e;exact absurd (show Value.type "list"=Value.type "tuple" from hc) (by decide)) e
 have fin:∀out:Array Value,sortedHeap s.heap a vs out=H.update a (Obj.mapSeq fun _=>out):=fun out=>by rw [<-hH];rfl
 by_cases h2:vs.toArray.size<2
 ·rw [if_pos h2,if_pos h2]
  refine wpAny_bind (wpAny_pure ?_)
  rw [StateT.run_pure]
  refine wpAny_bind (wpAny_pure ?_)
  dsimp only
  refine wpAny_bind (seqEpoch_at ho6 rfl ?_)
  have ev:(pairsOf vs).map (·.2)=vs.toArray:=by
   apply Array.toList_inj.mp
   rw [Array.toList_map,pairsOf_toList]
   exact List.map_snd_zip (Nat.le_refl _)
  have hz:((pairsOf vs).map (·.2)).size<=sizeLine+1:=by rw [ev,List.size_toArray,sizeLine_eq];omega
  refine wpAny_bind (listUpdate_at ho6 rfl ?_ (Nat.zero_le _) hz)
  simp only [bne_self_eq_false,Bool.false_eq_true,if_false]
  refine wpAny_pure ?_
  have q:=h xs (List.Perm.refl _) (by
   rw [List.size_toArray,vl]at h2
   match xs,h2 with
   | [],_=>exact .nil
   | [x],_=>exact List.pairwise_singleton _ _)
  rw [fin,hvs]at q
  have q':P (.done (.ret .none)) {s with heap:=H.update a (Obj.mapSeq fun _=>(pairsOf vs).map (·.2))}:=by rw [ev];exact q
  exact q'
 ·rw [if_neg h2,if_neg h2]
  rw [List.size_toArray]at h2
  obtain⟨fs,f1,f2,f3⟩:=zZ.kat O T6
  rw [hvs]at f3
  refine wpAny_bind (kat_kind (T:=Value.type "int") f3 (by omega) (fun v hv=>?_) rfl ?_)
  ·obtain⟨i,tk,rfl⟩:=f2 v hv
   exact Looks.of_pure rfl
  ·have keyd:∀i,i<xs.length->xs[i]? =some (xs.getD i (default,0))/\vs.getD i Value.none= .ref (xs.getD i (default,0)).2:=fun i hi=>by
    rw [<-hvs]
    simp [List.getD,hi]
   have S:nA xs.length fun i j=>lt (xs.getD i (default,0)).1 (xs.getD j (default,0)).1:=by
    refine⟨fun i j hi hj ne=>O.tot _ _ fun z=>ne ?_,fun i j=>O.asym _ _,fun i j k=>O.trans _ _ _⟩
    have li:i<(xs.map (·.1)).length:=by rw [List.length_map];exact hi
    have lj:j<(xs.map (·.1)).length:=by rw [List.length_map];exact hj
    refine(List.getElem_inj (h₀:=li) (h₁:=lj) nd).mp ?_
    simpa [List.getD,hi,hj]using z
   have wy:=aMj S (by omega)
   rw [<-vl]at wy
   refine wpAny_bind (wpAny_mono (kat_run (ks:=vs) (vs:=vs) (Q:=fun st' s'=>s'={s with heap:=H}/\∃p:Array Nat,p.size=vs.length/\arrOf st'=p.map (kas_item (vs.toArray.zip vs.toArray))/\failedOf st'=none/\lH vs.length p/\mL (fun i j=>lt (xs.getD i (default,0)).1 (xs.getD j (default,0)).1) p vs.length)
    (G:=fun p s'=>s'={s with heap:=H}/\lH vs.length p/\mL (fun i j=>lt (xs.getD i (default,0)).1 (xs.getD j (default,0)).1) p vs.length) rfl (by omega) (by omega) (fun p st' s' a1 a2 a3 a4=>⟨a4.1,p,a1,a2,a3,a4.2⟩)
    (KasT.way_wp (fun i j C hi hj hC=>?_) (fun p hp=>⟨rfl,hp⟩) _ wy)) ?_ fun _ _ e=>e)
   ·have hi:i<vs.length:=hi
    have hj:j<vs.length:=hj
    rw [vl]at hi hj
    show wpAny _ _ (keyLt' _ (vs.getD i Value.none) (vs.getD j Value.none)) _ _ _
    obtain⟨a1,a2⟩:=keyd i hi
    obtain⟨b1,b2⟩:=keyd j hj
    rw [a2,b2]
    exact O.cmp (by omega) (T6 _ (List.mem_of_getElem? a1)).2 (T6 _ (List.mem_of_getElem? b1)).2 hC
   ·rintro⟨⟨⟩,st'⟩ s' ⟨rfl,p,hp,har,hf,hT,hR⟩
    dsimp only
    have hout:=kat_snds rfl har
    have pm:p.toList.Perm (List.range xs.length):=by rw [<-vl];exact hT
    have ey:(p.toList.map fun i=>vs.getD i Value.none)=(p.toList.filterMap fun i:Nat=>xs[i]?).map fun x=>Value.ref x.2:=by
     rw [List.map_filterMap]
     have:∀l:List Nat,(∀i∈l,i<xs.length)->(l.map fun i=>vs.getD i Value.none)=l.filterMap fun i:Nat=>(xs[i]?).map fun x=>Value.ref x.2:=by
      intro l
      induction l with
      |nil=>intro _;rfl
      |cons i l ih=>
       intro hl
       obtain⟨a1,a2⟩:=keyd i (hl i List.mem_cons_self)
       rw [List.map_cons,List.filterMap_cons,a1,ih fun j hj=>hl j (List.mem_cons_of_mem _ hj),a2]
       rfl
     exact this _ fun i hi=>List.mem_range.mp (pm.mem_iff.mp hi)
    have hsz:(List.toArray (p.toList.map fun i=>vs.getD i Value.none)).size<=sizeLine+1:=by rw [List.size_toArray,List.length_map,Array.length_toList,hp,sizeLine_eq];omega
    refine wpAny_bind (seqEpoch_at ho6 rfl ?_)
    rw [hout]
    refine wpAny_bind (listUpdate_at ho6 rfl ?_ (Nat.zero_le _) hsz)
    rw [hf]
    simp only [bne_self_eq_false,Bool.false_eq_true,if_false]
    refine wpAny_pure ?_
    have q:=h (p.toList.filterMap fun i:Nat=>xs[i]?) (aAs pm) (by
     rw [List.pairwise_iff_getElem]
     intro i j hi hj hij
     have pl:p.toList.length=xs.length:=by rw [pm.length_eq,List.length_range]
     have fl:=(aAs pm).length_eq
     have gt:∀r,(hr:r<(p.toList.filterMap fun i:Nat=>xs[i]?).length)->(p.toList.filterMap fun i:Nat=>xs[i]?)[r]=xs.getD (vAt p r) (default,0):=fun r hr=>by
      have hr':r<p.toList.length:=by omega
      have e1:=filterMap_get (f:=fun i:Nat=>xs[i]?) (l:=p.toList) (fun i hi=>⟨_,List.getElem?_eq_getElem (List.mem_range.mp (pm.mem_iff.mp hi))⟩) r
      rw [List.getElem?_eq_getElem hr,List.getElem?_eq_getElem hr']at e1
      have e2:vAt p r=p.toList[r]:=by rw [iW, <-Array.getElem?_toList,List.getElem?_eq_getElem hr'];rfl
      rw [e2]
      have lt:p.toList[r]<xs.length:=List.mem_range.mp (pm.mem_iff.mp (List.getElem_mem hr'))
      have e3:(some p.toList[r]).bind (fun i:Nat=>xs[i]?)=some (xs.getD p.toList[r] (default,0)):=(keyd _ lt).1
      rw [e3]at e1
      exact Option.some.inj e1
     rw [gt i hi,gt j hj]
     exact hR i j hij (by omega))
    rw [fin, <-ey]at q
    exact q
theorem aF3 (O:aDh knd ok lt) (hu:A.units+30<cLine) {S:Addr} {xs:List (α×Addr)} {Q:Value->Shared->Prop} (hh:A.handled=none) (I:jP knd s S (!w.params.followText "set-order") xs) (ne:∀x∈xs,ok x.1) (h64:xs.length<64)
  (h:∀(h':Heap) (tk:Nat) (l:Addr) (e:Nat) (ys:List (α×Addr)),ys.Perm xs->ys.Pairwise (fun x y=>lt x.1 y.1=true)->s.heap.objs.size<=l->h'.get? l=some (seqObj "list" (ys.map fun x=>Value.ref x.2).toArray e)->
   (∀b o,s.heap.get? b=some o->h'.get? b=some o)->Q (.ref l) {s with heap:=h',toks:=tk}):
  wpAny (model prog w) A (call (.builtin "sorted") [.ref S]) Q E s:=by
 obtain⟨o,es,ep,t,I,sm,pl,ld⟩:=I
 refine Calls.call_function_entry kind_sorted plain_sorted entry_sorted (args_sorted1 _) ?_
 unfold Builtin.«sorted»
 refine wpAny_bind (m:=checkCount "sorted" 1 1 _) (wpAny_pure ?_)
 have esz:es.size<64:=by rw [I.len];exact h64
 refine wpAny_bind (lO (by simpa using hh) I.ho I.hex I.hd I.fits I.good.rise pl ld (by rw [sizeLine_eq];omega) fun h1 tk1 s1 k1=>?_)
 have op:=jH w S es ep
 have eo:es.toList.map (·.2)=xs.map fun x=>Value.ref x.2:=by rw [I.he,List.map_map];rfl
 rw [eo]at op
 obtain⟨zs,pz,ez⟩:∃zs:List (α×Addr),zs.Perm xs/\fY w S es ep=zs.map fun x=>Value.ref x.2:=by
  have:∀{l:List Value} {xs:List (α×Addr)},l.Perm (xs.map fun x=>Value.ref x.2)->∃zs:List (α×Addr),zs.Perm xs/\l=zs.map fun x=>Value.ref x.2:=fun{l xs} hp=>by
   generalize hm:(xs.map fun x=>Value.ref x.2)=m at hp
   induction hp generalizing xs with
   |nil=>exact⟨xs,List.Perm.refl _,hm.symm⟩
   |cons a p ih=>
    match xs,hm with
    |x::xs,hm=>
     obtain⟨e1,e2⟩:=List.cons.inj hm
     obtain⟨zs,z1,z2⟩:=ih e2
     exact⟨x::zs,z1.cons x,by rw [z2, <-e1];rfl⟩
   |swap a b l=>
    match xs,hm with
    |x::y::xs,hm=>
     obtain⟨e1,e2⟩:=List.cons.inj hm
     obtain⟨e2,e3⟩:=List.cons.inj e2
     exact⟨y::x::xs,List.Perm.swap _ _ _,by rw [<-e1, <-e2, <-e3];rfl⟩
   |trans p1 p2 ih1 ih2=>
    obtain⟨zs,z1,z2⟩:=ih2 hm
    obtain⟨us,u1,u2⟩:=ih1 z2.symm
    exact⟨us,u1.trans z1,u2⟩
  exact this op
 rw [ez]
 have zl:zs.length=xs.length:=pz.length_eq
 refine wpAny_bind (wpAny_newList ?_ (by rw [List.length_map,sizeLine_eq];omega))
 have hoL:(h1.push (seqObj "list" (zs.map fun x=>Value.ref x.2).toArray 0)).get? h1.objs.size=some (seqObj "list" (zs.map fun x=>Value.ref x.2).toArray 0):=Heap.get?_push_size _ rfl
 have T1:zZ knd ok (h1.push (seqObj "list" (zs.map fun x=>Value.ref x.2).toArray 0)) zs:=fun x hx=>⟨ne x (pz.mem_iff.mp hx),O.set.mono (I.keys x (pz.mem_iff.mp hx)) fun b o _ e=>Heap.get?_push_of_some _ (k1 b o e)⟩
 refine wpAny_bind (wpAny_holding (wpAny_call_entry slot_list_sort ⟨_,hoL,rfl⟩ entry_list_sort (yN O (by first|omega|(show A.units+1+20<cLine;omega)|(show A.units+2+20<cLine;omega)|(show A.units+3+20<cLine;omega)) hoL T1 (by rw [(pz.map (·.1)).nodup_iff];exact I.nd) (by omega) fun ys py hy=>⟨_,rfl,?_⟩) (args_list_sort _)))
 refine wpAny_pure ⟨_,rfl,?_⟩
 obtain⟨e,he⟩:=sortedHeap_at (out:=(ys.map fun x=>Value.ref x.2).toArray) hoL
 refine h _ tk1 _ e ys (py.trans pz) hy (Nat.le_of_lt s1) he fun b o q=>?_
 have hb:b<h1.objs.size:=Heap.lt_size (k1 b o q)
 rw [sortedHeap_old (Nat.ne_of_lt hb) (by rw [Heap.size_push];exact Nat.lt_succ_of_lt hb)]
 exact Heap.get?_push_of_some _ (k1 b o q)
end
section
variable {prog:Program} {w:World}
def nG (x y:Int×List Int):Bool:=if x.1=y.1 then jK x.2 y.2 else decide (x.1<y.1)
theorem aNx (hv:∀k v,(intKind prog w).is k v=true->∃i tk,v=Value.int i tk):aDh (lG (intKind prog w)) (fun _=>True) nG where
 set:=aMh hv
 tot:=fun x y ne=>by
  unfold nG
  by_cases e:x.1=y.1
  ·rw [if_pos e,if_pos e.symm]
   exact aD3 _ _ fun z=>ne (Prod.ext e z)
  ·rw [if_neg e,if_neg (Ne.symm e),decide_eq_true_iff,decide_eq_true_iff]
   omega
 asym:=fun x y h=>by
  unfold nG at h⊢
  by_cases e:x.1=y.1
  ·rw [if_pos e]at h
   rw [if_pos e.symm]
   exact aA1 _ _ h
  ·rw [if_neg e,decide_eq_true_iff]at h
   rw [if_neg (Ne.symm e),decide_eq_false_iff_not]
   omega
 trans:=fun x y z h1 h2=>by
  unfold nG at h1 h2⊢
  by_cases e1:x.1=y.1
  ·rw [if_pos e1]at h1
   by_cases e2:y.1=z.1
   ·rw [if_pos e2]at h2
    rw [if_pos (e1.trans e2)]
    exact sJ _ _ _ h1 h2
   ·rw [if_neg e2,decide_eq_true_iff]at h2
    rw [if_neg (by omega),decide_eq_true_iff]
    omega
  ·rw [if_neg e1,decide_eq_true_iff]at h1
   by_cases e2:y.1=z.1
   ·rw [if_neg (by omega),decide_eq_true_iff]
    omega
   ·rw [if_neg e2,decide_eq_true_iff]at h2
    rw [if_neg (by omega),decide_eq_true_iff]
    omega
 first:=fun _ hk=>by
  obtain⟨o,v,b,n,ho,hc,hd,h1,_⟩:=hk
  obtain⟨tk,rfl⟩:=Value.isInt_shape h1
  exact⟨o,_,n,_,tk,ho,hc,hd,rfl⟩
 cmp:=fun{A E b s x y p q Q} hu hx hy h=>by
  obtain⟨ox,v,px,nx,h1,h2,h3,h4,h5⟩:=hx
  obtain⟨oy,v',py,ny,g1,g2,g3,g4,g5⟩:=hy
  obtain⟨tu,rfl⟩:=Value.isInt_shape h4
  obtain⟨tv,rfl⟩:=Value.isInt_shape g4
  refine kat_lt h1 h3 g1 g3 ?_
  show KatLex prog w A b _ Q [(_,_),(_,_)] 0 s
  refine kat_cons (wpAny_eqBool_int ?_)
  unfold nG at h
  by_cases e:x.1=y.1
  ·rw [if_pos e]at h
   rw [beq_iff_eq.mpr e]
   refine kat_yes (kat_cons ((tupleKind (intKind prog w)).eqBool (show A.units<cLine by omega) h5 g5 ?_))
   by_cases e2:x.2=y.2
   ·rw [decide_eq_true e2]
    refine kat_yes (kat_nil ?_)
    rw [e2,zG]at h
    exact h
   ·rw [decide_eq_false e2]
    refine kat_no ?_
    rw [show(b && (0+1==0))=false by cases b<;>rfl]
    exact kat_one _ _ (LtN.tups (n:=A.units) h5 g5 (by omega) A (Nat.le_refl _) prog w _ _ h)
  ·rw [if_neg e]at h
   rw [beq_eq_false_iff_ne.mpr e]
   refine kat_no ?_
   rw [show(b && (0==0))=b by cases b<;>rfl]
   cases b with
   |true=>exact oneLt_int h
   |false=>exact kat_one _ _ (PyProof.Rows.lt_int (Q:=PySem.W.BoolBack Q) h)
end
end PySem
namespace PySem
open Sem (wp)
def uL (l:Bool) (zs:List Nat):SetTable:={mask:=7,place:=zs.toArray,dummies:= #[],finger:=0,led:=l,moves:=0,plain:=true}
def fM (zs:List Nat) (tk:Nat->Tok):Array (Int×Value):=(zs.map fun z:Nat=>((z:Int),Value.int (z:Int) (tk z))).toArray
def fC:List (List Nat):=[[],[1],[2],[3],[1,2],[1,3],[2,3],[1,2,3]]
def oO (x:Nat) (zs:List Nat):List Nat:=[1,2,3].filter fun z=>decide (z=x∨z∈zs)
theorem tM (x:Nat) (zs:List Nat):oO x zs∈fC:=by
 unfold oO
 by_cases h1:1=x∨1∈zs<;>by_cases h2:2=x∨2∈zs<;>by_cases h3:3=x∨3∈zs<;>simp [List.filter,h1,h2,h3,fC]
theorem aK1 {x z:Nat} {zs:List Nat} (hz:zs∈fC) (hx:x∈[1,2,3]):z∈oO x zs↔z=x∨z∈zs:=by
 unfold oO
 rw [List.mem_filter,decide_eq_true_iff]
 refine⟨fun h=>h.2,fun h=>⟨?_,h⟩⟩
 rcases h with rfl|h
 ·exact hx
 ·simp only [fC,List.mem_cons,List.not_mem_nil,or_false]at hz
  rcases hz with rfl|rfl|rfl|rfl|rfl|rfl|rfl|rfl<;>simp at h⊢ <;>omega
theorem aUn {l:Bool} {zs:List Nat} {x:Nat} {tk:Nat->Tok} {t:Tok} (hz:zs∈fC) (hx:x∈[1,2,3]) (hn:x∉zs):
  layNew (uL l zs) (fM zs tk) (x:Int) (.int x t)=(fM (oO x zs) (fun z=>if z=x then t else tk z),uL l (oO x zs),false,false):=by
 simp only [fC,List.mem_cons,List.not_mem_nil,or_false]at hz hx
 rcases hz with rfl|rfl|rfl|rfl|rfl|rfl|rfl|rfl<;>rcases hx with rfl|rfl|rfl<;>first|(exact absurd (by decide) hn)|(cases l<;>kernel_rfl)
section
variable {prog:Program} {w:World} {A:Around} {E:Value->Shared->Prop} {s:Shared}
def aF9 (s:Shared) (a:Addr) (l:Bool) (zs:List Nat):Prop:=∃o ep tk,s.heap.get? a=some o/\o.ExactSet/\o.data= .set (fM zs tk) ep (uL l zs)/\zs∈fC
theorem aL1 (zs:List Nat) (tk:Nat->Tok):(fM zs tk).size=zs.length:=by simp [fM]
theorem aQm:∀zs∈fC,zs.length<=3:=by decide
theorem aL5 {l:Bool} {zs:List Nat} {tk:Nat->Tok} (hz:zs∈fC):(uL l zs).fits (fM zs tk).size=true:=by
 simp only [fC,List.mem_cons,List.not_mem_nil,or_false]at hz
 rcases hz with rfl|rfl|rfl|rfl|rfl|rfl|rfl|rfl<;>rfl
theorem aLq {x:Nat} (hx:x∈[1,2,3]):(intKind prog w).hash (x:Int)=(x:Int):=by
 simp only [List.mem_cons,List.not_mem_nil,or_false]at hx
 rcases hx with rfl|rfl|rfl<;>rfl
theorem aQq {zs:List Nat} {tk:Nat->Tok} (hz:zs∈fC):ElemsOf (intKind prog w) (fM zs tk).toList:=by
 intro e he
 obtain⟨z,hm,rfl⟩:=List.mem_map.mp (show e∈zs.map _ from he)
 have:z∈[1,2,3]:=by
  simp only [fC,List.mem_cons,List.not_mem_nil,or_false]at hz
  rcases hz with rfl|rfl|rfl|rfl|rfl|rfl|rfl|rfl<;>simp at hm⊢ <;>omega
 exact⟨⟨(z:Int),intKind_is _ _ _ _,(aLq this).symm⟩,rfl⟩
theorem zQ {a:Addr} {l:Bool} {zs:List Nat} {x:Nat} {t:Tok} {Q:Bool->Shared->Prop} (hx:x∈[1,2,3]) (S:aF9 s a l zs) (h:∀(b:Bool) h',Heap.SameBut a s.heap h'->aF9 {s with heap:=h'} a l (oO x zs)->Q b {s with heap:=h'}):
  wpAny (model prog w) A (setAddHashed a (.int x t) (x:Int)) Q E s:=by
 obtain⟨o,ep,tk,ho,hex,hd,hz⟩:=S
 have hel:=aQq (prog:=prog) (w:=w) (tk:=tk) hz
 have hsz:(fM zs tk).size<=3:=by rw [aL1];exact aQm zs hz
 unfold setAddHashed setAddHashedIn
 refine wpAny_holding (wpAny_bind (wpAny_setState_of ho hd (aL5 hz) ?_))
 dsimp only
 rw [byScan_of (knd:=intKind prog w) rfl (by unfold scanBound;omega) hel]
 simp only [↓reduceIte]
 unfold setAddByScan
 refine wpAny_bind ?_
 refine wpAny_bind (wpAny_rule ?_)
 have hkey:(intKind prog w).is (x:Int) (.int x t)=true:=intKind_is _ _ _ _
 have e1:wpAny (model prog w) A (setScan a (.int x t) (x:Int) true (fM zs tk)) (fun r s'=>s'=s/\r=(match (fM zs tk).toList.findIdx? (fun e=>(intKind prog w).is (x:Int) e.2)with|some j=> .found (0+j)|none=> .absent)) E s:=by
  have:=wpAny_setScan_of (knd:=intKind prog w) (adding:=true) (A:=A) (E:=E) (Q:=fun r s'=>s'=s/\r=(match (fM zs tk).toList.findIdx? (fun e=>(intKind prog w).is (x:Int) e.2)with|some j=> .found (0+j)|none=> .absent)) hkey ho hd (aL5 hz) hel ⟨rfl,rfl⟩
  rw [aLq hx]at this
  exact this
 refine wpAny_bind (wpAny_mono e1 (fun r s' hr=>?_) fun _ _ z=>z)
 obtain⟨rfl,rfl⟩:=hr
 have mem:(∃e∈(fM zs tk).toList,(intKind prog w).is (x:Int) e.2=true)↔x∈zs:=by
  constructor
  ·rintro⟨e,he,hk⟩
   obtain⟨z,hm,rfl⟩:=List.mem_map.mp (show e∈zs.map _ from he)
   have:(x:Int)=(z:Int):=(intKind prog w).inj _ _ _ hk (intKind_is _ _ _ _)
   have:x=z:=by omega
   rw [this];exact hm
  ·intro hm
   exact⟨_,List.mem_map.mpr ⟨x,hm,rfl⟩,intKind_is _ _ _ _⟩
 cases hr:List.findIdx? (fun e=>(intKind prog w).is (x:Int) e.2) (fM zs tk).toList with
 |some j=>
  dsimp only
  obtain⟨hj,hpj,_⟩:=List.findIdx?_eq_some_iff_getElem.mp hr
  have hin:=mem.mp ⟨_,List.getElem_mem hj,hpj⟩
  refine wpAny_pure (wpAny_pure ?_)
  have same:oO x zs=zs:=by
   simp only [fC,List.mem_cons,List.not_mem_nil,or_false]at hz hx
   rcases hz with rfl|rfl|rfl|rfl|rfl|rfl|rfl|rfl<;>rcases hx with rfl|rfl|rfl<;>first|(exact absurd hin (by decide))|rfl
  have:=h false s'.heap (Heap.SameBut.refl a s'.heap) (by rw [same];exact⟨o,ep,tk,ho,hex,hd,hz⟩)
  exact this
 |none=>
  dsimp only
  have hn:x∉zs:=fun hm=>by
   obtain⟨e,he,hp⟩:=mem.mpr hm
   have:=List.findIdx?_eq_none_iff.mp hr e he
   rw [hp]at this
   exact Bool.noConfusion this
  rw [aUn hz hx hn]
  dsimp only
  refine wpAny_bind (wpAny_pure ?_)
  rw [if_pos (show(uL l (oO x zs)).plain=true from rfl)]
  refine wpAny_bind ?_
  rw [hashByValue_scannable 8 (show(Value.int x t).scannable=true from rfl)]
  refine wpAny_pure ?_
  rw [if_pos (show plainKind (Value.int x t)=true from rfl)]
  have hsz2:(fM (oO x zs) (fun z=>if z=x then t else tk z)).size<=3:=by rw [aL1];exact aQm _ (tM x zs)
  refine wpAny_bind (wpAny_storeSet_of ho hd ?_ (by rw [sizeLine_eq];omega))
  have nf:(!false && (uL l (oO x zs)).tooFull)=false:=by
   have:=tM x zs
   generalize oO x zs=ys at this
   simp only [fC,List.mem_cons,List.not_mem_nil,or_false]at this
   rcases this with rfl|rfl|rfl|rfl|rfl|rfl|rfl|rfl<;>rfl
  rw [nf]
  simp only [Bool.false_eq_true,if_false]
  refine wpAny_pure (wpAny_pure ?_)
  have hg:(s'.heap.update a (Obj.putSet (fM (oO x zs) (fun z=>if z=x then t else tk z)) (uL l (oO x zs)))).get? a=some {o with data:= .set (fM (oO x zs) (fun z=>if z=x then t else tk z)) (ep+1) (uL l (oO x zs))}:=by
   have:=Heap.get?_update_self (Obj.putSet (fM (oO x zs) (fun z=>if z=x then t else tk z)) (uL l (oO x zs))) ho (by rw [putSet_of _ _ hd];rfl)
   rw [putSet_of _ _ hd]at this
   exact this
  exact h true _ (Heap.SameBut.update s'.heap a (Obj.putSet _ _)) ⟨_,_,_,hg,hex,rfl,tM x zs⟩
def uV (val:Nat->Nat):Nat->List Nat
 |0=>[]
 |i+1=>oO (val i) (uV val i)
theorem aD0 (val:Nat->Nat):∀i,uV val i∈fC
 |0=>by simp [uV,fC]
 |i+1=>tM _ _
theorem aC9 {val:Nat->Nat} {n:Nat} (hv:∀i,i<n->val i∈[1,2,3]):∀i,i<=n->∀z,z∈uV val i↔ ∃j,j<i/\val j=z
 |0,_,z=>by simp [uV]
 |i+1,h,z=>by
  rw [uV,aK1 (aD0 val i) (hv i (by omega)),aC9 hv i (by omega) z]
  constructor
  ·rintro(rfl|⟨j,h1,h2⟩)
   ·exact⟨i,by omega,rfl⟩
   ·exact⟨j,by omega,h2⟩
  ·rintro⟨j,h1,h2⟩
   by_cases e:j=i
   ·subst e;exact .inl h2.symm
   ·exact .inr ⟨j,by omega,h2⟩
theorem mG {R:Result->Shared->Prop} {I:Addr} {fp wr:List Addr} {G:Array GenState->Array GenState->Prop} {n:Nat} {P:Nat->Value->Prop} {St:Nat->Shared->Prop}
  (W:WalksS prog w A.in1 I fp wr G n P St) (S:Addr) (hSf:S∉fp) (l:Bool)
  (val:Nat->Nat) (hval:∀i v,P i v->∃t,v= .int (val i) t) (h3:∀i,i<n->val i∈[1,2,3]):
  ∀(k i:Nat) (s:Shared),n-i=k->i<=n->St i s->aF9 s S l (uV val i)->
   (∀s',Moved (S::wr) G s s'->aF9 s' S l (uV val n)->R (.ok (.ret .none)) s')->
   codeAny (model prog w) A (.builtin "set.update.loop" ⟨[.ref S,.ref I],[]⟩) R s:=by
 have hSw:S∉wr:=fun h=>hSf (W.sub _ h)
 have hsub:∀b∈wr,b∈S::wr:=fun b hb=>List.mem_cons_of_mem _ hb
 intro k
 induction k with
 |zero=>
  intro i s hk hi hst hS hR
  have hin:i=n:=by omega
  subst hin
  refine codeAny_builtin PyProof.Rows.F.entry_set_update_loop ?_
  rw [Around.under_plainId PyProof.Rows.F.plain_set_update_loop _]
  show wpAny _ A.in1 (pyNext (.ref I)>>=_) _ _ s
  refine wpAny_bind (W.done s _ _ hst fun s' hm=>?_)
  show wpAny _ A.in1 (ret Value.none) _ _ s'
  exact wpAny_pure (hR s' (hm.mono hsub) (by
   obtain⟨o,ep,tk,ho,rest⟩:=hS
   exact⟨o,ep,tk,hm.heap S _ hSw ho,rest⟩))
 |succ k ih=>
  intro i s hk hi hst hS hR
  have hlt:i<n:=by omega
  refine codeAny_builtin PyProof.Rows.F.entry_set_update_loop ?_
  rw [Around.under_plainId PyProof.Rows.F.plain_set_update_loop _]
  show wpAny _ A.in1 (pyNext (.ref I)>>=_) _ _ s
  refine wpAny_bind (W.item i s _ _ hlt hst fun v s' hP hst' hm=>?_)
  obtain⟨t,rfl⟩:=hval i v hP
  have hS':aF9 {s' with toks:=s'.toks+1} S l (uV val i):=by
   obtain⟨o,ep,tk,ho,rest⟩:=hS
   exact⟨o,ep,tk,hm.heap S _ hSw ho,rest⟩
  show wpAny _ A.in1 (holding [Value.int (val i) t] (setAdd S (.int (val i) t))>>=_) _ _ s'
  refine wpAny_bind (wpAny_holding ?_)
  unfold setAdd
  refine wpAny_holding ?_
  refine wpAny_bind ((intKind prog w).pyHash (k:=(val i:Int)) (intKind_is _ _ _ _) ?_)
  rw [aLq (h3 i hlt)]
  refine zQ (s:={s' with toks:=s'.toks+1}) (h3 i hlt) hS' fun b h' hsb hS2=>?_
  refine wpAny_pure ⟨plainId_quiet PyProof.Rows.F.plain_set_update_loop _,ih (i+1) _ (by omega) hlt (W.frame _ s' _ _ hst' (Nat.le_succ _) fun b hb o e=>?_) hS2 fun s'' hm'' hS''=>?_⟩
  ·rw [hsb.2 b (fun h:b=S=>hSf (by rw [<-h];exact hb))];exact e
  ·refine hR s'' (Moved.trans W.gtrans ((hm.mono hsub).then_heap (Nat.le_succ _) fun b o hb e=>?_) hm'') hS''
   rw [hsb.2 b (fun h:b=S=>hb (by rw [h];exact List.mem_cons_self))];exact e
theorem yL {l:Addr} {items:Array Value} {val:Nat->Nat} {Q:Value->Shared->Prop} (hh:A.handled=none) (hl:s.heap.IsList l items) (hi:∀(i:Nat) (v:Value),items[i]? =some v->∃t,v= .int (val i) t) (h3:∀j,j<items.size->val j∈[1,2,3])
  (h:∀(h':Heap) (tk:Nat),aF9 {s with heap:=h',toks:=tk} s.heap.objs.size (!w.params.followText "set-order") (uV val items.size)->(∀b o,b<s.heap.objs.size->s.heap.get? b=some o->h'.get? b=some o)->Q (.ref s.heap.objs.size) {s with heap:=h',toks:=tk}):
  wpAny (model prog w) A (call (.type "set") [.ref l]) Q E s:=
 uF (fun s'=>aF9 s' s.heap.objs.size (!w.params.followText "set-order") (uV val items.size)) hh hl
  (fun s1 W hSf hA hnt st kp hS hR=>mG W s.heap.objs.size hSf _ val hi h3 (items.size-0) 0 s1 (by omega) (Nat.zero_le _) st ⟨_,0,fun _=>0,hS,⟨rfl,rfl,rfl⟩,rfl,by simp [uV,fC]⟩ fun s' hm S=>hR s' hm S)
  fun h' tk S kp=>h h' tk S kp
end
end PySem
namespace L2
open PySem PySem.Spec PyProof.Rows
section
variable {prog:Program} {w:World} {A:Around} {R:Result->Shared->Prop} {s:Shared}
theorem aCa {elt target iter:Expr} {scope:Scope} {pos:Pos} {it acc:Value} {env:Env} (I:Nat->Shared->Prop)
  (turn:∀n s,I n s->wpAny (model prog w) A (pyNext it) (fun r s₁=>match r with
   |none=>R (.ok .next) s₁
   |some v=>wpAny (model prog w) A (letOwnedTupleGo target it v) (fun _ s₁'=>wpAny (model prog w) A (assign target env v) (fun _ s₂=>wpAny (model prog w) A (eval elt env) (fun x s₃=>
     wpAny (model prog w) A (call (.builtin "list.append") [acc,x]) (fun _ s₄=>∃m,m<n/\I m s₄) (fun _ _=>False) s₃) (fun _ _=>False) s₂) (fun _ _=>False) s₁') (fun _ _=>False) s₁) (fun _ _=>False) s)
  (n:Nat) (h:I n s):
  codeAny (model prog w) A (.compLoop (.ListComp elt [⟨target,iter,[],0⟩] scope pos) 0 it acc env) R s:=by
 refine codeAny_loop rfl I (fun n s hI=>?_) n h
 show wpAny _ _ ((compTurn (.ListComp elt [⟨target,iter,[],0⟩] scope pos) 0 it acc env).onRaise (fun x=>do noteFrame x env;theTreesLotGoes x)) _ _ s
 refine wpAny_noted ?_
 rw [compTurn_list1]
 refine wpAny_bind (wpAny_standAt (wpAny_bind (wpAny_mono (turn n s hI) (fun r s₁ h₁=>?_) fun _ _ h'=>h'.elim)))
 cases r with
 |none=>exact wpAny_pure h₁
 |some v=>
  refine wpAny_bind (wpAny_mono h₁ (fun _ s₁' h₁'=>?_) fun _ _ h'=>h'.elim)
  exact wpAny_bind (wpAny_mono h₁' (fun _ s₂ h₂=>wpAny_bind (wpAny_bind (wpAny_mono h₂ (fun x s₃ h₃=>wpAny_bind (wpAny_mono h₃
   (fun _ s₄ h₄=>wpAny_pure (wpAny_pure ⟨rfl,h₄⟩)) fun _ _ h'=>h'.elim)) fun _ _ h'=>h'.elim))) fun _ _ h'=>h'.elim)
end
theorem fZ {env:Env} (hk:env.scope.kind= .function):∀{names:List (Str×NameKind)} {x:Str},names.lookup x=some .free->env.kindOf x=some .cell->
  (names.map fun(n,k)=>if(k==NameKind.free && env.scope.kind== .function && env.kindOf n==some .cell)then(n,NameKind.cell)else(n,k)).lookup x=some .cell
 | [],_,h,_=>by simp at h
 |(n,k)::r,x,h,hc=>by
  have ih:=@fZ env hk r x
  show List.lookup x ((if(k==NameKind.free && env.scope.kind== .function && env.kindOf n==some .cell)=true then(n,NameKind.cell)else(n,k))::_)=_
  cases hx:x==n with
  |true=>
   have e:x=n:=eq_of_beq hx
   subst e
   simp only [List.lookup_cons,hx]at h
   cases h
   rw [if_pos (by rw [hk,hc];rfl)]
   simp [List.lookup_cons]
  |false=>
   simp only [List.lookup_cons,hx]at h
   by_cases hcc:(k==NameKind.free && env.scope.kind== .function && env.kindOf n==some .cell)=true
   ·rw [if_pos hcc];simp only [List.lookup_cons,hx];exact ih h hc
   ·rw [if_neg hcc];simp only [List.lookup_cons,hx];exact ih h hc
theorem gM {env:Env}:∀{names:List (Str×NameKind)} {x:Str},((names.map fun(n,k)=>if(k==NameKind.free && env.scope.kind== .function && env.kindOf n==some .cell)then(n,NameKind.cell)else(n,k)).lookup x=some .cell∨
  (names.map fun(n,k)=>if(k==NameKind.free && env.scope.kind== .function && env.kindOf n==some .cell)then(n,NameKind.cell)else(n,k)).lookup x=some .free)->names.lookup x=some .free∨names.lookup x=some .cell
 | [],_,h=>by simp at h
 |(n,k)::r,x,h=>by
  have ih:=@gM env r x
  replace h:List.lookup x ((if(k==NameKind.free && env.scope.kind== .function && env.kindOf n==some .cell)=true then(n,NameKind.cell)else(n,k))::_)=_∨List.lookup x ((if(k==NameKind.free && env.scope.kind== .function && env.kindOf n==some .cell)=true then(n,NameKind.cell)else(n,k))::_)=_:=h
  cases hx:x==n with
  |true=>
   simp only [List.lookup_cons,hx]
   by_cases hcc:(k==NameKind.free && env.scope.kind== .function && env.kindOf n==some .cell)=true
   ·have:k= .free:=by
     have:=(Bool.and_eq_true _ _▸(Bool.and_eq_true _ _▸hcc).1).1
     exact eq_of_beq this
    exact .inl (by rw [this])
   ·rw [if_neg hcc]at h
    simp only [List.lookup_cons,hx]at h
    rcases h with h|h
    ·exact .inr h
    ·exact .inl h
  |false=>
   simp only [List.lookup_cons,hx]
   by_cases hcc:(k==NameKind.free && env.scope.kind== .function && env.kindOf n==some .cell)=true
   ·rw [if_pos hcc]at h;simp only [List.lookup_cons,hx]at h;exact ih h
   ·rw [if_neg hcc]at h;simp only [List.lookup_cons,hx]at h;exact ih h
theorem gF {a b c:Nat} (h1:a<b) (h2:b<=c):a≠c:=Nat.ne_of_lt (Nat.lt_of_lt_of_le h1 h2)
abbrev bI (X:Cx) (Nc:List Str) (scope:Scope) (cl:List (Str×Addr)) (C:Addr) (s2:Shared) (H2:Hp) (fp:List Addr):Cx:=
 {prog:=X.prog,w:=X.w,K:=X.K,mg:=X.mg,base:=X.base,A:=X.A,N:=Nc,s₀:=s2,H₀:=H2,env:=compEnvC scope cl C X.env,outer:=X.stack,stack:=X.stack,ex:=fp,fn:=fun _=>false,calm:=X.calm,pn:=[],xe:=fun _ _=>False}
abbrev cT (own:List Str) (cap:List (Str×Nat)):List Str:=own++cap.map (·.1)
def jF (no:Nat) (cap:List (Str×Nat)) (σ:St):St:=List.replicate no none++cap.map fun p=>(σ[p.2]?).join
structure fJ (X:Cx) (scope:Scope) (cap:List (Str×Nat)) (cl:List (Str×Addr)):Prop where
 clos:closureFor scope X.env=pure cl
 kind:scope.kind= .function
 nocell:∀y∈scope.names,y.2≠ .cell
 names:∀y∈scope.names,y.2= .local->scope.names.lookup y.1=some .local
 sub:∀x c,cl.lookup x=some c->X.env.cells.lookup x=some c
 has:∀x,scope.names.lookup x=some .free->∃c,cl.lookup x=some c
 cap:∀p∈cap,X.N[p.2]? =some p.1/\scope.names.lookup p.1=some .free/\X.env.scope.names.lookup p.1=some .cell
def aOi (J:It) (D:Addr) (g:TG) (te:TE) (Q:VK) (σ:St) (H:Hp):Prop:=∃W:Nat->Nat->St->Hp->Prop,
 (∃m,W 0 m σ H)/\∀i m σc H2,W i m σc H2->
  (J.stop i H2/\Q (.ref D) H2)∨(J.go i H2/\∀x H3,J.yld i H2 x H3->g x σc H3 fun σ4 H4=>te σ4 H4 fun y H5=>∃ys,H5 D=some (.lst ys)/\ys.length<sizeLine/\∃m',m'<m/\W (i+1) m' σ4 (upd H5 D (.lst (ys++[y]))))
def aA5 (no:Nat) (cap:List (Str×Nat)) (wi:TI) (g:TG) (te:TE):TE:=fun σ H Q=>wi σ H fun J H1=>∀D,H1 D=none->aOi J D g te Q (jF no cap σ) (upd H1 D (.lst []))
section
variable {X:Cx} {pins:List (Addr×Obj)} {σ:St} {s2:Shared} {H2:Hp}
theorem aA9 {no:Nat} {cap:List (Str×Nat)} {own:List Str} (hno:own.length=no) {i:Nat} {x:Str} {v:V} (h1:(cT own cap)[i]? =some x) (h2:(jF no cap σ)[i]? =some (some v)):
  ∃p∈cap,p.1=x/\σ[p.2]? =some (some v):=by
 subst hno
 unfold jF at h2
 by_cases hi:i<own.length
 ·rw [List.getElem?_append_left (by simpa using hi),List.getElem?_replicate]at h2
  rw [if_pos hi]at h2
  cases h2
 ·rw [List.getElem?_append_right (by simpa using hi)]at h2
  unfold cT at h1
  rw [List.getElem?_append_right (by simpa using hi)]at h1
  rw [List.length_replicate,List.getElem?_map]at h2
  rw [List.getElem?_map]at h1
  cases e:cap[i-own.length]? with
  |none=>rw [e]at h1;cases h1
  |some p=>
   rw [e]at h1 h2
   refine⟨p,List.mem_of_getElem? e,Option.some.inj h1,?_⟩
   have q:(σ[p.2]?).join=some v:=Option.some.inj h2
   cases e2:σ[p.2]? with
   |none=>rw [e2]at q;cases q
   |some o=>rw [e2]at q;exact congrArg some q
theorem yD {elt iter tg:Expr} {scope:Scope} {own:List Str} {cap:List (Str×Nat)} {cl:List (Str×Addr)} {pos:Pos} {J:It} {fp:List Addr} {it:Addr} {tn:Nat->Heap->Prop} {g:TG} {te:TE} {Q:VK}
  (S:fJ X scope cap cl) (hc:X.calm=true) (I:Inv X pins σ H2 s2) (T:Turn X.prog X.w X.K tg J fp it tn) (st:tn 0 s2.heap) (hf:∀b∈fp,aAa X pins H2 b)
  (hg:∀C s2 H2 fp,PG (bI X (cT own cap) scope cl C s2 H2 fp) tg g) (he:∀C s2 H2 fp,PE (bI X (cT own cap) scope cl C s2 H2 fp) elt te)
  (W:Nat->Nat->St->Hp->Prop) (w0:∃m,W 0 m (jF own.length cap σ) (upd H2 s2.heap.objs.size (.lst [])))
  (turn:∀i m σc H3,W i m σc H3->(J.stop i H3/\Q (.ref s2.heap.objs.size) H3)∨(J.go i H3/\∀x H4,J.yld i H3 x H4->g x σc H4 fun σ5 H5=>te σ5 H5 fun y H6=>∃ys,H6 s2.heap.objs.size=some (.lst ys)/\ys.length<sizeLine/\∃m',m'<m/\W (i+1) m' σ5 (upd H6 s2.heap.objs.size (.lst (ys++[y])))))
  {RR:Value->Addr->Result->Shared->Prop}
  (hRR:∀C H' s' m,s2.heap.objs.size<=C->s'.heap.Ns C m->H' C=none->Inv X pins σ H' s'->(∀h',Heap.SameBut C s'.heap h'->Inv X pins σ H' {s' with heap:=h'})->Q (.ref s2.heap.objs.size) H'->RR (.ref s2.heap.objs.size) C (.ok .next) s')
  {E:Value->Shared->Prop}:
  wpAny (model X.prog X.w) X.A (newList []) (fun acc s₃=>wpAny (model X.prog X.w) X.A (newFunctionEnv scope X.env.globals cl [] X.env.qual none .none (some X.env)) (fun cenv s₄=>
   codeAny (model X.prog X.w) X.A (.compStart (.ListComp elt [⟨tg,iter,[],0⟩] scope pos) 0 (.ref it) acc {cenv with scope:=relabel scope X.env}) (RR acc cenv.locals) s₄) E s₃) E s2:=by
 refine wpAny_newObj_type (wpAny_newFunctionEnv S.nocell (by intro y hy;simp at hy) (fun h₁ hns₁ hsb₁=>?_) S.kind)
 dsimp only at hns₁ hsb₁⊢
 generalize hH2:s2.heap.push {cls:= .type "list",dict:=none,data:= .seq ([]:List Value).toArray}=G2 at hns₁ hsb₁⊢
 have hC:G2.objs.size=s2.heap.objs.size+1:=by rw [<-hH2,Heap.size_push]
 have hDC:s2.heap.objs.size≠G2.objs.size:=by rw [hC];exact Nat.ne_of_lt (Nat.lt_succ_self _)
 have hCle:s2.heap.objs.size<=G2.objs.size:=by rw [hC];exact Nat.le_succ _
 have below:∀b,b<s2.heap.objs.size->b≠G2.objs.size/\b≠s2.heap.objs.size:=fun b hb=>⟨by rw [hC];exact Nat.ne_of_lt (Nat.lt_succ_of_lt hb),Nat.ne_of_lt hb⟩
 have old:∀b o,s2.heap.get? b=some o->h₁.get? b=some o:=fun b o e=>hsb₁.extBut b o (below b (Heap.lt_size e)).1 (Heap.get?_push_of_some _ (hH2▸Heap.get?_push_of_some _ e))
 have hacc:h₁.get? s2.heap.objs.size=some {cls:= .type "list",dict:=none,data:= .seq ([]:List Value).toArray}:=hsb₁.extBut _ _ hDC (Heap.get?_push_of_some _ (hH2▸Heap.get?_push_size _ rfl))
 have hfps:∀b∈fp,b<s2.heap.objs.size:=fun b hb=>by
  obtain⟨o,e,_⟩:=T.obj _ _ st b hb
  exact Heap.lt_size e
 have hfree:∀b,s2.heap.objs.size<=b->H2 b=none:=fun b hb=>I.hok.fresh hb
 generalize hX:bI X (cT own cap) scope cl G2.objs.size s2 H2 fp=X'
 have hOk:X'.Ok:=by
  subst hX
  refine⟨I.ok.mod,S.kind,I.ok.glob,I.ok.blt,hCle,fun x y c e1 e2=>I.ok.inj x y c (S.sub x c e1) (S.sub y c e2),fun x hx=>?_,fun x c z=>absurd (show false=true from z) Bool.false_ne_true,I.ok.hd,I.ok.frames,.inl rfl,
   fun b hb=>⟨(below b (hfps b hb)).1,fun x c e=>(hf b hb).2.2.2.2.1 x c (S.sub x c e)⟩,I.bs,Nat.le_trans I.ok.bsz I.sz,fun b o e hb=>?_,fun b hb z=>?_,I.stack,I.stkFree⟩
  ·rcases gM (env:=X.env) (names:=scope.names) (x:=x) hx with h|h
   ·exact S.has x h
   ·exact absurd rfl (S.nocell _ (PySem.mem_of_lookup h))
  ·rcases (hf b hb).2.2.2.1 with z|z
   ·exact I.ok.noex b o e z
   ·exact absurd (Nat.lt_of_lt_of_le (Heap.lt_size e) (Nat.le_trans I.ok.bsz z)) (Nat.lt_irrefl _)
  ·rcases List.mem_cons.mp (I.stkSub b z)with z|z
   ·exact(hf b hb).2.1 z
   ·exact(hf b hb).2.2.1 z
 have hI0:Inv X' [] (jF own.length cap σ) (upd H2 s2.heap.objs.size (.lst [])) {s2 with heap:=h₁,toks:=s2.toks+([]:List (Str×Value)).length}:=by
  subst hX
  refine⟨hOk,rfl,I.bare,Un.laid old (Nat.le_refl _) (hfree _ (Nat.le_refl _)),⟨_,hns₁,fun i x v e1 e2 e3=>?_⟩,fun x c e=>?_,?_,fun x c e=>?_,fun p hp=>absurd (show p∈([]:List (Addr×Obj))from hp) (by simp),?_,?_⟩
  ·obtain⟨p,hp,rfl,hσ⟩:=aA9 rfl e1 e2
   obtain⟨c1,c2,c3⟩:=S.cap p hp
   obtain⟨m,hn,hl⟩:=I.loc
   obtain⟨u,r,l⟩:=hl p.2 p.1 v c1 hσ (.inr (.inl c3))
   refine⟨u,r,.inr ⟨.inl (fZ I.ok.kind c2 c3),?_⟩⟩
   obtain⟨c,hcl⟩:=S.has _ c2
   refine⟨c,hcl,?_⟩
   rcases l with ⟨k,_⟩|⟨_,c',e,z⟩
   ·have k':X.env.scope.names.lookup p.1=some .local:=k
    rw [c3]at k';cases k'
   ·have:=S.sub _ _ hcl
    rw [e]at this;cases this
    obtain⟨o,ho,hd⟩:=z
    exact⟨o,old _ _ ho,hd⟩
  ·obtain⟨v,o,ho,hd⟩:=I.cell x c (S.sub x c e)
   exact⟨v,o,old _ _ ho,hd⟩
  ·show upd H2 s2.heap.objs.size (.lst []) G2.objs.size=none
   rw [aQ (Ne.symm hDC)]
   exact hfree _ hCle
  ·have e':=S.sub x c e
   obtain⟨v,o,ho,hd⟩:=I.cell x c e'
   rw [aQ (below c (Heap.lt_size ho)).2]
   exact I.freeC x c e'
  ·exact I.hok.laid old (Nat.le_refl _) ⟨Nat.zero_le _,[],_,.nil,hacc⟩
  ·show(jF own.length cap σ).length=(cT own cap).length
   unfold jF cT
   simp
 have hP:X'.prog=X.prog:=by subst hX;rfl
 have hw:X'.w=X.w:=by subst hX;rfl
 have hK:X'.K=X.K:=by subst hX;rfl
 have hA:X'.A=X.A:=by subst hX;rfl
 have hcalm:X'.calm=true:=by subst hX;exact hc
 have hxe:X'.xe=fun _ _=>False:=by subst hX;rfl
 have henv:X'.env=compEnvC scope cl G2.objs.size X.env:=by subst hX;rfl
 have hbase:∀{σ' H' s'},Inv X' [] σ' H' s'->Un (frs X.stack) fp H2 H' s2.heap s'.heap/\s'.os=s2.os:=fun{σ' H' s'} J=>by subst hX;exact⟨J.base,J.os⟩
 have hg':PG X' tg g:=by subst hX;exact hg _ _ _ _
 have he':PE X' elt te:=by subst hX;exact he _ _ _ _
 have stat:∀{H':Hp},(∀b∈fp,H' b=none)->∀b∈fp,aAa X' [] H' b:=fun{H'} hn b hb=>by
  subst hX
  refine⟨hn b hb,(below b (hfps b hb)).1,fun z=>?_,.inl hb,fun x c e=>(hf b hb).2.2.2.2.1 x c (S.sub x c e),fun p hp=>absurd (show p∈([]:List (Addr×Obj))from hp) (by simp)⟩
  rcases List.mem_cons.mp (I.stkSub b z)with z|z
  ·exact(hf b hb).2.1 z
  ·exact(hf b hb).2.2.1 z
 have back:∀{σ' H' s'},Inv X' [] σ' H' s'->Q (.ref s2.heap.objs.size) H'->RR (.ref s2.heap.objs.size) G2.objs.size (.ok .next) s':=fun{σ' H' s'} J q=>by
  obtain⟨u,ho⟩:=hbase J
  have hcf:∀b∈fp,(b∈X.ex∨X.s₀.heap.objs.size<=b)/\b≠X.env.locals/\(∀x c,X.env.cells.lookup x=some c->c≠b)/\∀p∈X.pn++pins,p.1≠b:=fun b hb=>by
   obtain⟨f0,f1,f2,f3,f4,f5⟩:=hf b hb
   exact⟨f3,f1,f4,f5⟩
  have hCn:H' G2.objs.size=none:=by have:=J.free;rw [henv]at this;exact this
  have hok':HOk X.prog X.w H' s'.heap:=by have:=J.hok;rw [hP,hw]at this;exact this
  obtain⟨m,hm,_⟩:=J.loc
  rw [henv]at hm
  refine hRR _ H' s' m hCle hm hCn (I.call' ho u hok' J.bare hcf) (fun h' hs=>?_) q
  have kn:∀b o,s2.heap.get? b=some o->h'.get? b=s'.heap.get? b:=fun b o e=>hs.2 b (below b (Heap.lt_size e)).1
  refine I.call' (s':={s' with heap:=h'}) ho ⟨fun b o e n hb hx=>(kn b o e).trans (u.keep b o e n hb hx),fun b o e n hb hx=>?_,u.free,fun b o e hx=>?_,u.tups,u.frzs,u.tbls⟩ (fun b ob e=>?_) J.bare hcf
  ·obtain⟨sl,e1⟩:=u.slot b o e n hb hx
   exact⟨sl,(kn b o e).trans e1⟩
  ·obtain⟨o',e1⟩:=u.there b o e hx
   exact⟨o',(kn b o e).trans e1⟩
  ·refine(hok' b ob e).stay (fun c w' hc q=>(hs.2 c ?_).trans q) (fun _ q=>q) fun _ _ q=>q
   rintro rfl
   rcases hc with rfl|hc
   ·rw [hCn]at e;cases e
   ·rw [hCn]at hc;cases hc
 have loop:∀s₃:Shared,s₃={s2 with heap:=h₁,toks:=s2.toks+([]:List (Str×Value)).length}->
   codeAny (model X.prog X.w) X.A (.compLoop (.ListComp elt [⟨tg,iter,[],0⟩] scope pos) 0 (.ref it) (.ref s2.heap.objs.size) (compEnvC scope cl G2.objs.size X.env))
    (RR (.ref s2.heap.objs.size) G2.objs.size) s₃:=by
  rintro s₃ rfl
  obtain⟨m0,w0⟩:=w0
  refine aCa (fun n s'=>∃i σ' H',Inv X' [] σ' H' s'/\tn i s'.heap/\(∀b∈fp,H' b=none)/\W i n σ' H') ?_ m0
   ⟨0,_,_,hI0,T.keep _ _ _ st fun b hb o e=>old b o e,fun b hb=>?_,w0⟩
  ·rintro n s3 ⟨i,σ3,H3,I3,st3,fr3,w3⟩
   rcases turn i n σ3 H3 w3 with ⟨stop,qn⟩|⟨go,step⟩
   ·have d:=T.done X' hP hw hK hcalm i [] s3 σ3 H3 (fun _ _=>False) I3 (stat fr3) st3 stop
    rw [hA]at d
    refine thn d fun r s4 ⟨hr,I4⟩=>?_
    subst hr
    exact back I4 qn
   ·have d:=T.item X' hP hw hK hcalm i [] s3 σ3 H3 (fun _ _=>False) I3 (stat fr3) st3 go
    rw [hA]at d
    refine thn d fun r s4 ⟨u,hr,h4⟩=>?_
    subst hr
    refine thn h4 fun _ s5 ⟨x,H5,I5,r5,y5,st5,fr5⟩=>?_
    have I5':=I5.pinned (stat fr5) (T.obj _ _ st5)
    have d2:=hg' _ s5 σ3 H5 x u _ I5' r5 (step x H5 y5)
    rw [hP,hw,hA,hxe,henv]at d2
    refine thn d2 fun _ s6 ⟨σ6,H6,I6,q6⟩=>?_
    have d3:=he' _ s6 σ6 H6 _ I6 q6
    rw [hP,hw,hA,hxe,henv]at d3
    refine thn d3 fun y7 s7 ⟨v7,H7,I7,r7,ys,e7,l7,m',hm,w7⟩=>?_
    have d4:=mU (X:=X') _ s7 σ6 H7 (.ref s2.heap.objs.size) [v7] (.ref s2.heap.objs.size) [y7] (fun _ H8=>W (i+1) m' σ6 H8) I7 rfl (.cons r7 .nil) ⟨_,ys,v7,rfl,rfl,e7,l7,w7⟩
    rw [hP,hw,hA,hxe]at d4
    refine thn d4 fun _ s8 ⟨v8,H8,I8,_,w8⟩=>?_
    refine⟨m',hm,i+1,σ6,H8,I8.unpinned,T.keep _ _ _ st5 fun b hb o e=>(I8.pin (b,o) (List.mem_append_right _ (List.mem_append_right _ (eG hb e)))).1,fun b hb=>?_,w8⟩
    obtain⟨o,e,d⟩:=T.obj _ _ st5 b hb
    exact(I8.pin (b,o) (List.mem_append_right _ (List.mem_append_right _ (eG hb e)))).2.1
  ·rw [aQ (below b (hfps b hb)).2]
   exact(hf b hb).1
 exact codeAny_compStart_list (loop _ rfl) (T.self _ 0 _ _ _ (T.keep _ _ _ st fun b hb o e=>old b o e) (loop _ rfl))
theorem aHa {elt iter tg:Expr} {scope:Scope} {own:List Str} {cap:List (Str×Nat)} {cl:List (Str×Addr)} {pos:Pos} {wi:TI} {g:TG} {te:TE}
  (S:fJ X scope cap cl) (hc:X.calm=true) (hi:PI X tg iter wi)
  (hg:∀C s2 H2 fp,PG (bI X (cT own cap) scope cl C s2 H2 fp) tg g) (he:∀C s2 H2 fp,PE (bI X (cT own cap) scope cl C s2 H2 fp) elt te)
  (hs:∀x,foldedSetIterable iter X.env x=pure x:=by intro _;rfl):PE X (.ListComp elt [⟨tg,iter,[],0⟩] scope pos) (aA5 own.length cap wi g te):=by
 intro pins s σ H Q I h
 rw [eval_ListComp]
 refine wpAny_comprehension_free (use:=none) rfl hs S.clos S.kind S.names (thn (hi pins s σ H _ I h) fun v s1 h1=>thn h1 fun itv s2 h2=>?_)
 obtain⟨it,fp,tn,J,H2,e,I2,T,st2,f2,rd⟩:=h2
 subst e
 obtain⟨W,w0,turn⟩:=rd _ (I2.hok.fresh (Nat.le_refl _))
 exact yD (RR:=fun acc C=>compPost (model X.prog X.w) X.A X.xe none (EP X pins σ Q) acc C) S hc I2 T st2 f2 hg he W w0 turn
  fun C H' s' m _ hm _ _ hback q=>⟨m,hm,fun h' hs'=>⟨.ref s2.heap.objs.size,H',hback h' hs',rfl,q⟩⟩
theorem aF0 {i:Nat} {x:Str} {elt iter tg:Expr} {scope:Scope} {own:List Str} {cap:List (Str×Nat)} {cl:List (Str×Addr)} {pos spos py:Pos} {wi:TI} {g:TG} {te:TE}
  (hN:X.N.Nodup) (hi':X.N[i]? =some x) (hx:Loc X.env.scope x) (S:fJ X scope cap cl) (hc:X.calm=true) (hi:PI X tg iter wi)
  (hg:∀C s2 H2 fp,PG (bI X (cT own cap) scope cl C s2 H2 fp) tg g) (he:∀C s2 H2 fp,PE (bI X (cT own cap) scope cl C s2 H2 fp) elt te)
  (hsw:swapsWith (.ListComp elt [⟨tg,iter,[],0⟩] scope pos) (some (.Name x py)) spos.line X.env=pure true:=by rfl)
  (hs:∀x,foldedSetIterable iter X.env x=pure x:=by intro _;rfl) (hf:X.fn x=true∨X.env.scope.names.lookup x=some .local:=by first|exact .inl rfl|exact .inr rfl|assumption):
  PS X (.Assign [.Name x py] (.ListComp elt [⟨tg,iter,[],0⟩] scope pos) spos) (aH6 (aA5 own.length cap wi g te) (oX i)):=by
 intro pins s σ H D I h
 rw [exec_Assign_Name_used _ _ _ _ hsw]
 refine wpAny_bind (wpAny_standAt (wpAny_bind ?_))
 show wpAny _ X.A (do let _<-comprehension (.ListComp elt [⟨tg,iter,[],0⟩] scope pos) scope X.env _ (newList []) false (eval iter X.env) (some (assign (.Name x py) X.env))) _ _ s
 refine wpAny_bind (wpAny_mono (wpAny_comprehension_free (use:=some (assign (.Name x py) X.env)) (Q:=fun _ s'=>SP X pins D .next s') rfl hs S.clos S.kind S.names
  (thn (hi pins s σ H _ I h) fun v s1 h1=>thn h1 fun itv s2 h2=>?_)) (fun _ s' hq=>wpAny_pure (wpAny_pure hq)) fun _ _ e=>e)
 obtain⟨it,fp,tn,J,H2,e,I2,T,st2,f2,rd⟩:=h2
 subst e
 obtain⟨W,w0,turn⟩:=rd _ (I2.hok.fresh (Nat.le_refl _))
 refine yD (Q:=fun x H1=>oX i x σ H1 D.nx) (RR:=fun acc C=>compPost (model X.prog X.w) X.A X.xe (some (assign (.Name x py) X.env)) (fun _ s'=>SP X pins D .next s') acc C) S hc I2 T st2 f2 hg he W w0 turn
  fun C H' s' m hCle hm hCn I' hback q=>?_
 refine wpAny_assign_Name (uR (v:= .ref s2.heap.objs.size) I' hN hi' hx rfl (fun s'' I'' ⟨a,hsa,ha⟩=>?_) hf)
 have hCa:C≠a:=by
  rcases ha with z|z
  ·rw [z]
   exact Ne.symm (gF I2.lt hCle)
  ·obtain⟨v,q'⟩:=I2.cell x a z
   exact Ne.symm (gF q'.lt hCle)
 refine⟨m,hm.sameBut hsa hCa,fun h' hs'=>⟨_,H',?_,q⟩⟩
 have hC0:X.s₀.heap.objs.size<=C:=Nat.le_trans I2.sz hCle
 have hnp:∀p∈X.pn++pins,p.1≠C:=fun p hp=>gF (Heap.lt_size (I2.pin p hp).1) hCle
 have hcl:∀y c,X.env.cells.lookup y=some c->c≠C:=fun y c e=>by
  obtain⟨v,q'⟩:=I2.cell y c e
  exact gF q'.lt hCle
 have hL:C≠X.env.locals:=Ne.symm (gF I2.lt hCle)
 exact I''.turned (t':=s''.toks) (it:=C) (fun b o hb e=>(hs'.2 b hb).trans e) hCn hL (.inr hC0) hcl hnp
end
section
variable {prog:Program} {w:World} {A:Around} {R:Result->Shared->Prop} {s:Shared}
theorem zW {elt target iter c:Expr} {scope:Scope} {pos:Pos} {it acc:Value} {env:Env} (I:Nat->Shared->Prop)
  (turn:∀n s,I n s->wpAny (model prog w) A (pyNext it) (fun r s₁=>match r with
   |none=>R (.ok .next) s₁
   |some v=>wpAny (model prog w) A (letOwnedTupleGo target it v) (fun _ s₁'=>wpAny (model prog w) A (assign target env v) (fun _ s₂=>wpAny (model prog w) A (isTrue c env (eval c env)) (fun ok s₂'=>if ok=true then wpAny (model prog w) A (eval elt env) (fun x s₃=>
     wpAny (model prog w) A (call (.builtin "list.append") [acc,x]) (fun _ s₄=>∃m,m<n/\I m s₄) (fun _ _=>False) s₃) (fun _ _=>False) s₂' else∃m,m<n/\I m s₂') (fun _ _=>False) s₂) (fun _ _=>False) s₁') (fun _ _=>False) s₁) (fun _ _=>False) s)
  (n:Nat) (h:I n s):
  codeAny (model prog w) A (.compLoop (.ListComp elt [⟨target,iter,[c],0⟩] scope pos) 0 it acc env) R s:=by
 refine codeAny_loop rfl I (fun n s hI=>?_) n h
 show wpAny _ _ ((compTurn (.ListComp elt [⟨target,iter,[c],0⟩] scope pos) 0 it acc env).onRaise (fun x=>do noteFrame x env;theTreesLotGoes x)) _ _ s
 refine wpAny_noted ?_
 rw [compTurn_list]
 refine wpAny_bind (wpAny_standAt (wpAny_bind (wpAny_mono (turn n s hI) (fun r s₁ h₁=>?_) fun _ _ h'=>h'.elim)))
 cases r with
 |none=>exact wpAny_pure h₁
 |some v=>
  refine wpAny_bind (wpAny_mono h₁ (fun _ s₁' h₁'=>?_) fun _ _ h'=>h'.elim)
  refine wpAny_bind (wpAny_mono h₁' (fun _ s₂ h₂=>?_) fun _ _ h'=>h'.elim)
  refine wpAny_bind (wpAny_tests_one (wpAny_mono h₂ (fun okb s₃ h₃=>?_) fun _ _ h'=>h'.elim))
  cases okb with
  |false=>exact wpAny_pure ⟨rfl,h₃⟩
  |true=>exact wpAny_bind (wpAny_bind (wpAny_mono h₃ (fun x s₄ h₄=>wpAny_bind (wpAny_mono h₄ (fun _ s₅ h₅=>wpAny_pure (wpAny_pure ⟨rfl,h₅⟩)) fun _ _ h'=>h'.elim)) fun _ _ h'=>h'.elim))
end
def aPk (J:It) (D:Addr) (g:TG) (tc:TT) (te:TE) (Q:VK) (σ:St) (H:Hp):Prop:=∃W:Nat->Nat->St->Hp->Prop,
 (∃m,W 0 m σ H)/\∀i m σc H2,W i m σc H2->
  (J.stop i H2/\Q (.ref D) H2)∨(J.go i H2/\∀x H3,J.yld i H2 x H3->g x σc H3 fun σ4 H4=>tc σ4 H4 fun ok H4'=>if ok=true then te σ4 H4' fun y H5=>∃ys,H5 D=some (.lst ys)/\ys.length<sizeLine/\∃m',m'<m/\W (i+1) m' σ4 (upd H5 D (.lst (ys++[y])))else∃m',m'<m/\W (i+1) m' σ4 H4')
def xV (no:Nat) (cap:List (Str×Nat)) (wi:TI) (g:TG) (tc:TT) (te:TE):TE:=fun σ H Q=>wi σ H fun J H1=>∀D,H1 D=none->aPk J D g tc te Q (jF no cap σ) (upd H1 D (.lst []))
section
variable {X:Cx} {pins:List (Addr×Obj)} {σ:St} {s2:Shared} {H2:Hp}
theorem vH {elt iter tg ci:Expr} {scope:Scope} {own:List Str} {cap:List (Str×Nat)} {cl:List (Str×Addr)} {pos:Pos} {J:It} {fp:List Addr} {it:Addr} {tn:Nat->Heap->Prop} {g:TG} {tc:TT} {te:TE} {Q:VK}
  (S:fJ X scope cap cl) (hc:X.calm=true) (I:Inv X pins σ H2 s2) (T:Turn X.prog X.w X.K tg J fp it tn) (st:tn 0 s2.heap) (hf:∀b∈fp,aAa X pins H2 b)
  (hg:∀C s2 H2 fp,PG (bI X (cT own cap) scope cl C s2 H2 fp) tg g) (htc:∀C s2 H2 fp,PT (bI X (cT own cap) scope cl C s2 H2 fp) ci tc) (he:∀C s2 H2 fp,PE (bI X (cT own cap) scope cl C s2 H2 fp) elt te)
  (W:Nat->Nat->St->Hp->Prop) (w0:∃m,W 0 m (jF own.length cap σ) (upd H2 s2.heap.objs.size (.lst [])))
  (turn:∀i m σc H3,W i m σc H3->(J.stop i H3/\Q (.ref s2.heap.objs.size) H3)∨(J.go i H3/\∀x H4,J.yld i H3 x H4->g x σc H4 fun σ5 H5=>tc σ5 H5 fun ok H5'=>if ok=true then te σ5 H5' fun y H6=>∃ys,H6 s2.heap.objs.size=some (.lst ys)/\ys.length<sizeLine/\∃m',m'<m/\W (i+1) m' σ5 (upd H6 s2.heap.objs.size (.lst (ys++[y])))else∃m',m'<m/\W (i+1) m' σ5 H5'))
  {RR:Value->Addr->Result->Shared->Prop}
  (hRR:∀C H' s' m,s2.heap.objs.size<=C->s'.heap.Ns C m->H' C=none->Inv X pins σ H' s'->(∀h',Heap.SameBut C s'.heap h'->Inv X pins σ H' {s' with heap:=h'})->Q (.ref s2.heap.objs.size) H'->RR (.ref s2.heap.objs.size) C (.ok .next) s')
  {E:Value->Shared->Prop}:
  wpAny (model X.prog X.w) X.A (newList []) (fun acc s₃=>wpAny (model X.prog X.w) X.A (newFunctionEnv scope X.env.globals cl [] X.env.qual none .none (some X.env)) (fun cenv s₄=>
   codeAny (model X.prog X.w) X.A (.compStart (.ListComp elt [⟨tg,iter,[ci],0⟩] scope pos) 0 (.ref it) acc {cenv with scope:=relabel scope X.env}) (RR acc cenv.locals) s₄) E s₃) E s2:=by
 refine wpAny_newObj_type (wpAny_newFunctionEnv S.nocell (by intro y hy;simp at hy) (fun h₁ hns₁ hsb₁=>?_) S.kind)
 dsimp only at hns₁ hsb₁⊢
 generalize hH2:s2.heap.push {cls:= .type "list",dict:=none,data:= .seq ([]:List Value).toArray}=G2 at hns₁ hsb₁⊢
 have hC:G2.objs.size=s2.heap.objs.size+1:=by rw [<-hH2,Heap.size_push]
 have hDC:s2.heap.objs.size≠G2.objs.size:=by rw [hC];exact Nat.ne_of_lt (Nat.lt_succ_self _)
 have hCle:s2.heap.objs.size<=G2.objs.size:=by rw [hC];exact Nat.le_succ _
 have below:∀b,b<s2.heap.objs.size->b≠G2.objs.size/\b≠s2.heap.objs.size:=fun b hb=>⟨by rw [hC];exact Nat.ne_of_lt (Nat.lt_succ_of_lt hb),Nat.ne_of_lt hb⟩
 have old:∀b o,s2.heap.get? b=some o->h₁.get? b=some o:=fun b o e=>hsb₁.extBut b o (below b (Heap.lt_size e)).1 (Heap.get?_push_of_some _ (hH2▸Heap.get?_push_of_some _ e))
 have hacc:h₁.get? s2.heap.objs.size=some {cls:= .type "list",dict:=none,data:= .seq ([]:List Value).toArray}:=hsb₁.extBut _ _ hDC (Heap.get?_push_of_some _ (hH2▸Heap.get?_push_size _ rfl))
 have hfps:∀b∈fp,b<s2.heap.objs.size:=fun b hb=>by
  obtain⟨o,e,_⟩:=T.obj _ _ st b hb
  exact Heap.lt_size e
 have hfree:∀b,s2.heap.objs.size<=b->H2 b=none:=fun b hb=>I.hok.fresh hb
 generalize hX:bI X (cT own cap) scope cl G2.objs.size s2 H2 fp=X'
 have hOk:X'.Ok:=by
  subst hX
  refine⟨I.ok.mod,S.kind,I.ok.glob,I.ok.blt,hCle,fun x y c e1 e2=>I.ok.inj x y c (S.sub x c e1) (S.sub y c e2),fun x hx=>?_,fun x c z=>absurd (show false=true from z) Bool.false_ne_true,I.ok.hd,I.ok.frames,.inl rfl,
   fun b hb=>⟨(below b (hfps b hb)).1,fun x c e=>(hf b hb).2.2.2.2.1 x c (S.sub x c e)⟩,I.bs,Nat.le_trans I.ok.bsz I.sz,fun b o e hb=>?_,fun b hb z=>?_,I.stack,I.stkFree⟩
  ·rcases gM (env:=X.env) (names:=scope.names) (x:=x) hx with h|h
   ·exact S.has x h
   ·exact absurd rfl (S.nocell _ (PySem.mem_of_lookup h))
  ·rcases (hf b hb).2.2.2.1 with z|z
   ·exact I.ok.noex b o e z
   ·exact absurd (Nat.lt_of_lt_of_le (Heap.lt_size e) (Nat.le_trans I.ok.bsz z)) (Nat.lt_irrefl _)
  ·rcases List.mem_cons.mp (I.stkSub b z)with z|z
   ·exact(hf b hb).2.1 z
   ·exact(hf b hb).2.2.1 z
 have hI0:Inv X' [] (jF own.length cap σ) (upd H2 s2.heap.objs.size (.lst [])) {s2 with heap:=h₁,toks:=s2.toks+([]:List (Str×Value)).length}:=by
  subst hX
  refine⟨hOk,rfl,I.bare,Un.laid old (Nat.le_refl _) (hfree _ (Nat.le_refl _)),⟨_,hns₁,fun i x v e1 e2 e3=>?_⟩,fun x c e=>?_,?_,fun x c e=>?_,fun p hp=>absurd (show p∈([]:List (Addr×Obj))from hp) (by simp),?_,?_⟩
  ·obtain⟨p,hp,rfl,hσ⟩:=aA9 rfl e1 e2
   obtain⟨c1,c2,c3⟩:=S.cap p hp
   obtain⟨m,hn,hl⟩:=I.loc
   obtain⟨u,r,l⟩:=hl p.2 p.1 v c1 hσ (.inr (.inl c3))
   refine⟨u,r,.inr ⟨.inl (fZ I.ok.kind c2 c3),?_⟩⟩
   obtain⟨c,hcl⟩:=S.has _ c2
   refine⟨c,hcl,?_⟩
   rcases l with ⟨k,_⟩|⟨_,c',e,z⟩
   ·have k':X.env.scope.names.lookup p.1=some .local:=k
    rw [c3]at k';cases k'
   ·have:=S.sub _ _ hcl
    rw [e]at this;cases this
    obtain⟨o,ho,hd⟩:=z
    exact⟨o,old _ _ ho,hd⟩
  ·obtain⟨v,o,ho,hd⟩:=I.cell x c (S.sub x c e)
   exact⟨v,o,old _ _ ho,hd⟩
  ·show upd H2 s2.heap.objs.size (.lst []) G2.objs.size=none
   rw [aQ (Ne.symm hDC)]
   exact hfree _ hCle
  ·have e':=S.sub x c e
   obtain⟨v,o,ho,hd⟩:=I.cell x c e'
   rw [aQ (below c (Heap.lt_size ho)).2]
   exact I.freeC x c e'
  ·exact I.hok.laid old (Nat.le_refl _) ⟨Nat.zero_le _,[],_,.nil,hacc⟩
  ·show(jF own.length cap σ).length=(cT own cap).length
   unfold jF cT
   simp
 have hP:X'.prog=X.prog:=by subst hX;rfl
 have hw:X'.w=X.w:=by subst hX;rfl
 have hK:X'.K=X.K:=by subst hX;rfl
 have hA:X'.A=X.A:=by subst hX;rfl
 have hcalm:X'.calm=true:=by subst hX;exact hc
 have hxe:X'.xe=fun _ _=>False:=by subst hX;rfl
 have henv:X'.env=compEnvC scope cl G2.objs.size X.env:=by subst hX;rfl
 have hbase:∀{σ' H' s'},Inv X' [] σ' H' s'->Un (frs X.stack) fp H2 H' s2.heap s'.heap/\s'.os=s2.os:=fun{σ' H' s'} J=>by subst hX;exact⟨J.base,J.os⟩
 have hg':PG X' tg g:=by subst hX;exact hg _ _ _ _
 have he':PE X' elt te:=by subst hX;exact he _ _ _ _
 have htc':PT X' ci tc:=by subst hX;exact htc _ _ _ _
 have stat:∀{H':Hp},(∀b∈fp,H' b=none)->∀b∈fp,aAa X' [] H' b:=fun{H'} hn b hb=>by
  subst hX
  refine⟨hn b hb,(below b (hfps b hb)).1,fun z=>?_,.inl hb,fun x c e=>(hf b hb).2.2.2.2.1 x c (S.sub x c e),fun p hp=>absurd (show p∈([]:List (Addr×Obj))from hp) (by simp)⟩
  rcases List.mem_cons.mp (I.stkSub b z)with z|z
  ·exact(hf b hb).2.1 z
  ·exact(hf b hb).2.2.1 z
 have back:∀{σ' H' s'},Inv X' [] σ' H' s'->Q (.ref s2.heap.objs.size) H'->RR (.ref s2.heap.objs.size) G2.objs.size (.ok .next) s':=fun{σ' H' s'} J q=>by
  obtain⟨u,ho⟩:=hbase J
  have hcf:∀b∈fp,(b∈X.ex∨X.s₀.heap.objs.size<=b)/\b≠X.env.locals/\(∀x c,X.env.cells.lookup x=some c->c≠b)/\∀p∈X.pn++pins,p.1≠b:=fun b hb=>by
   obtain⟨f0,f1,f2,f3,f4,f5⟩:=hf b hb
   exact⟨f3,f1,f4,f5⟩
  have hCn:H' G2.objs.size=none:=by have:=J.free;rw [henv]at this;exact this
  have hok':HOk X.prog X.w H' s'.heap:=by have:=J.hok;rw [hP,hw]at this;exact this
  obtain⟨m,hm,_⟩:=J.loc
  rw [henv]at hm
  refine hRR _ H' s' m hCle hm hCn (I.call' ho u hok' J.bare hcf) (fun h' hs=>?_) q
  have kn:∀b o,s2.heap.get? b=some o->h'.get? b=s'.heap.get? b:=fun b o e=>hs.2 b (below b (Heap.lt_size e)).1
  refine I.call' (s':={s' with heap:=h'}) ho ⟨fun b o e n hb hx=>(kn b o e).trans (u.keep b o e n hb hx),fun b o e n hb hx=>?_,u.free,fun b o e hx=>?_,u.tups,u.frzs,u.tbls⟩ (fun b ob e=>?_) J.bare hcf
  ·obtain⟨sl,e1⟩:=u.slot b o e n hb hx
   exact⟨sl,(kn b o e).trans e1⟩
  ·obtain⟨o',e1⟩:=u.there b o e hx
   exact⟨o',(kn b o e).trans e1⟩
  ·refine(hok' b ob e).stay (fun c w' hc q=>(hs.2 c ?_).trans q) (fun _ q=>q) fun _ _ q=>q
   rintro rfl
   rcases hc with rfl|hc
   ·rw [hCn]at e;cases e
   ·rw [hCn]at hc;cases hc
 have loop:∀s₃:Shared,s₃={s2 with heap:=h₁,toks:=s2.toks+([]:List (Str×Value)).length}->
   codeAny (model X.prog X.w) X.A (.compLoop (.ListComp elt [⟨tg,iter,[ci],0⟩] scope pos) 0 (.ref it) (.ref s2.heap.objs.size) (compEnvC scope cl G2.objs.size X.env))
    (RR (.ref s2.heap.objs.size) G2.objs.size) s₃:=by
  rintro s₃ rfl
  obtain⟨m0,w0⟩:=w0
  refine zW (fun n s'=>∃i σ' H',Inv X' [] σ' H' s'/\tn i s'.heap/\(∀b∈fp,H' b=none)/\W i n σ' H') ?_ m0
   ⟨0,_,_,hI0,T.keep _ _ _ st fun b hb o e=>old b o e,fun b hb=>?_,w0⟩
  ·rintro n s3 ⟨i,σ3,H3,I3,st3,fr3,w3⟩
   rcases turn i n σ3 H3 w3 with ⟨stop,qn⟩|⟨go,step⟩
   ·have d:=T.done X' hP hw hK hcalm i [] s3 σ3 H3 (fun _ _=>False) I3 (stat fr3) st3 stop
    rw [hA]at d
    refine thn d fun r s4 ⟨hr,I4⟩=>?_
    subst hr
    exact back I4 qn
   ·have d:=T.item X' hP hw hK hcalm i [] s3 σ3 H3 (fun _ _=>False) I3 (stat fr3) st3 go
    rw [hA]at d
    refine thn d fun r s4 ⟨u,hr,h4⟩=>?_
    subst hr
    refine thn h4 fun _ s5 ⟨x,H5,I5,r5,y5,st5,fr5⟩=>?_
    have I5':=I5.pinned (stat fr5) (T.obj _ _ st5)
    have d2:=hg' _ s5 σ3 H5 x u _ I5' r5 (step x H5 y5)
    rw [hP,hw,hA,hxe,henv]at d2
    refine thn d2 fun _ s6 ⟨σ6,H6,I6,q6⟩=>?_
    have dt:=htc' _ s6 σ6 H6 _ I6 q6
    rw [hP,hw,hA,hxe,henv]at dt
    refine thn dt fun okb s6' ⟨H6',I6',q6'⟩=>?_
    cases okb with
    |false=>
     obtain⟨m',hm,w7⟩:=q6'
     refine⟨m',hm,i+1,σ6,H6',I6'.unpinned,T.keep _ _ _ st5 fun b hb o e=>(I6'.pin (b,o) (List.mem_append_right _ (List.mem_append_right _ (eG hb e)))).1,fun b hb=>?_,w7⟩
     obtain⟨o,e,d⟩:=T.obj _ _ st5 b hb
     exact(I6'.pin (b,o) (List.mem_append_right _ (List.mem_append_right _ (eG hb e)))).2.1
    |true=>
    have d3:=he' _ s6' σ6 H6' _ I6' q6'
    rw [hP,hw,hA,hxe,henv]at d3
    refine thn d3 fun y7 s7 ⟨v7,H7,I7,r7,ys,e7,l7,m',hm,w7⟩=>?_
    have d4:=mU (X:=X') _ s7 σ6 H7 (.ref s2.heap.objs.size) [v7] (.ref s2.heap.objs.size) [y7] (fun _ H8=>W (i+1) m' σ6 H8) I7 rfl (.cons r7 .nil) ⟨_,ys,v7,rfl,rfl,e7,l7,w7⟩
    rw [hP,hw,hA,hxe]at d4
    refine thn d4 fun _ s8 ⟨v8,H8,I8,_,w8⟩=>?_
    refine⟨m',hm,i+1,σ6,H8,I8.unpinned,T.keep _ _ _ st5 fun b hb o e=>(I8.pin (b,o) (List.mem_append_right _ (List.mem_append_right _ (eG hb e)))).1,fun b hb=>?_,w8⟩
    obtain⟨o,e,d⟩:=T.obj _ _ st5 b hb
    exact(I8.pin (b,o) (List.mem_append_right _ (List.mem_append_right _ (eG hb e)))).2.1
  ·rw [aQ (below b (hfps b hb)).2]
   exact(hf b hb).1
 exact codeAny_compStart_list (loop _ rfl) (T.self _ 0 _ _ _ (T.keep _ _ _ st fun b hb o e=>old b o e) (loop _ rfl))
theorem aI4 {elt iter tg ci:Expr} {scope:Scope} {own:List Str} {cap:List (Str×Nat)} {cl:List (Str×Addr)} {pos:Pos} {wi:TI} {g:TG} {tc:TT} {te:TE}
  (S:fJ X scope cap cl) (hc:X.calm=true) (hi:PI X tg iter wi)
  (hg:∀C s2 H2 fp,PG (bI X (cT own cap) scope cl C s2 H2 fp) tg g) (htc:∀C s2 H2 fp,PT (bI X (cT own cap) scope cl C s2 H2 fp) ci tc) (he:∀C s2 H2 fp,PE (bI X (cT own cap) scope cl C s2 H2 fp) elt te)
  (hs:∀x,foldedSetIterable iter X.env x=pure x:=by intro _;rfl):PE X (.ListComp elt [⟨tg,iter,[ci],0⟩] scope pos) (xV own.length cap wi g tc te):=by
 intro pins s σ H Q I h
 rw [eval_ListComp]
 refine wpAny_comprehension_free (use:=none) rfl hs S.clos S.kind S.names (thn (hi pins s σ H _ I h) fun v s1 h1=>thn h1 fun itv s2 h2=>?_)
 obtain⟨it,fp,tn,J,H2,e,I2,T,st2,f2,rd⟩:=h2
 subst e
 obtain⟨W,w0,turn⟩:=rd _ (I2.hok.fresh (Nat.le_refl _))
 exact vH (RR:=fun acc C=>compPost (model X.prog X.w) X.A X.xe none (EP X pins σ Q) acc C) S hc I2 T st2 f2 hg htc he W w0 turn
  fun C H' s' m _ hm _ _ hback q=>⟨m,hm,fun h' hs'=>⟨.ref s2.heap.objs.size,H',hback h' hs',rfl,q⟩⟩
theorem aDi {i:Nat} {x:Str} {elt iter tg ci:Expr} {scope:Scope} {own:List Str} {cap:List (Str×Nat)} {cl:List (Str×Addr)} {pos spos py:Pos} {wi:TI} {g:TG} {tc:TT} {te:TE}
  (hN:X.N.Nodup) (hi':X.N[i]? =some x) (hx:Loc X.env.scope x) (S:fJ X scope cap cl) (hc:X.calm=true) (hi:PI X tg iter wi)
  (hg:∀C s2 H2 fp,PG (bI X (cT own cap) scope cl C s2 H2 fp) tg g) (htc:∀C s2 H2 fp,PT (bI X (cT own cap) scope cl C s2 H2 fp) ci tc) (he:∀C s2 H2 fp,PE (bI X (cT own cap) scope cl C s2 H2 fp) elt te)
  (hsw:swapsWith (.ListComp elt [⟨tg,iter,[ci],0⟩] scope pos) (some (.Name x py)) spos.line X.env=pure true:=by rfl)
  (hs:∀x,foldedSetIterable iter X.env x=pure x:=by intro _;rfl) (hf:X.fn x=true∨X.env.scope.names.lookup x=some .local:=by first|exact .inl rfl|exact .inr rfl|assumption):
  PS X (.Assign [.Name x py] (.ListComp elt [⟨tg,iter,[ci],0⟩] scope pos) spos) (aH6 (xV own.length cap wi g tc te) (oX i)):=by
 intro pins s σ H D I h
 rw [exec_Assign_Name_used _ _ _ _ hsw]
 refine wpAny_bind (wpAny_standAt (wpAny_bind ?_))
 show wpAny _ X.A (do let _<-comprehension (.ListComp elt [⟨tg,iter,[ci],0⟩] scope pos) scope X.env _ (newList []) false (eval iter X.env) (some (assign (.Name x py) X.env))) _ _ s
 refine wpAny_bind (wpAny_mono (wpAny_comprehension_free (use:=some (assign (.Name x py) X.env)) (Q:=fun _ s'=>SP X pins D .next s') rfl hs S.clos S.kind S.names
  (thn (hi pins s σ H _ I h) fun v s1 h1=>thn h1 fun itv s2 h2=>?_)) (fun _ s' hq=>wpAny_pure (wpAny_pure hq)) fun _ _ e=>e)
 obtain⟨it,fp,tn,J,H2,e,I2,T,st2,f2,rd⟩:=h2
 subst e
 obtain⟨W,w0,turn⟩:=rd _ (I2.hok.fresh (Nat.le_refl _))
 refine vH (Q:=fun x H1=>oX i x σ H1 D.nx) (RR:=fun acc C=>compPost (model X.prog X.w) X.A X.xe (some (assign (.Name x py) X.env)) (fun _ s'=>SP X pins D .next s') acc C) S hc I2 T st2 f2 hg htc he W w0 turn
  fun C H' s' m hCle hm hCn I' hback q=>?_
 refine wpAny_assign_Name (uR (v:= .ref s2.heap.objs.size) I' hN hi' hx rfl (fun s'' I'' ⟨a,hsa,ha⟩=>?_) hf)
 have hCa:C≠a:=by
  rcases ha with z|z
  ·rw [z]
   exact Ne.symm (gF I2.lt hCle)
  ·obtain⟨v,q'⟩:=I2.cell x a z
   exact Ne.symm (gF q'.lt hCle)
 refine⟨m,hm.sameBut hsa hCa,fun h' hs'=>⟨_,H',?_,q⟩⟩
 have hC0:X.s₀.heap.objs.size<=C:=Nat.le_trans I2.sz hCle
 have hnp:∀p∈X.pn++pins,p.1≠C:=fun p hp=>gF (Heap.lt_size (I2.pin p hp).1) hCle
 have hcl:∀y c,X.env.cells.lookup y=some c->c≠C:=fun y c e=>by
  obtain⟨v,q'⟩:=I2.cell y c e
  exact gF q'.lt hCle
 have hL:C≠X.env.locals:=Ne.symm (gF I2.lt hCle)
 exact I''.turned (t':=s''.toks) (it:=C) (fun b o hb e=>(hs'.2 b hb).trans e) hCn hL (.inr hC0) hcl hnp
end
def Ite (K:PySem.W.Frag) (a:Addr):It:=
 ⟨fun i H=>∃xs x,SqL K H a xs/\xs[i]? =some x,fun i H y H'=>∃p x,H p=none/\y= .ref p/\H'=upd H p (.tup [.int i,x])/\∀xs,SqL K H a xs->xs[i]? =some x,fun i H=>∃xs,SqL K H a xs/\xs.length<=i⟩
theorem aIb {P:Program} {w:World} {K:PySem.W.Frag} {es:List Expr} {k:Nat} {pos:Pos} (a e it:Addr) (hei:e≠it):
  Turn P w K (.Tuple es k pos) (Ite K a) [e,it] e (fun i h=>(∃old,IsEnum h e it ((i:Nat):Int) old)/\h.IsListIter it a i) where
 mem:=by simp
 obj:=fun i h st b hb=>by
  obtain⟨⟨old,he⟩,⟨o,e1,c,d⟩⟩:=st
  rcases List.mem_cons.mp hb with rfl|hb
  ·exact⟨_,he,fun v z=>by
    have z':Data.fields _=Data.cell v:=z
    cases z'⟩
  ·have e2:b=it:=by simpa using hb
   subst e2
   exact⟨o,e1,fun v z=>by rw [d]at z;cases z⟩
 keep:=fun i h h' st k=>by
  obtain⟨⟨old,he⟩,hit⟩:=st
  exact⟨⟨old,k e (by simp) _ he⟩,hit.at fun o e'=>k it (by simp) o e'⟩
 item:=by
  intro X hP hw hK hc i pins s σ H E I hf st hg
  subst hP hw hK
  obtain⟨⟨old,he⟩,hit⟩:=st
  obtain⟨xs,x,hq,hx⟩:=hg
  obtain⟨its,rv,p,hz⟩:=I.list hq
  obtain⟨u,hu,ru⟩:=rv.get hx
  refine wpAny_pyNext_enum_item he hit p.isList (x:=u) (by simpa using hu) hei fun h' heo hit' ht hz' hk=>?_
  refine⟨_,rfl,wpAny_letOwnedTupleGo_enum heo fun h'' he'' hs''=>?_⟩
  have hT:H s.heap.objs.size=none:=I.hok.fresh (Nat.le_refl _)
  have heT:e≠s.heap.objs.size:=Nat.ne_of_lt (Heap.lt_size he)
  have hfe:=hf e (by simp)
  have hfi:=hf it (by simp)
  have keep:∀b o,b≠e->b≠it->s.heap.get? b=some o->h''.get? b=some o:=fun b o h1 h2 h3=>(hs''.2 b h1).trans (hk b o h1 h2 h3)
  have keepc:∀b o,b∉[e,it]->s.heap.get? b=some o->h''.get? b=some o:=fun b o h1 h3=>keep b o (fun z=>h1 (by simp [z])) (fun z=>h1 (by simp [z])) h3
  have tup:=(hs''.2 _ (Ne.symm heT)).trans ht
  have nf:∀b u,H b=some u->b≠e/\b≠it:=fun b u q=>⟨fun z=>(by rw [z,hfe.1]at q;cases q),fun z=>(by rw [z,hfi.1]at q;cases q)⟩
  have nT:∀b u,H b=some u->b≠s.heap.objs.size:=fun b u q=>aU q hT
  have iti:it≠s.heap.objs.size:=by obtain⟨o,e1,_⟩:=hit;exact Nat.ne_of_lt (Heap.lt_size e1)
  refine⟨.ref s.heap.objs.size,upd H s.heap.objs.size (.tup [.int i,x]),?_,rfl,⟨_,x,hT,rfl,rfl,fun ys hy=>by rw [I.list_inj hy hq];exact hx⟩,⟨⟨_,he''⟩,?_⟩,fun b hb=>?_⟩
  ·show Inv X pins σ (upd H s.heap.objs.size (.tup [.int i,x])) {s with heap:=h'',gens:=s.gens,drawn:=s.drawn,toks:=s.toks+1}
   refine Inv.step (s:=s) (h':=h'') (t':=s.toks+1) (g':=s.gens) (d':=s.drawn) (ch:=[e,it]) I (fun b hb=>?_) (fun b o _ _ hc' q _=>keepc b o hc' q) (fun b o _ _ hc' q _=>⟨o.slots,keepc b o hc' q⟩) (fun b o _ q n=>by rw [aQ (Nat.ne_of_lt (Heap.lt_size q))];exact n)
    (fun b o hc' q=>⟨o,keepc b o hc' q⟩) (fun b ys q=>by rw [aQ (nT b _ q)];exact q) (fun b o' ys q=>by rw [aQ (nT b _ q)];exact q) (fun b ps q=>⟨#[],by rw [aQ (nT b _ q),q];simp⟩) (fun m hm=>?_) (fun b ob q=>?_) I.bare
   ·rcases List.mem_cons.mp hb with rfl|hb
    ·exact⟨hfe.2.2.2.1,hfe.2.1,hfe.2.2.2.2.1,hfe.2.2.2.2.2⟩
    ·have e2:b=it:=by simpa using hb
     subst e2
     exact⟨hfi.2.2.2.1,hfi.2.1,hfi.2.2.2.2.1,hfi.2.2.2.2.2⟩
   ·obtain⟨o,es,ep,ho,r⟩:=hm
    exact⟨o,es,ep,keep _ o (Ne.symm hfe.2.1) (Ne.symm hfi.2.1) ho,r⟩
   ·by_cases hb:b=s.heap.objs.size
    ·subst hb
     rw [aJ]at q
     cases q
     exact⟨show 2<=sizeLine by decide,[.int i s.toks,u],.cons ⟨_,rfl⟩ (.cons ru .nil),⟨_,tup,rfl,_,rfl⟩⟩
    ·rw [aQ hb]at q
     refine(I.hok b ob q).stay (fun c w' hc' q'=>?_) (fun c q'=>by rw [aQ (nT c _ q')];exact q') (fun c ys q'=>by rw [aQ (nT c _ q')];exact q')
     have hne:c≠e/\c≠it:=by
      rcases hc' with rfl|hc'
      ·exact nf _ _ q
      ·exact nf _ _ hc'
     exact keep c w' hne.1 hne.2 q'
  ·exact hit'.at fun o e'=>(hs''.2 it (Ne.symm hei)).trans e'
  ·rcases List.mem_cons.mp hb with rfl|hb
   ·rw [aQ heT];exact hfe.1
   ·have e2:b=it:=by simpa using hb
    subst e2
    rw [aQ iti];exact hfi.1
 done:=by
  intro X hP hw hK hc i pins s σ H E I hf st hg
  subst hP hw hK
  obtain⟨⟨old,he⟩,hit⟩:=st
  obtain⟨xs,hq,hx⟩:=hg
  obtain⟨its,rv,p,hz⟩:=I.list hq
  obtain⟨f0,f1,f2,f3,f4,f5⟩:=hf it (by simp)
  have hl:=rv.length
  exact wpAny_pyNext_enum_end (I.ok.hd hc) he hit p.isList (by simp;omega) fun h' eb=>⟨rfl,I.turned (t':=s.toks) (fun b o hb q=>eb b o hb q) f0 f1 f3 f4 f5⟩
 self:=fun _ _ _ _ _ st h=>by
  obtain⟨⟨old,he⟩,hit⟩:=st
  exact wpAny_pyIter_enum he h
section
variable {X:Cx}
def aSd (K:PySem.W.Frag) (ta:TA):TI:=fun σ H R=>ta σ H fun vs H1=>∃a,vs=[.ref a]/\(∃xs,SqL K H1 a xs)/\R (Ite K a) H1
theorem aNk {es:List Expr} {k:Nat} {pos':Pos} {a:Expr} {ta:TA} {p pos:Pos} (hg:Gl X "enumerate") (hm:X.mg "enumerate"=none) (ha:PA X [a] ta) (hs:starEach [a] X.env=[(false,eval a X.env)]:=by rfl):
  PI X (.Tuple es k pos') (.Call (.Name "enumerate" p) [a] [] pos) (aSd X.K ta):=by
 intro pins s σ H R I h
 refine Call_ (rZ I hg hm boot_enumerate (PyProof.Rows.callWith_type1 (thn (ha pos pins s σ H _ I h) fun us s1 ⟨vs,H1,I1,r1,q1⟩=>?_) hs rfl))
 obtain⟨l,e,⟨xs,hq⟩,q⟩:=q1
 subst e
 cases r1 with
 |cons r rr=>
  cases rr
  cases r
  obtain⟨its,rv,pl,hz⟩:=I1.list hq
  refine call_enumerate_list pl.isList fun h' he hit hz' hk=>wpAny_pyIter_enum he ?_
  have I2:Inv X pins σ H1 {s1 with heap:=h'}:=I1.kept (t':=s1.toks) fun b o e=>hk b o e
  have hne:s1.heap.objs.size+1≠s1.heap.objs.size:=Nat.succ_ne_self _
  refine⟨s1.heap.objs.size+1,[s1.heap.objs.size+1,s1.heap.objs.size],_,_,H1,rfl,I2,aIb l _ _ hne,⟨⟨_,he⟩,hit⟩,fun b hb=>?_,q⟩
  rcases List.mem_cons.mp hb with rfl|hb
  ·exact I1.fpOk (Nat.le_succ _) (I1.hok.fresh (Nat.le_succ _))
  ·have e2:b=s1.heap.objs.size:=by simpa using hb
   subst e2
   exact I1.fpOk (Nat.le_refl _) (I1.hok.fresh (Nat.le_refl _))
end
section
variable {X:Cx}
theorem vO:dU X (.builtin "isinstance") (fun xs H Q=>∃x n t b,xs=[x,.ty n]/\tQ X.K H x t/\PySem.W.kitOne X.K t (.type n)=some b/\Q (.bl b) H):=by
 intro pins s σ H xs us Q I r h
 obtain⟨x,n,t,b,rfl,ty,e,q⟩:=h
 obtain⟨u,w',rfl,ru,rw'⟩:=vals2 r
 cases rw'
 exact aIj I ru ty e fun tk=>⟨.bl b,H,I.tok tk,rfl,q⟩
theorem aJl:OpR X (binaryOp .Add) (fun x y H Q=>∃a b ys,x= .ref a/\y= .ref b/\SqT X.K H a []/\SqT X.K H b ys/\Q (.ref b) H):=by
 intro pins s σ H x y v u Q I rx ry h
 obtain⟨a,b,ys,rfl,rfl,ha,hb,q⟩:=h
 cases rx
 cases ry
 obtain⟨its,r1,p1,_⟩:=I.tuple ha
 obtain⟨its2,r2,p2,_⟩:=I.tuple hb
 cases r1
 obtain⟨⟨cls,dd,data,sl⟩,ho,hc,n,hd⟩:=id p1
 obtain⟨⟨cls2,dd2,data2,sl2⟩,ho2,hc2,n2,hd2⟩:=id p2
 simp only at hc hd hc2 hd2
 subst hc hd hc2 hd2
 exact concat_meets ⟨_,ho,rfl⟩ ⟨_,ho2,rfl⟩ noFill_tuple_add seq_tuple_add PySem.F.slot_tuple_add PySem.F.entry_tuple_add (PySem.F.args_tuple_add_2 _ _)
   (tuple_addW0 a b _ _ n n2 dd dd2 sl sl2 (by simp)) ⟨ho,ho2,⟨.ref b,H,I,rfl,q⟩⟩
end
theorem aDt {x:V} (h:iM x=true):eqV x x=true:=by
 cases x<;>first|rfl|exact beq_self_eq_true _|(exact absurd (show false=true from h) Bool.false_ne_true)
theorem pY (e:Nat->Bool) (n:Nat):(List.range (n+1)).all e=(e 0 && (List.range n).all fun j=>e (j+1)):=by
 rw [List.range_succ_eq_map,List.all_cons,List.all_map]
 rfl
section
variable {X:Cx} {pins:List (Addr×Obj)} {σ:St} {H:Hp} {s:Shared} {A:Around}
end
theorem qR (env:Env):∀(names:List (Str×NameKind)) (acc:List (Str×Addr)),(∀y∈names,y.2= .free->∃c,env.cells.lookup y.1=some c)->(∀x c,acc.lookup x=some c->env.cells.lookup x=some c)->
  ∃cl,(forIn names acc (fun(x:Str×NameKind) (cs:List (Str×Addr))=>(if(x.2==NameKind.free)=true then(do let a<-cellOf env x.1;pure (ForInStep.yield ((x.1,a)::cs)):Sem _)else pure (ForInStep.yield cs))):Sem (List (Str×Addr)))=pure cl/\
   (∀x c,cl.lookup x=some c->env.cells.lookup x=some c)/\(∀x,(∃c,acc.lookup x=some c)∨(x,NameKind.free)∈names->∃c,cl.lookup x=some c)
 | [],acc,_,h2=>⟨acc,rfl,h2,fun x hx=>hx.elim id fun z=>(by cases z)⟩
 |(n,k)::r,acc,h1,h2=>by
  by_cases hk:k= .free
  ·subst hk
   obtain⟨c,hc⟩:=h1 (n,.free) List.mem_cons_self rfl
   obtain⟨cl,e,a,b⟩:=qR env r ((n,c)::acc) (fun y hy=>h1 y (List.mem_cons_of_mem _ hy)) (fun x c' hx=>by
    cases hxn:x==n with
    |true=>
     simp only [List.lookup_cons,hxn]at hx
     have:x=n:=eq_of_beq hxn
     subst this
     cases hx
     exact hc
    |false=>
     simp only [List.lookup_cons,hxn]at hx
     exact h2 x c' hx)
   refine⟨cl,?_,a,fun x hx=>b x ?_⟩
   ·rw [<-e,List.forIn_cons]
    have ec:cellOf env n=pure c:=by unfold cellOf;rw [hc]
    simp only [beq_self_eq_true,if_true,ec]
    rfl
   ·rcases hx with ⟨c',hx⟩|hx
    ·refine .inl ?_
     cases hxn:x==n with
     |true=>exact⟨c,by simp only [List.lookup_cons,hxn]⟩
     |false=>exact⟨c',by simp only [List.lookup_cons,hxn];exact hx⟩
    ·rcases List.mem_cons.mp hx with z|z
     ·cases z
      exact .inl ⟨c,by simp [List.lookup_cons]⟩
     ·exact .inr z
  ·obtain⟨cl,e,a,b⟩:=qR env r acc (fun y hy=>h1 y (List.mem_cons_of_mem _ hy)) h2
   refine⟨cl,?_,a,fun x hx=>b x ?_⟩
   ·rw [<-e,List.forIn_cons]
    have hb:(k==NameKind.free)=false:=by simpa using hk
    simp only [hb,Bool.false_eq_true,if_false]
    rfl
   ·rcases hx with hx|hx
    ·exact .inl hx
    ·rcases List.mem_cons.mp hx with z|z
     ·cases z
      exact absurd rfl hk
     ·exact .inr z
theorem aEs {X:Cx} {scope:Scope} {cap:List (Str×Nat)} (hcell:∀x,X.env.scope.names.lookup x=some .cell->∃c,X.env.cells.lookup x=some c) (kind:scope.kind= .function) (nocell:∀y∈scope.names,y.2≠ .cell)
  (names:∀y∈scope.names,y.2= .local->scope.names.lookup y.1=some .local) (free:∀y∈scope.names,y.2= .free->X.env.scope.names.lookup y.1=some .cell)
  (hcap:∀p∈cap,X.N[p.2]? =some p.1/\scope.names.lookup p.1=some .free/\X.env.scope.names.lookup p.1=some .cell):∃cl,fJ X scope cap cl:=by
 obtain⟨cl,e,a,b⟩:=qR X.env scope.names [] (fun y hy hf=>hcell _ (free y hy hf)) (fun x c h=>by simp at h)
 refine⟨cl,?_,kind,nocell,names,a,fun x hx=>b x (.inr (PySem.mem_of_lookup hx)),hcap⟩
 unfold closureFor
 refine Eq.trans ?_ e
 simp only [bind_pure]
abbrev aOp (n:Nat) (D:Addr) (Pv:Nat->List V->St->Hp->Prop) (i:Nat) (σ:St) (y:V) (H5:Hp):Prop:=
 ∃ys,H5 D=some (.lst ys)/\ys.length<sizeLine/\∃m',m'<n-i/\m'=n-(i+1)/\i+1<=n/\∃acc,Pv (i+1) acc σ (upd H5 D (.lst (ys++[y])))
theorem aR5 {n:Nat} {D:Addr} {Pv:Nat->List V->St->Hp->Prop} {i:Nat} {σ:St} {y:V} {H5:Hp} {acc:List V} (h1:H5 D=some (.lst acc)) (h2:acc.length<sizeLine) (hi:i<n) (h3:Pv (i+1) (acc++[y]) σ (upd H5 D (.lst (acc++[y])))):aOp n D Pv i σ y H5:=
 ⟨acc,h1,h2,n-(i+1),by omega,rfl,hi,acc++[y],h3⟩
theorem aL4 {K:PySem.W.Frag} {a D:Addr} {xs:List V} {ni:Nat} {te:TE} {Q:VK} {σ:St} {H:Hp} (Pv:Nat->List V->St->Hp->Prop) (h0:Pv 0 [] σ H) (hl:∀i acc σ H,i<=xs.length->Pv i acc σ H->SqT K H a xs)
  (hs:∀i x acc σ H,i<xs.length->xs[i]? =some x->Pv i acc σ H->te (σ.set ni (some x)) H fun y H5=>aOp xs.length D Pv i (σ.set ni (some x)) y H5) (hd:∀acc σ H,Pv xs.length acc σ H->Q (.ref D) H):
  aOi (Itt K a) D (oX ni) te Q σ H:=by
 refine⟨fun i m σ H=>m=xs.length-i/\i<=xs.length/\∃acc,Pv i acc σ H,⟨xs.length,by simp,Nat.zero_le _,[],h0⟩,?_⟩
 rintro i m σ H ⟨rfl,hi,acc,p⟩
 have q:=hl i acc σ H hi p
 by_cases hlt:i<xs.length
 ·refine .inr ⟨⟨xs,xs[i],q,by simp [hlt]⟩,fun x H' y=>?_⟩
  obtain⟨e,y⟩:=y
  subst e
  exact hs i x acc σ _ hlt (y xs q) p
 ·have e:i=xs.length:=by omega
  subst e
  exact .inl ⟨⟨xs,q,Nat.le_refl _⟩,hd acc σ H p⟩
section
variable {X:Cx}
end
section
variable {X:Cx}
theorem yK:dU X (.builtin "all") (fun xs H Q=>∃(p:Addr) (bs:List Bool),xs=[.ref p]/\SqL X.K H p (bs.map V.bl)/\X.calm=true/\Q (.bl (bs.all id)) H):=by
 intro pins s σ H xs us Q I r h
 obtain⟨p,bs,rfl,hq,hc,q⟩:=h
 obtain⟨u,rfl,ru⟩:=vals1 r
 cases ru
 obtain⟨its,rv,pl,hz⟩:=I.list hq
 have hl:=rv.length
 rw [List.length_map]at hl
 refine call_all_walk (wpAny_pyIter_list pl.isList ?_)
 have hlt:p<s.heap.objs.size:=by obtain⟨o,e,_⟩:=pl.isList;exact Heap.lt_size e
 have hne:p≠s.heap.objs.size:=Nat.ne_of_lt hlt
 have hd:X.A.in1.handled=none:=I.ok.hd hc
 refine⟨s.heap.objs.size,_,_,_,_,_,fun i=>bs.getD i true,rfl,Walks.list hd s.heap.objs.size p hne its.toArray,⟨⟨_,Heap.get?_push_size _ rfl,rfl,rfl⟩,pl.isList.push _⟩,fun i v s' Q' E' hv hQ=>?_,fun h' tk hk=>?_⟩
 ·have hv':its[i]? =some v:=by simpa using hv
  have hi:i<its.length:=(List.getElem?_eq_some_iff.mp hv').1
  have hi':i<bs.length:=by omega
  have e1:(bs.map V.bl)[i]? =some (V.bl bs[i]):=by simp [hi']
  obtain⟨u,hu,ru⟩:=rv.get e1
  rw [hv']at hu
  cases hu
  have ru':v=Value.bool bs[i]:=ru
  subst ru'
  have e2:bs.getD i true=bs[i]:=by simp [hi']
  have hQ':Q' (bs.getD i true) s':=hQ
  rw [e2]at hQ'
  exact wpAny_truthy_bool hQ'
 ·refine⟨.bl (bs.all id),H,?_,?_,q⟩
  ·exact I.kept (t':=tk) fun b o e=>hk b o (by simp;exact Nat.ne_of_lt (Heap.lt_size e)) (Heap.get?_push_of_some _ e)
  ·show Value.bool _=Value.bool _
   congr 1
   have e:its.toArray.size=bs.length:=by rw [List.size_toArray];omega
   rw [e]
   have:∀l:List Bool,(List.range l.length).all (fun i=>l.getD i true)=l.all id:=by
    intro l
    induction l with
    |nil=>rfl
    |cons b l ih=>
     rw [List.length_cons,pY,List.all_cons, <-ih]
     congr 1
   exact this bs
end
section
variable {X:Cx}
theorem yJ:∀{us:List Value} {ns:List Int},IntsAre us ns->Vals (ns.map V.int) us
 |_,_,.nil=> .nil
 |_,_,.cons i t r=> .cons ⟨t,rfl⟩ (yJ r)
end
section
variable {X:Cx}
theorem yR (f:Nat->Int) (ns:List Int) (h:∀j,j<ns.length->f j=ns.getD j 0):∀n,n<=ns.length->preSum f n=(ns.take n).sum
 |0,_=>by simp [preSum]
 |n+1,hn=>by
  show preSum f n+f n=_
  rw [yR f ns h n (by omega),h n hn,List.take_succ]
  have e:ns[n]? =some (ns.getD n 0):=by simp [show n<ns.length from hn]
  rw [e,List.sum_append]
  simp
theorem vK:∀(ns:List Int) (b:Int),(∀n∈ns,0<=n/\n<=b)->0<=b->∀j,0<=(ns.take j).sum/\(ns.take j).sum<=ns.length*b
 | [],b,_,hb,j=>by simp
 |n::ns,b,h,hb,0=>by
  simp
  exact Int.mul_nonneg (by omega) hb
 |n::ns,b,h,hb,j+1=>by
  have ih:=vK ns b (fun m hm=>h m (List.mem_cons_of_mem _ hm)) hb j
  have hn:=h n List.mem_cons_self
  rw [List.take_succ_cons,List.sum_cons,List.length_cons]
  have:((ns.length+1:Nat):Int)*b=ns.length*b+b:=by rw [Int.natCast_add,Int.add_mul];simp
  rw [this]
  omega
def aS0 (K:PySem.W.Frag):List V->Hp->VK->Prop:=fun xs H Q=>∃(p:Addr) (ns:List Int),xs=[.ref p]/\SqL K H p (ns.map V.int)/\ns.length<=1000/\(∀n∈ns,0<=n/\n<=1000)/\Q (.int ns.sum) H
theorem aJ5 (hc:X.calm=true):dU X (.builtin "sum") (aS0 X.K):=by
 intro pins s σ H xs us Q I r h
 obtain⟨p,ns,rfl,hq,hln,hb,q⟩:=h
 obtain⟨u,rfl,ru⟩:=vals1 r
 cases ru
 obtain⟨its,rv,pl,hz⟩:=I.list hq
 have hi:IntsAre its ns:=intsAre_of rv
 obtain⟨ys,e⟩:=hi.allInts.items
 have hns:ns=ys.toList.map (·.1):=by
  rw [<-hi.numsOf, <-nums_intItems, <-e]
 have hsz:ys.size=ns.length:=by rw [hns,List.length_map,Array.length_toList]
 have hl:=pl.isList
 rw [e]at hl
 have hat:∀j,j<ns.length->numAt ys j=ns.getD j 0:=fun j hj=>by
  rw [numAt_eq,hns]
 have hps:∀n,n<=ns.length->preSum (numAt ys) n=(ns.take n).sum:=yR _ _ hat
 have hsum:=vK ns 1000 hb (by decide)
 have hbig:(ns.length:Int)*1000<=1000000:=by omega
 refine sum_intList (I.ok.hd hc) hl (fun j hj=>⟨?_,?_⟩) fun h' tk t' hk=>?_
 ·have hj':j<ns.length:=by omega
  rw [hat j hj']
  have:=hb (ns.getD j 0) (by simp [hj'])
  exact⟨by omega,by omega⟩
 ·rw [hps (j+1) (by omega)]
  have:=hsum (j+1)
  exact⟨by omega,by omega⟩
 ·refine⟨.int _,H,I.kept (t':=tk) hk,⟨t',rfl⟩,?_⟩
  rw [hsz,hps _ (Nat.le_refl _),List.take_length]
  exact q
end
section
variable {prog:Program} {w:World} {A:Around}
theorem aHi (x d:Value):argsOk "max" ⟨[x],[(Str.ofString "default",d)]⟩:=by
 unfold argsOk
 kernel_rfl
def aQ9 (num:Nat->Int) (P:Nat->Value->Prop) (j:Nat):Option (Nat×Value)->Prop
 |none=>j=0
 |some (i,v)=>i<j/\P i v/\∀t,t<j->num t<=num i
def aGq (o:Option (Nat×Value)):Array Value:=match o with
 |none=> #[]
 |some (_,v)=> #[v,v]
theorem xF {It Bx:Addr} {fp wr:List Addr} {n:Nat} {P:Nat->Value->Prop} {St:Nat->Heap->Prop} {R:Result->Shared->Prop} {d:Value} {num:Nat->Int} (W:Walks prog w A.in1 It fp wr n P St) (cm:CmpOf prog w A.in1 .Gt P (fun i j=>decide (num i>num j))) (apart:Bx∉fp):
  ∀(k j:Nat) (s:Shared) (o:Option (Nat×Value)) (c:Nat),n=j+k->St j s.heap->aQ9 num P j o->s.heap.get? Bx=some {cls:= .type "list",dict:=none,data:= .seq (aGq o) c,slots:= #[]}->
   (∀v h' tk,(n=0/\v=d∨∃o',o'=some v/\∃i,aQ9 num P n (some (i,v)))->(∀b ob,b∉wr->b≠Bx->s.heap.get? b=some ob->h'.get? b=some ob)->R (.ok (.ret v)) {s with heap:=h',toks:=tk})->
   codeAny (model prog w) A (.builtin "max.loop" ⟨[.ref It,.none,.ref Bx],[("default",d)]⟩) R s
 |0,j,s,o,c,en,at_,top,hS,fin=>by
  have outw:Bx∉wr:=fun z=>apart (W.sub _ z)
  cases en
  refine codeAny_builtin F.entry_max_loop ?_
  rw [Around.under_plainId F.plain_max_loop _]
  show wpAny _ A.in1 (seqItems? (.ref Bx)>>=_) _ _ s
  refine wpAny_bind (wpAny_seqItems hS rfl ?_)
  show wpAny _ A.in1 (tryCatch (pyNext (.ref It)) _>>=_) _ _ s
  refine wpAny_bind (wpAny_tryCatch (W.done s _ _ at_ fun h' tk kept=>?_))
  have hS2:=kept Bx _ outw hS
  cases o with
  |none=>
   have z:j=0:=top
   show wpAny _ A.in1 (rule _>>=_) _ _ _
   exact wpAny_bind (wpAny_rule (wpAny_pure (fin d h' tk (.inl ⟨z,rfl⟩) fun b ob h1 _ h3=>kept b ob h1 h3)))
  |some q=>
   show wpAny _ A.in1 (updateSeq Bx (fun _=> #[])>>=_) _ _ _
   refine wpAny_bind (wpAny_updateSeq (hz:=by show 2<=sizeLine;decide) hS2 rfl (wpAny_bind (wpAny_letGo (wpAny_pure (fin q.2 _ tk (.inr ⟨_,rfl,q.1,top⟩) fun b ob h1 h2 h3=>?_)))))
   exact(Heap.get?_update_other _ _ (Ne.symm h2)).trans (kept b ob h1 h3)
 |k+1,j,s,o,c,en,at_,top,hS,fin=>by
  have outw:Bx∉wr:=fun z=>apart (W.sub _ z)
  have more:j<n:=by omega
  have nm:(toString "max"++toString ".loop":String)="max.loop":=by decide
  refine codeAny_builtin F.entry_max_loop ?_
  rw [Around.under_plainId F.plain_max_loop _]
  show wpAny _ A.in1 (seqItems? (.ref Bx)>>=_) _ _ s
  refine wpAny_bind (wpAny_seqItems hS rfl ?_)
  show wpAny _ A.in1 (tryCatch (pyNext (.ref It)) _>>=_) _ _ s
  refine wpAny_bind (wpAny_tryCatch (W.item j s _ _ more at_ fun v h' tk pv at2 kept=>?_))
  have hS2:=kept Bx _ outw hS
  have step:∀(o2:Option (Nat×Value)) (c2:Nat) (h2:Heap) (t2:Nat),aQ9 num P (j+1) o2->h2.get? Bx=some {cls:= .type "list",dict:=none,data:= .seq (aGq o2) c2,slots:= #[]}->(∀b ob,b≠Bx->h'.get? b=some ob->h2.get? b=some ob)->
    codeAny (model prog w) A (.builtin "max.loop" ⟨[.ref It,.none,.ref Bx],[("default",d)]⟩) R {s with heap:=h2,toks:=t2}:=fun o2 c2 h2 t2 top2 hS3 k2=>by
   refine xF W cm apart k (j+1) {s with heap:=h2,toks:=t2} o2 c2 (by omega) (W.frame _ _ _ at2 fun b hb ob e=>k2 b ob (fun z=>apart (z▸hb)) e) top2 hS3 fun v3 h3 t3 r3 k3=>?_
   exact fin v3 h3 t3 r3 fun b ob a1 a2 a3=>k3 b ob a1 a2 (k2 b ob a2 (kept b ob a1 a3))
  cases o with
  |none=>
   have z:j=0:=top
   subst z
   show wpAny _ A.in1 (updateSeq Bx (fun _=> #[v,v])>>=_) _ _ _
   refine wpAny_bind (wpAny_updateSeq hS2 rfl ?_)
   rw [nm]
   refine wpAny_pure ⟨plainId_quiet F.plain_max_loop _,step (some (0,v)) _ _ _ ⟨Nat.one_pos,pv,fun t ht=>?_⟩ (Heap.get?_update_self _ hS2 rfl) fun b ob hb e=>(Heap.get?_update_other _ _ (Ne.symm hb)).trans e⟩
   have:t=0:=by omega
   subst this
   exact Int.le_refl _
  |some q=>
   obtain⟨i,vb⟩:=q
   obtain⟨hi,pb,best⟩:=top
   show wpAny _ A.in1 (tryCatch (holding [v,v] (richCompare .Gt v vb>>=_)) _>>=_) _ _ _
   refine wpAny_bind (wpAny_tryCatch (wpAny_holding (wpAny_bind (cm j i v vb _ _ _ pv pb ?_))))
   refine wpAny_bind (wpAny_holding (wpAny_truthy_bool (wpAny_bind (wpAny_letGo (wpAny_pure ?_)))))
   dsimp only
   by_cases hb:num j>num i
   ·rw [decide_eq_true hb,if_pos rfl]
    refine wpAny_bind (wpAny_updateSeq (hz:=by show 2<=sizeLine;decide) hS2 rfl (wpAny_bind (wpAny_letGo ?_)))
    rw [nm]
    refine wpAny_pure ⟨plainId_quiet F.plain_max_loop _,step (some (j,v)) _ _ _ ⟨Nat.lt_succ_self j,pv,fun t ht=>?_⟩ (Heap.get?_update_self _ hS2 rfl) fun b ob hb e=>(Heap.get?_update_other _ _ (Ne.symm hb)).trans e⟩
    by_cases ht2:t<j
    ·have:=best t ht2;omega
    ·have:t=j:=by omega
     subst this
     exact Int.le_refl _
   ·rw [decide_eq_false hb,if_neg Bool.false_ne_true]
    refine wpAny_bind (wpAny_letGo ?_)
    rw [nm]
    refine wpAny_pure ⟨plainId_quiet F.plain_max_loop _,step (some (i,vb)) _ _ _ ⟨by omega,pb,fun t ht=>?_⟩ hS2 fun b ob _ e=>e⟩
    by_cases ht2:t<j
    ·exact best t ht2
    ·have:t=j:=by omega
     subst this
     omega
end
section
variable {prog:Program} {w:World} {A:Around}
end
def aK9 (X:Cx) (f:Value) (ks:List Str) (r:List V->List V->Hp->VK->Prop):Prop:=
 ∀(pins:List (Addr×Obj)) (s:Shared) (σ:St) (H:Hp) (xs ys:List V) (us ws:List Value) (Q:VK),Inv X pins σ H s->Vals xs us->Vals ys ws->r xs ys H Q->wpAny (model X.prog X.w) X.A (call f us (ks.zip ws)) (EP X pins σ Q) X.xe s
def aTx (r:List V->List V->Hp->VK->Prop) (t tk:TA):TE:=fun σ H Q=>t σ H fun xs H1=>tk σ H1 fun ys H2=>r xs ys H2 Q
theorem aHh {X:Cx} {x:Str} {id:String} {ks:List Str} {r:List V->List V->Hp->VK->Prop} {e:Expr} {es:List Expr} {kws:List Keyword} {t tk:TA} {p pos:Pos} (hc:aK9 X (.builtin id) ks r) (hg:Gl X x) (hm:X.mg x=none) (hv:bootBuiltins x=some (.builtin id)) (ha:PA X (e::es) t) (hkw:PK X kws tk)
  (hall:(backToKw pos (keywordEach kws X.env)).all (·.1.isSome)=true:=by rfl) (hks:(backToKw pos (keywordEach kws X.env)).filterMap (·.1)=ks:=by rfl) (hn:x≠"__name__":=by decide) (hdb:(x==("__debug__":Str))=false:=by decide)
  (he:starEach (e::es) X.env=(false,eval e X.env)::starEach es X.env:=by rfl) (hpl:(backTo pos (starEach (e::es) X.env)).any (·.1)=false:=by rfl) (hpk:(backToKw pos (keywordEach kws X.env)).any (·.1.isNone)=false:=by rfl):PE X (.Call (.Name x p) (e::es) kws pos) (aTx r t tk):=by
 intro pins s σ H Q I h
 refine wpAny_Call_Name_kw (rZ I hg hm hv ?_ hn hdb)
 refine PyProof.Rows.callWith_kw (thn (ha pos pins s σ H _ I h) fun us s1 ⟨vs,H1,I1,r1,q1⟩=>?_) (by rw [he];rfl) hpl hall hpk
 refine thn (hkw pos pins s1 σ H1 _ I1 q1) fun ws s2 ⟨zs,H2,I2,rz,q2⟩=>?_
 rw [hks]
 exact hc pins s2 σ H2 vs zs us ws Q I2 r1 rz q2
def aTd (K:PySem.W.Frag):List V->List V->Hp->VK->Prop:=fun xs ys H Q=>∃p ns d,xs=[.ref p]/\ys=[d]/\SqL K H p (ns.map V.int)/\(ns=[]->Q d H)/\∀m:Int,m∈ns->(∀a∈ns,a<=m)->Q (.int m) H
theorem aH3 {X:Cx} (hc:X.calm=true):aK9 X (.builtin "max") ["default"] (aTd X.K):=by
 intro pins s σ H xs ys us ws Q I r rk h
 obtain⟨p,ns,d,rfl,rfl,hq,q0,q1⟩:=h
 obtain⟨u,rfl,ru⟩:=vals1 r
 obtain⟨dv,rfl,rd⟩:=vals1 rk
 cases ru
 obtain⟨its,rv,pl,hz⟩:=I.list hq
 have hi:IntsAre its ns:=intsAre_of rv
 obtain⟨ys,e⟩:=hi.allInts.items
 have hns:ns=ys.toList.map (·.1):=by rw [<-hi.numsOf, <-nums_intItems, <-e]
 have hl:=pl.isList
 rw [e]at hl
 have nm:(toString "max"++toString ".loop":String)="max.loop":=by decide
 refine kmb_tree F.kind_max F.plain_max F.entry_max (aHi _ _) ?_
 show wpAny _ X.A.in1 (Builtin.Builtins.bindParams "max" ["key","default"] 0 ⟨[],[(Str.ofString "default",dv)]⟩>>=_) _ _ s
 refine wpAny_bind (wpAny_of_eq (show Builtin.Builtins.bindParams "max" ["key","default"] 0 ⟨[],[(Str.ofString "default",dv)]⟩=pure [none,some dv] by rfl) (wpAny_bind (wpAny_pure ?_)))
 refine wpAny_bind (iter_intList hl fun s₂ es st hfp hlI=>?_)
 refine wpAny_bind (wpAny_newObj_type ?_)
 have apart:s₂.heap.objs.size∉[s.heap.objs.size,p]:=fun z=>Nat.lt_irrefl _ (hfp _ z)
 rw [nm]
 have W:=Walks.list (prog:=X.prog) (w:=X.w) (A:=X.A.in1) (I.ok.hd hc) s.heap.objs.size p hlI (intItems ys)
 refine wpAny_pure ⟨plainId_quiet F.plain_max_loop _,xF W (CmpOf.ints_gt (numAt ys) (fun _ _=>intItems_at)) apart _ 0 _ none _ (by rw [Nat.zero_add]) (W.frame _ _ _ st fun b _ o eb=>Heap.get?_push_of_some _ eb) rfl (Heap.get?_push_size _ rfl) fun v h' tk res kept=>?_⟩
 subst es
 have old:∀b o,s.heap.get? b=some o->h'.get? b=some o:=fun b o eb=>by
  have lt:=Heap.lt_size eb
  refine kept b o (fun z=>?_) (fun z=>?_) (Heap.get?_push_of_some _ (Heap.get?_push_of_some _ eb))
  ·have z':=List.mem_singleton.mp z
   exact absurd lt (by rw [z'];exact Nat.lt_irrefl _)
  ·rw [Heap.size_push]at z
   exact absurd lt (by rw [z];exact Nat.not_lt.mpr (Nat.le_succ _))
 rcases res with ⟨n0,rfl⟩|⟨_,_,i,hin,pv,best⟩
 ·refine⟨d,H,I.kept (t':=tk) old,rd,q0 ?_⟩
  rw [hns]
  have:ys.size=0:=by simpa [intItems]using n0
  rw [List.map_eq_nil_iff, <-Array.length_toList]at*
  exact List.eq_nil_of_length_eq_zero (by rw [Array.length_toList];exact this)
 ·obtain⟨t,rfl⟩:=intItems_at (by simpa [intItems]using pv)
  have hin':i<ys.size:=by simpa [intItems]using hin
  refine⟨.int _,H,I.kept (t':=tk) old,⟨t,rfl⟩,q1 _ ?_ fun a ha=>?_⟩
  ·rw [hns,numAt_eq]
   exact getD_mem (by rw [List.length_map,Array.length_toList];omega)
  ·rw [hns]at ha
   obtain⟨j,hj,rfl⟩:=mem_getD ha
   rw [List.length_map,Array.length_toList]at hj
   have:=best j (by simpa [intItems]using hj)
   rw [<-numAt_eq]
   exact this
inductive D where
 |fl (x:V)
 |tp (l:List D)
 |ls (l:List D)
mutual
def Den (K:PySem.W.Frag) (H:Hp):D->V->Prop
 | .fl x,v=>v=x/\iM x=true
 | .tp l,v=>∃a xs,v= .ref a/\SqT K H a xs/\uN K H l xs
 | .ls l,v=>∃a xs,v= .ref a/\SqL K H a xs/\uN K H l xs
def uN (K:PySem.W.Frag) (H:Hp):List D->List V->Prop
 | [],xs=>xs=[]
 |d::l,xs=>∃x r,xs=x::r/\Den K H d x/\uN K H l r
end
mutual
def D.eq:D->D->Bool
 | .fl x,.fl y=>eqV x y
 | .tp l,.tp m=>D.eqs l m
 | .ls l,.ls m=>D.eqs l m
 |_,_=>false
def D.eqs:List D->List D->Bool
 | [],[]=>true
 |x::l,y::m=>D.eq x y && D.eqs l m
 |_,_=>false
end
mutual
def D.dep:D->Nat
 | .fl _=>0
 | .tp l=>D.deps l+1
 | .ls l=>D.deps l+1
def D.deps:List D->Nat
 | []=>0
 |x::l=>max (D.dep x) (D.deps l)
end
section
variable {X:Cx} {pins:List (Addr×Obj)} {σ:St} {H:Hp} {s:Shared}
theorem Inv.not_both {a:Addr} {xs ys:List V} (I:Inv X pins σ H s) (h:SqL X.K H a xs) (h':SqT X.K H a ys):False:=by
 obtain⟨its,r1,p1,_⟩:=I.list h
 obtain⟨its2,r2,p2,_⟩:=I.tuple h'
 obtain⟨o,ho,hc,_⟩:=p1.isList
 obtain⟨o2,ho2,hc2,_⟩:=p2
 rw [ho]at ho2
 cases ho2
 rw [hc]at hc2
 simp at hc2
mutual
theorem xQ (I:Inv X pins σ H s):∀(d e:D) {v:V},Den X.K H d v->Den X.K H e v->d.eq e=true
 | .fl x,.fl y,v,h,h'=>by
  obtain⟨rfl,f⟩:=h
  obtain⟨rfl,_⟩:=h'
  rw [D.eq]
  exact aDt f
 | .fl x,.tp m,v,h,h'=>by
  obtain⟨rfl,f⟩:=h
  obtain⟨a,xs,rfl,_⟩:=h'
  exact absurd (show false=true from f) Bool.false_ne_true
 | .fl x,.ls m,v,h,h'=>by
  obtain⟨rfl,f⟩:=h
  obtain⟨a,xs,rfl,_⟩:=h'
  exact absurd (show false=true from f) Bool.false_ne_true
 | .tp l,.fl x,v,h',h=>by
  obtain⟨rfl,f⟩:=h
  obtain⟨a,xs,rfl,_⟩:=h'
  exact absurd (show false=true from f) Bool.false_ne_true
 | .ls l,.fl x,v,h',h=>by
  obtain⟨rfl,f⟩:=h
  obtain⟨a,xs,rfl,_⟩:=h'
  exact absurd (show false=true from f) Bool.false_ne_true
 | .tp l,.tp m,v,h,h'=>by
  obtain⟨a,xs,rfl,h1,h2⟩:=h
  obtain⟨b,ys,e,h3,h4⟩:=h'
  cases e
  rw [I.tuple_inj h3 h1]at h4
  rw [D.eq]
  exact uY I l m h2 h4
 | .ls l,.ls m,v,h,h'=>by
  obtain⟨a,xs,rfl,h1,h2⟩:=h
  obtain⟨b,ys,e,h3,h4⟩:=h'
  cases e
  rw [I.list_inj h3 h1]at h4
  rw [D.eq]
  exact uY I l m h2 h4
 | .tp l,.ls m,v,h,h'=>by
  obtain⟨a,xs,rfl,h1,h2⟩:=h
  obtain⟨b,ys,e,h3,h4⟩:=h'
  cases e
  exact(I.not_both h3 h1).elim
 | .ls l,.tp m,v,h,h'=>by
  obtain⟨a,xs,rfl,h1,h2⟩:=h
  obtain⟨b,ys,e,h3,h4⟩:=h'
  cases e
  exact(I.not_both h1 h3).elim
theorem uY (I:Inv X pins σ H s):∀(l m:List D) {xs:List V},uN X.K H l xs->uN X.K H m xs->D.eqs l m=true
 | [],[],xs,h,h'=>by rw [D.eqs]
 | [],_::_,xs,h,h'=>by
  obtain⟨x,r,rfl,_⟩:=h'
  cases (show(x::r)=[]from h)
 |_::_,[],xs,h',h=>by
  obtain⟨x,r,rfl,_⟩:=h'
  cases (show(x::r)=[]from h)
 |d::l,e::m,xs,h,h'=>by
  obtain⟨x,r,rfl,h1,h2⟩:=h
  obtain⟨y,r',q,h3,h4⟩:=h'
  cases q
  rw [D.eqs,xQ I d e h1 h3,uY I l m h2 h4]
  rfl
end
mutual
theorem aI9 (I:Inv X pins σ H s):∀(d e:D) {v v':V} {u u':Value} {A:Around},RelV v u->RelV v' u'->Den X.K H d v->Den X.K H e v'->A.units+d.dep+e.dep<cLine->SeqAt.EqAt A s u u' (d.eq e)
 | .fl x,.fl y,v,v',u,u',A,r,r',h,h',hu=>by
  obtain⟨rfl,f⟩:=h
  obtain⟨rfl,f'⟩:=h'
  rw [D.eq]
  exact aLe r r' f f'
 | .fl x,.tp m,v,v',u,u',A,r,r',h,h',hu=>by
  obtain⟨rfl,f⟩:=h
  obtain⟨a,xs,rfl,hb,_⟩:=h'
  cases r'
  obtain⟨its2,r2,p2,_⟩:=I.tuple hb
  rw [show D.eq (.fl v) (.tp m)=false by simp [D.eq]]
  have hu':A.units<cLine:=by omega
  cases v with
  |non=>cases r;exact SeqAt.EqAt.none_tuple p2 hu'
  |bl c=>cases r;exact SeqAt.EqAt.bool_tuple c p2 hu'
  |int c=>obtain⟨t,rfl⟩:=r;exact SeqAt.EqAt.int_tuple c t p2 hu'
  |str c=>obtain⟨t,rfl⟩:=r;exact SeqAt.EqAt.str_tuple c t p2 hu'
  |_=>exact absurd (show false=true from f) Bool.false_ne_true
 | .fl x,.ls m,v,v',u,u',A,r,r',h,h',hu=>by
  obtain⟨rfl,f⟩:=h
  obtain⟨a,xs,rfl,hb,_⟩:=h'
  cases r'
  obtain⟨its2,r2,p2,_⟩:=I.list hb
  rw [show D.eq (.fl v) (.ls m)=false by simp [D.eq]]
  have hu':A.units<cLine:=by omega
  cases v with
  |non=>cases r;exact SeqAt.EqAt.none_list p2.isList hu'
  |bl c=>cases r;exact SeqAt.EqAt.bool_list c p2.isList hu'
  |int c=>obtain⟨t,rfl⟩:=r;exact SeqAt.EqAt.int_list c t p2.isList hu'
  |str c=>obtain⟨t,rfl⟩:=r;exact SeqAt.EqAt.str_list c t p2.isList hu'
  |_=>exact absurd (show false=true from f) Bool.false_ne_true
 | .tp l,.fl x,v',v,u',u,A,r',r,h',h,hu=>by
  obtain⟨rfl,f⟩:=h
  obtain⟨a,xs,rfl,hb,_⟩:=h'
  cases r'
  obtain⟨its2,r2,p2,_⟩:=I.tuple hb
  rw [show D.eq (.tp l) (.fl v)=false by simp [D.eq]]
  have hu':A.units<cLine:=by omega
  cases v with
  |non=>cases r;exact SeqAt.EqAt.tuple_none p2 hu'
  |bl c=>cases r;exact SeqAt.EqAt.tuple_bool c p2 hu'
  |int c=>obtain⟨t,rfl⟩:=r;exact SeqAt.EqAt.tuple_int c t p2 hu'
  |str c=>obtain⟨t,rfl⟩:=r;exact SeqAt.EqAt.tuple_str c t p2 hu'
  |_=>exact absurd (show false=true from f) Bool.false_ne_true
 | .ls l,.fl x,v',v,u',u,A,r',r,h',h,hu=>by
  obtain⟨rfl,f⟩:=h
  obtain⟨a,xs,rfl,hb,_⟩:=h'
  cases r'
  obtain⟨its2,r2,p2,_⟩:=I.list hb
  rw [show D.eq (.ls l) (.fl v)=false by simp [D.eq]]
  have hu':A.units<cLine:=by omega
  cases v with
  |non=>cases r;exact SeqAt.EqAt.list_none p2.isList hu'
  |bl c=>cases r;exact SeqAt.EqAt.list_bool c p2.isList hu'
  |int c=>obtain⟨t,rfl⟩:=r;exact SeqAt.EqAt.list_int c t p2.isList hu'
  |str c=>obtain⟨t,rfl⟩:=r;exact SeqAt.EqAt.list_str c t p2.isList hu'
  |_=>exact absurd (show false=true from f) Bool.false_ne_true
 | .tp l,.ls m,v,v',u,u',A,r,r',h,h',hu=>by
  obtain⟨a,xs,rfl,h1,_⟩:=h
  obtain⟨b,ys,rfl,h3,_⟩:=h'
  cases r
  cases r'
  obtain⟨its,r1,p1,_⟩:=I.tuple h1
  obtain⟨its2,r2,p2,_⟩:=I.list h3
  rw [show D.eq (.tp l) (.ls m)=false by simp [D.eq]]
  exact SeqAt.EqAt.tuple_list p1 p2.isList (by omega)
 | .ls l,.tp m,v,v',u,u',A,r,r',h,h',hu=>by
  obtain⟨a,xs,rfl,h1,_⟩:=h
  obtain⟨b,ys,rfl,h3,_⟩:=h'
  cases r
  cases r'
  obtain⟨its,r1,p1,_⟩:=I.list h1
  obtain⟨its2,r2,p2,_⟩:=I.tuple h3
  rw [show D.eq (.ls l) (.tp m)=false by simp [D.eq]]
  exact SeqAt.EqAt.list_tuple p1.isList p2 (by omega)
 | .tp l,.tp m,v,v',u,u',A,r,r',h,h',hu=>by
  by_cases hab:v=v'
  ·subst hab
   rw [xQ I _ _ h h']
   rw [show u'=u from by obtain⟨a,xs,rfl,_⟩:=h;cases r;cases r';rfl]
   exact SeqAt.EqAt.same _
  ·obtain⟨a,xs,rfl,h1,h2⟩:=h
   obtain⟨b,ys,rfl,h3,h4⟩:=h'
   cases r
   cases r'
   obtain⟨its,r1,p1,_⟩:=I.tuple h1
   obtain⟨its2,r2,p2,_⟩:=I.tuple h3
   rw [D.dep,D.dep]at hu
   obtain⟨e,he,ee⟩:=uD (A:=A.in1) I l m r1 r2 h2 h4 (by show A.units+1+_+_<_;omega)
   have key:=SeqAt.RcAt.tuples (A:=A) (s:=s) (l:=a) (b:=b) (items:=its.toArray) (items2:=its2.toArray) (e:=e) p1 p2 (by omega) (fun j g1 g2=>by
    have:=he j (by simpa using g1) (by simpa using g2)
    simpa using this)
   rw [List.size_toArray,List.size_toArray,ee]at key
   rw [D.eq]
   exact SeqAt.EqAt.of_refs (fun z=>hab (by rw [z])) key
 | .ls l,.ls m,v,v',u,u',A,r,r',h,h',hu=>by
  by_cases hab:v=v'
  ·subst hab
   rw [xQ I _ _ h h']
   rw [show u'=u from by obtain⟨a,xs,rfl,_⟩:=h;cases r;cases r';rfl]
   exact SeqAt.EqAt.same _
  ·obtain⟨a,xs,rfl,h1,h2⟩:=h
   obtain⟨b,ys,rfl,h3,h4⟩:=h'
   cases r
   cases r'
   obtain⟨its,r1,p1,_⟩:=I.list h1
   obtain⟨its2,r2,p2,_⟩:=I.list h3
   rw [D.dep,D.dep]at hu
   obtain⟨e,he,ee⟩:=uD (A:=A.in1) I l m r1 r2 h2 h4 (by show A.units+1+_+_<_;omega)
   rw [D.eq]
   refine SeqAt.EqAt.of_refs (fun z=>hab (by rw [z])) ?_
   by_cases hz:its.toArray.size=its2.toArray.size
   ·have key:=SeqAt.RcAt.lists (A:=A) (s:=s) (l:=a) (b:=b) (items:=its.toArray) (items2:=its2.toArray) (e:=e) p1.isList p2.isList hz (by omega) (fun j g1 g2=>by
     have:=he j (by simpa using g1) (by simpa using g2)
     simpa using this)
    rw [List.size_toArray,List.size_toArray]at hz
    rw [<-hz,Nat.min_self,beq_self_eq_true,Bool.and_true]at ee
    rw [List.size_toArray,ee]at key
    exact key
   ·have hb':(its.length==its2.length)=false:=by simpa using hz
    rw [hb',Bool.and_false]at ee
    rw [<-ee]
    exact SeqAt.RcAt.lists_lengths p1.isList p2.isList (by simpa using hz) (by omega)
theorem uD (I:Inv X pins σ H s) {A:Around}:∀(l m:List D) {xs ys:List V} {us ws:List Value},Vals xs us->Vals ys ws->uN X.K H l xs->uN X.K H m ys->A.units+D.deps l+D.deps m<cLine->
  ∃e:Nat->Bool,(∀j (h1:j<us.length) (h2:j<ws.length),SeqAt.EqAt A s us[j] ws[j] (e j))/\((List.range (min us.length ws.length)).all e && us.length==ws.length)=D.eqs l m
 | [],m,xs,ys,us,ws,r,r',h,h',hu=>by
  cases (show xs=[]from h)
  cases r
  refine⟨fun _=>true,fun j h1 _=>absurd h1 (Nat.not_lt_zero j),?_⟩
  cases m with
  |nil=>cases (show ys=[]from h');cases r';rw [D.eqs];rfl
  |cons e m=>
   obtain⟨y,t,rfl,_⟩:=h'
   cases r'
   simp [D.eqs]
 |d::l,[],xs,ys,us,ws,r,r',h,h',hu=>by
  obtain⟨x,t,rfl,_⟩:=h
  cases (show ys=[]from h')
  cases r
  cases r'
  exact⟨fun _=>true,fun j _ h1=>absurd h1 (Nat.not_lt_zero j),by simp [D.eqs]⟩
 |d::l,e::m,xs,ys,us,ws,r,r',h,h',hu=>by
  obtain⟨x,t,rfl,h1,h2⟩:=h
  obtain⟨y,t',rfl,h3,h4⟩:=h'
  cases r with
  |@cons _ u0 _ us0 ru rus=>
  cases r' with
  |@cons _ w0 _ ws0 rw0 rws=>
  have hu1:A.units+d.dep+e.dep<cLine:=by
   rw [D.deps,D.deps]at hu
   have:=Nat.le_max_left d.dep (D.deps l)
   have:=Nat.le_max_left e.dep (D.deps m)
   omega
  have hu2:A.units+D.deps l+D.deps m<cLine:=by
   rw [D.deps,D.deps]at hu
   have:=Nat.le_max_right d.dep (D.deps l)
   have:=Nat.le_max_right e.dep (D.deps m)
   omega
  have E0:=aI9 I d e (A:=A) ru rw0 h1 h3 hu1
  obtain⟨e',he,ee⟩:=uD I l m rus rws h2 h4 hu2
  refine⟨fun j=>match j with|0=>d.eq e|j+1=>e' j,fun j g1 g2=>?_,?_⟩
  ·cases j with
   |zero=>exact E0
   |succ j=>exact he j (by simpa using g1) (by simpa using g2)
  ·have hmin:min (u0::us0).length (w0::ws0).length=min us0.length ws0.length+1:=by
    rw [List.length_cons,List.length_cons]
    omega
   rw [hmin,pY,D.eqs, <-ee]
   show(d.eq e && (List.range (min us0.length ws0.length)).all e' && _)=_
   rw [Bool.and_assoc]
   congr 2
   rw [Bool.eq_iff_iff]
   simp
end
end
theorem aQu {A:Around} {s:Shared} {y x:V} {u v:Value} (ry:RelV y u) (rx:RelV x v) (fy:iM y=true) (fx:iM x=true):SeqAt.RcAt A s u v (eqV y x)/\SeqAt.RcNeAt A s u v (!eqV y x):=by
 cases y<;>first|exact absurd (show false=true from fy) Bool.false_ne_true|(cases x<;>first|exact absurd (show false=true from fx) Bool.false_ne_true|skip)
 all_goals first|obtain⟨t1,rfl⟩:=ry|cases ry
 all_goals first|obtain⟨t2,rfl⟩:=rx|cases rx
 ·exact⟨.none_none,.none_none⟩
 ·exact⟨.none_bool _,.none_bool _⟩
 ·exact⟨.none_int _ _,.none_int _ _⟩
 ·exact⟨.none_str _ _,.none_str _ _⟩
 ·exact⟨.bool_none _,.bool_none _⟩
 ·exact⟨.bool_bool _ _,.bool_bool _ _⟩
 ·exact⟨.bool_int _ _ _,.bool_int _ _ _⟩
 ·exact⟨.bool_str _ _ _,.bool_str _ _ _⟩
 ·exact⟨.int_none _ _,.int_none _ _⟩
 ·exact⟨.int_bool _ _ _,.int_bool _ _ _⟩
 ·exact⟨.int_int _ _ _ _,.int_int _ _ _ _⟩
 ·exact⟨.int_str _ _ _ _,.int_str _ _ _ _⟩
 ·exact⟨.str_none _ _,.str_none _ _⟩
 ·exact⟨.str_bool _ _ _,.str_bool _ _ _⟩
 ·exact⟨.str_int _ _ _ _,.str_int _ _ _ _⟩
 ·exact⟨.str_str _ _ _ _,.str_str _ _ _ _⟩
section
variable {X:Cx} {pins:List (Addr×Obj)} {σ:St} {H:Hp} {s:Shared}
theorem aLj (I:Inv X pins σ H s) (d e:D) {v v':V} {u u':Value} {A:Around} (r:RelV v u) (r':RelV v' u') (h:Den X.K H d v) (h':Den X.K H e v') (hu:A.units+d.dep+e.dep<cLine):
  SeqAt.RcAt A s u u' (d.eq e)/\SeqAt.RcNeAt A s u u' (!d.eq e):=by
 have hu':A.units<cLine:=by omega
 match d,e,h,h',hu with
 | .fl x,.fl y,h,h',hu=>
  obtain⟨rfl,f⟩:=h
  obtain⟨rfl,f'⟩:=h'
  rw [D.eq]
  exact aQu r r' f f'
 | .fl x,.tp m,h,h',hu=>
  obtain⟨rfl,f⟩:=h
  obtain⟨a,xs,rfl,hb,_⟩:=h'
  cases r'
  obtain⟨its2,r2,p2,_⟩:=I.tuple hb
  rw [show D.eq (.fl v) (.tp m)=false by simp [D.eq]]
  cases v with
  |non=>cases r;exact⟨.none_tuple p2 hu',.none_tuple p2 hu'⟩
  |bl c=>cases r;exact⟨.bool_tuple c p2 hu',.bool_tuple c p2 hu'⟩
  |int c=>obtain⟨t,rfl⟩:=r;exact⟨.int_tuple c t p2 hu',.int_tuple c t p2 hu'⟩
  |str c=>obtain⟨t,rfl⟩:=r;exact⟨.str_tuple c t p2 hu',.str_tuple c t p2 hu'⟩
  |_=>exact absurd (show false=true from f) Bool.false_ne_true
 | .fl x,.ls m,h,h',hu=>
  obtain⟨rfl,f⟩:=h
  obtain⟨a,xs,rfl,hb,_⟩:=h'
  cases r'
  obtain⟨its2,r2,p2,_⟩:=I.list hb
  rw [show D.eq (.fl v) (.ls m)=false by simp [D.eq]]
  have p2:=p2.isList
  cases v with
  |non=>cases r;exact⟨.none_list p2 hu',.none_list p2 hu'⟩
  |bl c=>cases r;exact⟨.bool_list c p2 hu',.bool_list c p2 hu'⟩
  |int c=>obtain⟨t,rfl⟩:=r;exact⟨.int_list c t p2 hu',.int_list c t p2 hu'⟩
  |str c=>obtain⟨t,rfl⟩:=r;exact⟨.str_list c t p2 hu',.str_list c t p2 hu'⟩
  |_=>exact absurd (show false=true from f) Bool.false_ne_true
 | .tp m,.fl x,h',h,hu=>
  obtain⟨rfl,f⟩:=h
  obtain⟨a,xs,rfl,hb,_⟩:=h'
  cases r
  obtain⟨its2,r2,p2,_⟩:=I.tuple hb
  rw [show D.eq (.tp m) (.fl v')=false by simp [D.eq]]
  cases v' with
  |non=>cases r';exact⟨.tuple_none p2 hu',.tuple_none p2 hu'⟩
  |bl c=>cases r';exact⟨.tuple_bool c p2 hu',.tuple_bool c p2 hu'⟩
  |int c=>obtain⟨t,rfl⟩:=r';exact⟨.tuple_int c t p2 hu',.tuple_int c t p2 hu'⟩
  |str c=>obtain⟨t,rfl⟩:=r';exact⟨.tuple_str c t p2 hu',.tuple_str c t p2 hu'⟩
  |_=>exact absurd (show false=true from f) Bool.false_ne_true
 | .ls m,.fl x,h',h,hu=>
  obtain⟨rfl,f⟩:=h
  obtain⟨a,xs,rfl,hb,_⟩:=h'
  cases r
  obtain⟨its2,r2,p2,_⟩:=I.list hb
  rw [show D.eq (.ls m) (.fl v')=false by simp [D.eq]]
  have p2:=p2.isList
  cases v' with
  |non=>cases r';exact⟨.list_none p2 hu',.list_none p2 hu'⟩
  |bl c=>cases r';exact⟨.list_bool c p2 hu',.list_bool c p2 hu'⟩
  |int c=>obtain⟨t,rfl⟩:=r';exact⟨.list_int c t p2 hu',.list_int c t p2 hu'⟩
  |str c=>obtain⟨t,rfl⟩:=r';exact⟨.list_str c t p2 hu',.list_str c t p2 hu'⟩
  |_=>exact absurd (show false=true from f) Bool.false_ne_true
 | .tp l,.ls m,h,h',hu=>
  obtain⟨a,xs,rfl,h1,_⟩:=h
  obtain⟨b,ys,rfl,h3,_⟩:=h'
  cases r
  cases r'
  obtain⟨its,r1,p1,_⟩:=I.tuple h1
  obtain⟨its2,r2,p2,_⟩:=I.list h3
  rw [show D.eq (.tp l) (.ls m)=false by simp [D.eq]]
  exact⟨.tuple_list p1 p2.isList hu',.tuple_list p1 p2.isList hu'⟩
 | .ls l,.tp m,h,h',hu=>
  obtain⟨a,xs,rfl,h1,_⟩:=h
  obtain⟨b,ys,rfl,h3,_⟩:=h'
  cases r
  cases r'
  obtain⟨its,r1,p1,_⟩:=I.list h1
  obtain⟨its2,r2,p2,_⟩:=I.tuple h3
  rw [show D.eq (.ls l) (.tp m)=false by simp [D.eq]]
  exact⟨.list_tuple p1.isList p2 hu',.list_tuple p1.isList p2 hu'⟩
 | .tp l,.tp m,h,h',hu=>
  obtain⟨a,xs,rfl,h1,h2⟩:=h
  obtain⟨b,ys,rfl,h3,h4⟩:=h'
  cases r
  cases r'
  obtain⟨its,r1,p1,_⟩:=I.tuple h1
  obtain⟨its2,r2,p2,_⟩:=I.tuple h3
  rw [D.dep,D.dep]at hu
  obtain⟨e,he,ee⟩:=uD (A:=A.in1) I l m r1 r2 h2 h4 (by show A.units+1+_+_<_;omega)
  have hj:∀j (g1:j<its.toArray.size) (g2:j<its2.toArray.size),SeqAt.EqAt A.in1 s its.toArray[j] its2.toArray[j] (e j):=fun j g1 g2=>by
   have:=he j (by simpa using g1) (by simpa using g2)
   simpa using this
  have k1:=SeqAt.RcAt.tuples p1 p2 hu' hj
  have k2:=SeqAt.RcNeAt.tuples p1 p2 hu' hj
  rw [List.size_toArray,List.size_toArray,ee]at k1 k2
  rw [D.eq]
  exact⟨k1,k2⟩
 | .ls l,.ls m,h,h',hu=>
  obtain⟨a,xs,rfl,h1,h2⟩:=h
  obtain⟨b,ys,rfl,h3,h4⟩:=h'
  cases r
  cases r'
  obtain⟨its,r1,p1,_⟩:=I.list h1
  obtain⟨its2,r2,p2,_⟩:=I.list h3
  rw [D.dep,D.dep]at hu
  obtain⟨e,he,ee⟩:=uD (A:=A.in1) I l m r1 r2 h2 h4 (by show A.units+1+_+_<_;omega)
  have hj:∀j (g1:j<its.toArray.size) (g2:j<its2.toArray.size),SeqAt.EqAt A.in1 s its.toArray[j] its2.toArray[j] (e j):=fun j g1 g2=>by
   have:=he j (by simpa using g1) (by simpa using g2)
   simpa using this
  rw [D.eq]
  by_cases hz:its.toArray.size=its2.toArray.size
  ·have k1:=SeqAt.RcAt.lists p1.isList p2.isList hz hu' hj
   have k2:=SeqAt.RcNeAt.lists p1.isList p2.isList hz hu' hj
   rw [List.size_toArray,List.size_toArray]at hz
   rw [<-hz,Nat.min_self,beq_self_eq_true,Bool.and_true]at ee
   rw [List.size_toArray,ee]at k1 k2
   exact⟨k1,k2⟩
  ·have hb':(its.length==its2.length)=false:=by simpa using hz
   rw [hb',Bool.and_false]at ee
   rw [<-ee]
   exact⟨.lists_lengths p1.isList p2.isList (by simpa using hz) hu',.lists_lengths p1.isList p2.isList (by simpa using hz) hu'⟩
theorem Den.inj (I:Inv X pins σ H s):∀(d:D) (e:D) {v:V},Den X.K H d v->Den X.K H e v->d=e:=by
 have key:∀(n:Nat) (d e:D) {v:V},d.dep<=n->Den X.K H d v->Den X.K H e v->d=e:=by
  intro n
  induction n with
  |zero=>
   intro d e v hn h h'
   match d,e,h,h',hn with
   | .fl x,.fl y,h,h',_=>rw [<-h.1, <-h'.1]
   | .fl x,.tp m,h,h',_=>obtain⟨rfl,f⟩:=h;obtain⟨a,xs,rfl,_⟩:=h';exact absurd (show false=true from f) Bool.false_ne_true
   | .fl x,.ls m,h,h',_=>obtain⟨rfl,f⟩:=h;obtain⟨a,xs,rfl,_⟩:=h';exact absurd (show false=true from f) Bool.false_ne_true
   | .tp l,_,_,_,hn=>rw [D.dep]at hn;omega
   | .ls l,_,_,_,hn=>rw [D.dep]at hn;omega
  |succ n ih=>
   have items:∀(l m:List D) {xs:List V},D.deps l<=n->uN X.K H l xs->uN X.K H m xs->l=m:=by
    intro l
    induction l with
    |nil=>
     intro m xs _ h h'
     cases (show xs=[]from h)
     cases m with
     |nil=>rfl
     |cons e m=>obtain⟨y,t,q,_⟩:=h';cases q
    |cons d l il=>
     intro m xs hn h h'
     obtain⟨x,t,rfl,h1,h2⟩:=h
     cases m with
     |nil=>cases (show(x::t)=[]from h')
     |cons e m=>
      obtain⟨y,t',q,h3,h4⟩:=h'
      cases q
      rw [D.deps]at hn
      have a1:=Nat.le_max_left d.dep (D.deps l)
      have a2:=Nat.le_max_right d.dep (D.deps l)
      rw [ih d e (by omega) h1 h3,il m (by omega) h2 h4]
   intro d e v hn h h'
   match d,e,h,h',hn with
   | .fl x,.fl y,h,h',_=>rw [<-h.1, <-h'.1]
   | .fl x,.tp m,h,h',_=>obtain⟨rfl,f⟩:=h;obtain⟨a,xs,rfl,_⟩:=h';exact absurd (show false=true from f) Bool.false_ne_true
   | .fl x,.ls m,h,h',_=>obtain⟨rfl,f⟩:=h;obtain⟨a,xs,rfl,_⟩:=h';exact absurd (show false=true from f) Bool.false_ne_true
   | .tp m,.fl x,h',h,_=>obtain⟨rfl,f⟩:=h;obtain⟨a,xs,rfl,_⟩:=h';exact absurd (show false=true from f) Bool.false_ne_true
   | .ls m,.fl x,h',h,_=>obtain⟨rfl,f⟩:=h;obtain⟨a,xs,rfl,_⟩:=h';exact absurd (show false=true from f) Bool.false_ne_true
   | .tp l,.ls m,h,h',_=>obtain⟨a,xs,rfl,h1,_⟩:=h;obtain⟨b,ys,e,h3,_⟩:=h';cases e;exact(I.not_both h3 h1).elim
   | .ls l,.tp m,h,h',_=>obtain⟨a,xs,rfl,h1,_⟩:=h;obtain⟨b,ys,e,h3,_⟩:=h';cases e;exact(I.not_both h1 h3).elim
   | .tp l,.tp m,h,h',hn=>
    obtain⟨a,xs,rfl,h1,h2⟩:=h
    obtain⟨b,ys,e,h3,h4⟩:=h'
    cases e
    rw [I.tuple_inj h3 h1]at h4
    rw [D.dep]at hn
    rw [items l m (by omega) h2 h4]
   | .ls l,.ls m,h,h',hn=>
    obtain⟨a,xs,rfl,h1,h2⟩:=h
    obtain⟨b,ys,e,h3,h4⟩:=h'
    cases e
    rw [I.list_inj h3 h1]at h4
    rw [D.dep]at hn
    rw [items l m (by omega) h2 h4]
 exact fun d e v h h'=>key _ d e (Nat.le_refl _) h h'
def aP1 (K:PySem.W.Frag) (neg:Bool):R2:=fun x y H Q=>∃d e,Den K H d x/\Den K H e y/\d.dep+e.dep<=100/\Q (.bl (if neg then !d.eq e else d.eq e)) H
theorem uZ (hu:X.A.units+101<cLine):OpR X (compareOp .Eq) (aP1 X.K false):=by
 intro pins s σ H x y v u Q I rx ry h
 obtain⟨d,e,h1,h2,hd,q⟩:=h
 exact(aLj (A:=X.A) I d e rx ry h1 h2 (by omega)).1 _ _ _ _ ⟨.bl _,H,I,rfl,q⟩
theorem zB (hu:X.A.units+101<cLine):OpR X (compareOp .NotEq) (aP1 X.K true):=by
 intro pins s σ H x y v u Q I rx ry h
 obtain⟨d,e,h1,h2,hd,q⟩:=h
 exact(aLj (A:=X.A) I d e rx ry h1 h2 (by omega)).2 _ _ _ _ ⟨.bl _,H,I,rfl,q⟩
def aQv (K:PySem.W.Frag) (neg:Bool):R2:=fun x y H Q=>∃d p xs l,Den K H d x/\y= .ref p/\(SqL K H p xs∨SqT K H p xs)/\uN K H l xs/\d.dep+D.deps l<=99/\
 Q (.bl (if neg then !(l.any fun e=>e.eq d)else l.any fun e=>e.eq d)) H
open Classical in
theorem qO (I:Inv X pins σ H s) {d:D} {x:V} {v:Value} (rx:RelV x v) (hx:Den X.K H d x) {A:Around}:∀{l:List D} {xs:List V} {us:List Value},Vals xs us->uN X.K H l xs->A.units+d.dep+D.deps l<cLine->
  ∃e:Value->Bool,(e=fun w=>decide (∃d' x',RelV x' w/\Den X.K H d' x'/\d'.eq d=true))/\(∀w∈us,SeqAt.EqAt A s w v (e w))/\us.any e=l.any fun e=>e.eq d:=by
 intro l
 induction l with
 |nil=>
  intro xs us r h hu
  cases (show xs=[]from h)
  cases r
  exact⟨_,rfl,fun w hw=>(by cases hw),rfl⟩
 |cons d0 l ih=>
  intro xs us r h hu
  obtain⟨x0,t,rfl,h1,h2⟩:=h
  cases r with
  |@cons _ u0 _ us0 r0 rr=>
  rw [D.deps]at hu
  have a1:=Nat.le_max_left d0.dep (D.deps l)
  have a2:=Nat.le_max_right d0.dep (D.deps l)
  obtain⟨e,ee,i1,i2⟩:=ih rr h2 (by omega)
  have e0:e u0=d0.eq d:=by
   rw [ee]
   by_cases hq:d0.eq d=true
   ·rw [hq];exact decide_eq_true ⟨d0,x0,r0,h1,hq⟩
   ·rw [Bool.not_eq_true]at hq
    rw [hq]
    refine decide_eq_false ?_
    rintro⟨d',x',r',h',q'⟩
    cases RelV.inj r' r0
    rw [Den.inj I d' d0 h' h1,hq]at q'
    cases q'
  refine⟨e,ee,fun w hw=>?_,?_⟩
  ·rcases List.mem_cons.mp hw with rfl|hw
   ·rw [e0]
    exact aI9 I d0 d r0 rx h1 hx (by omega)
   ·exact i1 w hw
  ·rw [List.any_cons,List.any_cons,i2,e0]
theorem aPt (hu:X.A.units+101<cLine):OpR X (compareOp .In) (aQv X.K false):=by
 intro pins s σ H x y v u Q I rx ry h
 obtain⟨d,p,xs,l,h1,rfl,hq,h2,hd,q⟩:=h
 cases ry
 rcases hq with hq|hq
 ·obtain⟨its,r,pl,hz⟩:=I.list hq
  obtain⟨e,_,i1,i2⟩:=qO (A:=X.A.in1) I rx h1 r h2 (by show X.A.units+1+_+_<_;omega)
  refine SeqAt.in_listAt e pl.isList (fun w hw=>i1 w (by simpa using hw)) ⟨.bl _,H,I,rfl,?_⟩
  rw [show its.toArray.any e=its.any e by simp,i2]
  exact q
 ·obtain⟨its,r,pl,hz⟩:=I.tuple hq
  obtain⟨e,_,i1,i2⟩:=qO (A:=X.A.in1) I rx h1 r h2 (by show X.A.units+1+_+_<_;omega)
  refine SeqAt.in_tupleAt e pl (fun w hw=>i1 w (by simpa using hw)) ⟨.bl _,H,I,rfl,?_⟩
  rw [show its.toArray.any e=its.any e by simp,i2]
  exact q
theorem aH0 (hu:X.A.units+101<cLine):OpR X (compareOp .NotIn) (aQv X.K true):=by
 intro pins s σ H x y v u Q I rx ry h
 obtain⟨d,p,xs,l,h1,rfl,hq,h2,hd,q⟩:=h
 cases ry
 rcases hq with hq|hq
 ·obtain⟨its,r,pl,hz⟩:=I.list hq
  obtain⟨e,_,i1,i2⟩:=qO (A:=X.A.in1) I rx h1 r h2 (by show X.A.units+1+_+_<_;omega)
  refine SeqAt.notIn_listAt e pl.isList (fun w hw=>i1 w (by simpa using hw)) ⟨.bl _,H,I,rfl,?_⟩
  rw [show its.toArray.any e=its.any e by simp,i2]
  exact q
 ·obtain⟨its,r,pl,hz⟩:=I.tuple hq
  obtain⟨e,_,i1,i2⟩:=qO (A:=X.A.in1) I rx h1 r h2 (by show X.A.units+1+_+_<_;omega)
  refine SeqAt.notIn_tupleAt e pl (fun w hw=>i1 w (by simpa using hw)) ⟨.bl _,H,I,rfl,?_⟩
  rw [show its.toArray.any e=its.any e by simp,i2]
  exact q
end
mutual
def rO (Av:Addr->Prop) (H:Hp):D->V->Prop
 | .fl x,v=>v=x/\iM x=true
 | .tp l,v=>∃p xs,v= .ref p/\H p=some (.tup xs)/\dR Av H l xs
 | .ls l,v=>∃p xs,v= .ref p/\¬Av p/\H p=some (.lst xs)/\dR Av H l xs
def dR (Av:Addr->Prop) (H:Hp):List D->List V->Prop
 | [],xs=>xs=[]
 |d::l,xs=>∃x r,xs=x::r/\rO Av H d x/\dR Av H l r
end
section
variable {Av:Addr->Prop} {H H':Hp}
mutual
theorem rO.mono (k1:∀b xs,H b=some (.tup xs)->H' b=some (.tup xs)) (k2:∀b xs,¬Av b->H b=some (.lst xs)->H' b=some (.lst xs)):∀(d:D) {v:V},rO Av H d v->rO Av H' d v
 | .fl x,v,h=>h
 | .tp l,v,h=>by
  obtain⟨p,xs,e,hp,t⟩:=h
  exact⟨p,xs,e,k1 _ _ hp,dR.mono k1 k2 l t⟩
 | .ls l,v,h=>by
  obtain⟨p,xs,e,n,hp,t⟩:=h
  exact⟨p,xs,e,n,k2 _ _ n hp,dR.mono k1 k2 l t⟩
theorem dR.mono (k1:∀b xs,H b=some (.tup xs)->H' b=some (.tup xs)) (k2:∀b xs,¬Av b->H b=some (.lst xs)->H' b=some (.lst xs)):∀(l:List D) {xs:List V},dR Av H l xs->dR Av H' l xs
 | [],xs,h=>h
 |d::l,xs,h=>by
  obtain⟨x,r,e,h1,h2⟩:=h
  exact⟨x,r,e,rO.mono k1 k2 d h1,dR.mono k1 k2 l h2⟩
end
mutual
theorem rO.den (K:PySem.W.Frag):∀(d:D) {v:V},rO Av H d v->Den K H d v
 | .fl x,v,h=>h
 | .tp l,v,h=>by
  obtain⟨p,xs,e,hp,t⟩:=h
  exact⟨p,xs,e,SqT.of hp,dR.dens K l t⟩
 | .ls l,v,h=>by
  obtain⟨p,xs,e,n,hp,t⟩:=h
  exact⟨p,xs,e,SqL.of hp,dR.dens K l t⟩
theorem dR.dens (K:PySem.W.Frag):∀(l:List D) {xs:List V},dR Av H l xs->uN K H l xs
 | [],xs,h=>h
 |d::l,xs,h=>by
  obtain⟨x,r,e,h1,h2⟩:=h
  exact⟨x,r,e,rO.den K d h1,dR.dens K l h2⟩
end
mutual
theorem rO.weak {Bv:Addr->Prop} (k:∀b,Bv b->Av b):∀(d:D) {v:V},rO Av H d v->rO Bv H d v
 | .fl x,v,h=>h
 | .tp l,v,h=>by
  obtain⟨p,xs,e,hp,t⟩:=h
  exact⟨p,xs,e,hp,dR.weak k l t⟩
 | .ls l,v,h=>by
  obtain⟨p,xs,e,n,hp,t⟩:=h
  exact⟨p,xs,e,fun z=>n (k p z),hp,dR.weak k l t⟩
theorem dR.weak {Bv:Addr->Prop} (k:∀b,Bv b->Av b):∀(l:List D) {xs:List V},dR Av H l xs->dR Bv H l xs
 | [],xs,h=>h
 |d::l,xs,h=>by
  obtain⟨x,r,e,h1,h2⟩:=h
  exact⟨x,r,e,rO.weak k d h1,dR.weak k l h2⟩
end
mutual
theorem rO.refl:∀(d:D) {v:V},rO Av H d v->d.eq d=true
 | .fl x,v,h=>by
  rw [D.eq]
  exact aDt h.2
 | .tp l,v,h=>by
  obtain⟨p,xs,e,hp,t⟩:=h
  rw [D.eq]
  exact dR.refl l t
 | .ls l,v,h=>by
  obtain⟨p,xs,e,n,hp,t⟩:=h
  rw [D.eq]
  exact dR.refl l t
theorem dR.refl:∀(l:List D) {xs:List V},dR Av H l xs->D.eqs l l=true
 | [],xs,h=>by rw [D.eqs]
 |d::l,xs,h=>by
  obtain⟨x,r,e,h1,h2⟩:=h
  rw [D.eqs,rO.refl d h1,dR.refl l h2]
  rfl
end
end
theorem aQk {H H1:Hp} {p:Addr} {o:HO} (h:H p=none) (e:upd H p o=H1):dW H H1/\H1 p=some o:=by
 subst e
 refine⟨fun b u q=>?_,aJ⟩
 rw [aQ (aU q h)]
 exact q
section
variable {X:Cx} {Av:Addr->Prop}
end
structure Cal (P:Program) (w:World) (K:PySem.W.Frag) (mg:Str->Option Value) (base:Heap) (CX:CXT) (k:Nat) (x:Str) (ps:List Str) (sp:Sp):Prop where
 ex:∃f fd,bB P w K mg base CX k f fd ps sp/\mg x=some (.ref f)/\PySem.W.keepIn K (.ref f)=true/\Binds K fd ps []
theorem aRn {X:Cx} {CX:CXT} {k:Nat} {x:Str} {ps:List Str} {sp:Sp} {E:XK} {e:Expr} {es:List Expr} {t:TA} {p pos:Pos} (C:Cal X.prog X.w X.K X.mg X.base CX k x ps sp) (hr:eY k X.A) (hg:Gl X x) (hx:oE CX X E)
  (ha:PA X (e::es) t) (hdb:(x==("__debug__":Str))=false:=by decide) (he:starEach (e::es) X.env=(false,eval e X.env)::starEach es X.env:=by rfl) (hpl:(backTo pos (starEach es X.env)).any (·.1)=false:=by rfl):
  PE X (.Call (.Name x p) (e::es) [] pos) (aOt sp [] E t):=by
 obtain⟨f,fd,F,hm,hk,hb⟩:=C.ex
 exact aNd F hr hg hm hk hb .nil hx ha hdb he hpl
abbrev oJ (scope sc0:Scope) (cap:List (Str×Nat)) (N:List Str):Prop:=scope.kind= .function/\(∀y∈scope.names,y.2≠ .cell)/\(∀y∈scope.names,y.2= .local->scope.names.lookup y.1=some .local)/\
 (∀y∈scope.names,y.2= .free->sc0.names.lookup y.1=some .cell)/\(∀p∈cap,N[p.2]? =some p.1/\scope.names.lookup p.1=some .free/\sc0.names.lookup p.1=some .cell)
section
variable {X:Cx}
theorem aGd {scope:Scope} {cap:List (Str×Nat)} {sc0:Scope} {N0:List Str} (hs:X.env.scope=sc0) (hN:X.N=N0) (hcell:∀x,X.env.scope.names.lookup x=some .cell->∃c,X.env.cells.lookup x=some c) (ok:oJ scope sc0 cap N0):∃cl,fJ X scope cap cl:=by
 subst hs hN
 exact aEs hcell ok.1 ok.2.1 ok.2.2.1 ok.2.2.2.1 ok.2.2.2.2
theorem aOx {elt iter tg:Expr} {scope:Scope} {own:List Str} {cap:List (Str×Nat)} {pos:Pos} {wi:TI} {g:TG} {te:TE} (sc0:Scope) (N0:List Str) (hsc:X.env.scope=sc0) (hN:X.N=N0) (hcell:∀x,X.env.scope.names.lookup x=some .cell->∃c,X.env.cells.lookup x=some c)
  (ok:oJ scope sc0 cap N0) (hc:X.calm=true) (hi:PI X tg iter wi)
  (hg:∀cl C s2 H2 fp,PG (bI X (cT own cap) scope cl C s2 H2 fp) tg g) (he:∀cl C s2 H2 fp,PE (bI X (cT own cap) scope cl C s2 H2 fp) elt te)
  (hs:∀x,foldedSetIterable iter X.env x=pure x:=by intro _;rfl):PE X (.ListComp elt [⟨tg,iter,[],0⟩] scope pos) (aA5 own.length cap wi g te):=by
 obtain⟨cl,S⟩:=aGd hsc hN hcell ok
 exact aHa S hc hi (hg cl) (he cl) hs
theorem aQj {elt iter tg ci:Expr} {scope:Scope} {own:List Str} {cap:List (Str×Nat)} {pos:Pos} {wi:TI} {g:TG} {tc:TT} {te:TE} (sc0:Scope) (N0:List Str) (hsc:X.env.scope=sc0) (hN:X.N=N0) (hcell:∀x,X.env.scope.names.lookup x=some .cell->∃c,X.env.cells.lookup x=some c)
  (ok:oJ scope sc0 cap N0) (hc:X.calm=true) (hi:PI X tg iter wi)
  (hg:∀cl C s2 H2 fp,PG (bI X (cT own cap) scope cl C s2 H2 fp) tg g) (htc:∀cl C s2 H2 fp,PT (bI X (cT own cap) scope cl C s2 H2 fp) ci tc) (he:∀cl C s2 H2 fp,PE (bI X (cT own cap) scope cl C s2 H2 fp) elt te)
  (hs:∀x,foldedSetIterable iter X.env x=pure x:=by intro _;rfl):PE X (.ListComp elt [⟨tg,iter,[ci],0⟩] scope pos) (xV own.length cap wi g tc te):=by
 obtain⟨cl,S⟩:=aGd hsc hN hcell ok
 exact aI4 S hc hi (hg cl) (htc cl) (he cl) hs
theorem aSh {i:Nat} {x:Str} {elt iter tg:Expr} {scope:Scope} {own:List Str} {cap:List (Str×Nat)} {pos spos py:Pos} {wi:TI} {g:TG} {te:TE} (hnd:X.N.Nodup) (hi':X.N[i]? =some x) (hx:Loc X.env.scope x)
  (sc0:Scope) (N0:List Str) (hsc:X.env.scope=sc0) (hN:X.N=N0) (hcell:∀x,X.env.scope.names.lookup x=some .cell->∃c,X.env.cells.lookup x=some c)
  (ok:oJ scope sc0 cap N0) (hc:X.calm=true) (hi:PI X tg iter wi)
  (hg:∀cl C s2 H2 fp,PG (bI X (cT own cap) scope cl C s2 H2 fp) tg g) (he:∀cl C s2 H2 fp,PE (bI X (cT own cap) scope cl C s2 H2 fp) elt te)
  (hsw:swapsWith (.ListComp elt [⟨tg,iter,[],0⟩] scope pos) (some (.Name x py)) spos.line X.env=pure true:=by rfl)
  (hs:∀x,foldedSetIterable iter X.env x=pure x:=by intro _;rfl) (hf:X.fn x=true∨X.env.scope.names.lookup x=some .local:=by first|exact .inl rfl|exact .inr rfl|assumption):
  PS X (.Assign [.Name x py] (.ListComp elt [⟨tg,iter,[],0⟩] scope pos) spos) (aH6 (aA5 own.length cap wi g te) (oX i)):=by
 obtain⟨cl,S⟩:=aGd hsc hN hcell ok
 exact aF0 hnd hi' hx S hc hi (hg cl) (he cl) hsw hs hf
theorem aP6 {i:Nat} {x:Str} {elt iter tg ci:Expr} {scope:Scope} {own:List Str} {cap:List (Str×Nat)} {pos spos py:Pos} {wi:TI} {g:TG} {tc:TT} {te:TE} (hnd:X.N.Nodup) (hi':X.N[i]? =some x) (hx:Loc X.env.scope x)
  (sc0:Scope) (N0:List Str) (hsc:X.env.scope=sc0) (hN:X.N=N0) (hcell:∀x,X.env.scope.names.lookup x=some .cell->∃c,X.env.cells.lookup x=some c)
  (ok:oJ scope sc0 cap N0) (hc:X.calm=true) (hi:PI X tg iter wi)
  (hg:∀cl C s2 H2 fp,PG (bI X (cT own cap) scope cl C s2 H2 fp) tg g) (htc:∀cl C s2 H2 fp,PT (bI X (cT own cap) scope cl C s2 H2 fp) ci tc) (he:∀cl C s2 H2 fp,PE (bI X (cT own cap) scope cl C s2 H2 fp) elt te)
  (hsw:swapsWith (.ListComp elt [⟨tg,iter,[ci],0⟩] scope pos) (some (.Name x py)) spos.line X.env=pure true:=by rfl)
  (hs:∀x,foldedSetIterable iter X.env x=pure x:=by intro _;rfl) (hf:X.fn x=true∨X.env.scope.names.lookup x=some .local:=by first|exact .inl rfl|exact .inr rfl|assumption):
  PS X (.Assign [.Name x py] (.ListComp elt [⟨tg,iter,[ci],0⟩] scope pos) spos) (aH6 (xV own.length cap wi g tc te) (oX i)):=by
 obtain⟨cl,S⟩:=aGd hsc hN hcell ok
 exact aDi hnd hi' hx S hc hi (hg cl) (htc cl) (he cl) hsw hs hf
end
section
variable {α:Type} {A B:List (Str×α)} {x:Str} {c:α}
end
section
variable {prog:Program} {w:World} {A:Around} {R:Result->Shared->Prop} {s:Shared}
end
section
variable {X:Cx} {pins:List (Addr×Obj)} {σ:St} {s2:Shared} {H2:Hp}
end
section
variable {X:Cx}
end
abbrev aBd (scope:Scope):Prop:=scope.kind= .function/\∀y∈scope.names,y.2≠ .cell/\y.2≠ .free/\(y.2= .local->scope.names.lookup y.1=some .local)
section
variable {X:Cx}
theorem aP9 {scope:Scope} (ok:aBd scope):∃cl,fJ X scope [] cl:=by
 obtain⟨k,nm⟩:=ok
 obtain⟨cl,e,a,b⟩:=qR X.env scope.names [] (fun y hy hf=>((nm y hy).2.1 hf).elim) (fun x c h=>by simp at h)
 refine⟨cl,?_,k,fun y hy=>(nm y hy).1,fun y hy=>(nm y hy).2.2,a,fun x hx=>b x (.inr (PySem.mem_of_lookup hx)),fun p hp=>nomatch hp⟩
 unfold closureFor
 refine Eq.trans ?_ e
 simp only [bind_pure]
theorem aPn {elt iter tg:Expr} {scope:Scope} {own:List Str} {pos:Pos} {wi:TI} {g:TG} {te:TE} (ok:aBd scope) (hc:X.calm=true) (hi:PI X tg iter wi)
  (hg:∀cl C s2 H2 fp,PG (bI X (cT own []) scope cl C s2 H2 fp) tg g) (he:∀cl C s2 H2 fp,PE (bI X (cT own []) scope cl C s2 H2 fp) elt te)
  (hs:∀x,foldedSetIterable iter X.env x=pure x:=by intro _;rfl):PE X (.ListComp elt [⟨tg,iter,[],0⟩] scope pos) (aA5 own.length [] wi g te):=by
 obtain⟨cl,S⟩:=aP9 ok
 exact aHa S hc hi (hg cl) (he cl) hs
end
section
variable {X:Cx} {B:St->Hp->Prop} {R:Hp->V->Prop}
end
def aLf (K:PySem.W.Frag):List V->Hp->VK->Prop:=fun xs H Q=>∃p ys,xs=[.ref p]/\(SqL K H p ys∨SqT K H p ys)/\∀l,H l=none->Q (.ref l) (upd H l (.lst ys))
def aG0 (K:PySem.W.Frag):List V->Hp->VK->Prop:=fun xs H Q=>∃p ys,xs=[.ref p]/\((SqL K H p ys/\∀l,H l=none->Q (.ref l) (upd H l (.tup ys)))∨(SqT K H p ys/\Q (.ref p) H))
theorem kW {X:Cx} {K:PySem.W.Frag} (h:X.K=K):dU X (.type "list") (aLf K):=by
 subst h
 exact aCp
theorem aDe {X:Cx} {K:PySem.W.Frag} (h:X.K=K):dU X (.type "tuple") (aG0 K):=by
 subst h
 exact rF
section
variable {X:Cx}
def aSr (_ j:Int):Prop:=0<j/\j<2 ^ 62
theorem aK0:OpR X (binaryOp .FloorDiv) (rI aSr fun i j=> .int (i / j)):=opI fun i j _ _ _ _ _ hc q=>by
 have h1:(0:Int)<j:=hc.1
 have h2:j<2 ^ 62:=hc.2
 refine floordiv_int (by omega) (by rw [Int.fdiv_eq_ediv_of_nonneg i (by omega)];exact q) (.inl (PyProof.noPylong_of_log2 ?_))
 have h3:j.natAbs<2 ^ 62:=by omega
 have:=(Nat.log2_lt (by omega)).mpr h3
 omega
end
section
variable {X:Cx} {K:PySem.W.Frag}
end
def jO (P:Program) (w:World) (a:Addr) (xs:List ((Int×List Int)×Addr)) (h:Heap):Prop:=∃o es ep t,h.get? a=some o/\o.ExactSet/\o.data= .set es ep t/\es.toList=xs.map (fun x=>((lG (intKind P w)).hash x.1,Value.ref x.2))/\t.Good/\t.place.size=es.size/\(xs.map (·.1)).Nodup/\
 (∀(i j:Nat) (x:(Int×List Int)×Addr),t.place[i]? =some j->xs[i]? =some x->SetTable.pQ t ((lG (intKind P w)).hash x.1) j)/\t.Small/\t.plain=true/\t.led= !w.params.followText "set-order"
def TKy (H:Hp) (x:List Int×Addr):Prop:=H x.2=some (.tup (x.1.map V.int))
def PKy (H:Hp) (x:(Int×List Int)×Addr):Prop:=∃q,H x.2=some (.tup [.int x.1.1,.ref q])/\TKy H (x.1.2,q)
section
variable {P:Program} {w:World} {H:Hp} {h:Heap} {a:Addr} {s:Shared} {xs:List ((Int×List Int)×Addr)}
theorem jO.stay (h1 h2:Heap) (p:jO P w a xs h1) (k:∀o,h1.get? a=some o->h2.get? a=some o):jO P w a xs h2:=let⟨o,es,ep,t,e,c⟩:=p;⟨o,es,ep,t,k _ e,c⟩
theorem jO.of (I:jP (lG (intKind P w)) s a (!w.params.followText "set-order") xs):jO P w a xs s.heap:=by
 obtain⟨o,es,ep,t,S,r1,r2,r3⟩:=I
 exact⟨o,es,ep,t,S.ho,S.hex,S.hd,S.he,S.good,S.size,S.nd,S.way,r1,r2,r3⟩
theorem jO.is (I:jO P w a xs s.heap) (keys:∀x∈xs,bG (intKind P w) s.heap x.1 x.2):jP (lG (intKind P w)) s a (!w.params.followText "set-order") xs:=by
 obtain⟨o,es,ep,t,a1,a2,a3,a4,a5,a6,a7,a8,r1,r2,r3⟩:=I
 exact⟨o,es,ep,t,⟨a1,a2,a3,a4,a5,a6,keys,a7,a8⟩,r1,r2,r3⟩
theorem aHw {ns:List Int}:∀{us:List Value},Vals (ns.map V.int) us->ItemsAre (intKind P w) ns us:=by
 induction ns with
 |nil=>intro us r;rw [List.map_nil]at r;cases r;exact .nil
 |cons n ns ih=>
  intro us r
  rw [List.map_cons]at r
  cases r with
  |@cons _ v _ _ r1 t=>
   obtain⟨tk,rfl⟩:=r1
   exact .cons (by show Value.isInt n (.int n tk)=true;simp [Value.isInt]) (ih t)
theorem aN3 {x:List Int×Addr} (ok:HOk P w H h) (e:TKy H x):IsTupleKey (intKind P w) h x.1 x.2:=by
 obtain⟨_,its,r,o,h1,h2,n,h3⟩:=(show cQ P w H h x.2 (.tup (x.1.map V.int))from ok _ _ e)
 exact⟨o,its.toArray,n,h1,h2,h3,aHw r⟩
theorem aGc {x:(Int×List Int)×Addr} (ok:HOk P w H h) (e:PKy H x):bG (intKind P w) h x.1 x.2:=by
 obtain⟨q,e1,e2⟩:=e
 obtain⟨_,its,r,o,h1,h2,n,h3⟩:=(show cQ P w H h x.2 (.tup [.int x.1.1,.ref q])from ok _ _ e1)
 obtain⟨u,v,rfl,ru,rv⟩:=vals2 r
 obtain⟨tk,rfl⟩:=ru
 obtain rfl:v=Value.ref q:=rv
 exact⟨o,_,q,n,h1,h2,h3,(by show Value.isInt _ (.int _ tk)=true;simp [Value.isInt]),aN3 ok e2⟩
end
theorem xO:∀{ps:List ((Int×List Int)×Addr)} {us:List Value},Vals (ps.map fun x=>V.ref x.2) us->us=ps.map fun x=>Value.ref x.2
 | [],_,.nil=>rfl
 |_::_,_,.cons (r1:_=Value.ref _) t=>by subst r1;rw [List.map_cons,xO t]
theorem xM:∀{ps:List ((Int×List Int)×Addr)},Vals (ps.map fun x=>V.ref x.2) (ps.map fun x=>Value.ref x.2)
 | []=> .nil
 |_::_=> .cons rfl xM
def aRt (P:Program) (w:World) (K:PySem.W.Frag):List V->Hp->VK->Prop:=fun xs H Q=>∃(p:Addr) (ps:List ((Int×List Int)×Addr)),xs=[.ref p]/\SqL K H p (ps.map fun x=>V.ref x.2)/\(∀x∈ps,PKy H x)/\ps.length<=1000/\(∃ks:List (Int×List Int),ks.length<18/\∀x∈ps,x.1∈ks)/\
 ∀(l:Addr) (zs:List ((Int×List Int)×Addr)),H l=none->(zs.map (·.1)).Nodup->(∀x∈zs,x∈ps)->(∀x∈ps,∃z∈zs,z.1=x.1)->zs.length<=ps.length->Q (.ref l) (upd H l (.ext (jO P w l zs)))
def aKu (P:Program) (w:World):List V->Hp->VK->Prop:=fun xs H Q=>∃(p:Addr) (ps:List ((Int×List Int)×Addr)),xs=[.ref p]/\H p=some (.ext (jO P w p ps))/\(∀x∈ps,PKy H x)/\ps.length<64/\
 ∀(l:Addr) (ys:List ((Int×List Int)×Addr)),H l=none->ys.Perm ps->ys.Pairwise (fun x y=>nG x.1 y.1=true)->Q (.ref l) (upd H l (.lst (ys.map fun x=>V.ref x.2)))
section
variable {X:Cx}
theorem aIu (hu:X.A.units+20<cLine) (hc:X.calm=true):dU X (.type "set") (aRt X.prog X.w X.K):=by
 intro pins s σ H xs us Q I r h
 obtain⟨p,ps,rfl,hq,hk,hln,⟨ks,kl,km⟩,q⟩:=h
 obtain⟨u,rfl,ru⟩:=vals1 r
 cases ru
 obtain⟨its,rv,pl,hz⟩:=I.list hq
 have ei:=xO rv
 have hlen:its.length=ps.length:=by rw [ei,List.length_map]
 have at_:∀i,i<ps.length->ps.getD i ((0,[]),0)∈ps:=fun i hi=>by simp [List.getD,hi]
 refine yU (knd:=lG (intKind X.prog X.w)) (items:=its.toArray) (val:=fun i=>(ps.getD i ((0,[]),0)).1) (adr:=fun i=>(ps.getD i ((0,[]),0)).2) (aMh fun k v hv=>?_) (fun A' hA=>?_) (I.ok.hd hc) pl.isList (fun i v hv=>?_) (fun j hj=>?_) (fun i xs hi M nd=>?_) fun h' tk zs S M hk'=>?_
 ·obtain⟨t,rfl⟩:=Value.isInt_shape hv
  exact⟨_,_,rfl⟩
 ·show A'.units+1<cLine
  omega
 ·have hi:i<its.toArray.size:=(Array.getElem?_eq_some_iff.mp hv).1
  rw [List.size_toArray,hlen]at hi
  rw [List.getElem?_toArray,ei]at hv
  simp [hi]at hv
  rw [<-hv]
  simp [List.getD,hi]
 ·rw [List.size_toArray,hlen]at hj
  exact aGc I.hok (hk _ (at_ j hj))
 ·rw [List.size_toArray,hlen]at hi
  have:=nd.length_le_of_subset (l₂:=ks) fun k hk=>by
   obtain⟨x,hx,rfl⟩:=List.mem_map.mp hk
   obtain⟨j,hj,e⟩:=M.from' x hx
   rw [e]
   exact km _ (at_ j (by omega))
  rw [List.length_map]at this
  omega
 ·have kp:∀b o,s.heap.get? b=some o->h'.get? b=some o:=fun b o e=>hk' b o (Heap.lt_size e) e
  have so:=jO.of S
  have nd:(zs.map (·.1)).Nodup:=by obtain⟨_,_,_,_,S,_⟩:=S;exact S.nd
  refine⟨.ref s.heap.objs.size,_,I.laid (t':=tk) (o:= .ext (jO X.prog X.w s.heap.objs.size zs)) kp (Nat.le_refl _) ⟨so,?_,fun h1 h2 p k=>jO.stay h1 h2 p k⟩,rfl,q _ zs (I.hok.fresh (Nat.le_refl _)) nd (fun x hx=>?_) (fun x hx=>?_) ?_⟩
  ·obtain⟨o,_,_,_,e,_⟩:=so
   exact⟨o,e⟩
  ·obtain⟨j,hj,e⟩:=M.from' x hx
   rw [List.size_toArray,hlen]at hj
   rw [e]
   exact at_ j hj
  ·obtain⟨j,hj,e⟩:=List.getElem_of_mem hx
   obtain⟨z,hz,ez⟩:=M.all j (by rw [List.size_toArray,hlen];exact hj)
   refine⟨z,hz,?_⟩
   rw [ez, <-e]
   simp [List.getD,hj]
  ·have:=M.len
   rw [List.size_toArray,hlen]at this
   exact this
theorem aBn (hu:X.A.units+40<cLine) (hc:X.calm=true):dU X (.builtin "sorted") (aKu X.prog X.w):=by
 intro pins s σ H xs us Q I r h
 obtain⟨p,ps,rfl,hp,hk,h64,q⟩:=h
 obtain⟨u,rfl,ru⟩:=vals1 r
 cases ru
 obtain⟨so,_,_⟩:=(show cQ X.prog X.w H s.heap p (.ext (jO X.prog X.w p ps))from I.hok p _ hp)
 refine aF3 (aNx fun k v hv=>by obtain⟨t,rfl⟩:=Value.isInt_shape hv;exact⟨_,_,rfl⟩) (by omega) (I.ok.hd hc) (so.is fun x hx=>aGc I.hok (hk x hx)) (fun _ _=>trivial) h64 fun h' tk l e ys py hy hl hg kp=>?_
 refine⟨.ref l,_,I.laid (t':=tk) (o:= .lst (ys.map fun x=>V.ref x.2)) kp hl ⟨?_,_,e,xM,hg⟩,rfl,q l ys (I.hok.fresh hl) py hy⟩
 rw [List.length_map,py.length_eq,sizeLine_eq]
 omega
end
def aAd (w:World) (a:Addr) (zs:List Nat) (h:Heap):Prop:=∃o ep tk,h.get? a=some o/\o.ExactSet/\o.data= .set (fM zs tk) ep (uL (!w.params.followText "set-order") zs)/\zs∈fC
def vJ (l:List Nat):List V:=l.map fun k:Nat=> .int (k:Int)
def aSn (w:World) (K:PySem.W.Frag):List V->Hp->VK->Prop:=fun xs H Q=>∃(p:Addr) (ns:List Nat),xs=[.ref p]/\SqL K H p (vJ ns)/\(∀n∈ns,n∈[1,2,3])/\
 ∀(l:Addr) (zs:List Nat),H l=none->zs∈fC->(∀z,z∈zs↔z∈ns)->Q (.ref l) (upd H l (.ext (aAd w l zs)))
def aLn (w:World):List V->Hp->VK->Prop:=fun xs H Q=>∃(p:Addr) (zs:List Nat),xs=[.ref p]/\H p=some (.ext (aAd w p zs))/\∀l,H l=none->Q (.ref l) (upd H l (.lst (vJ zs)))
theorem aA8:∀{ns:List Nat} {us:List Value},Vals (vJ ns) us->∀(i:Nat) (v:Value),us[i]? =some v->∃t,v= .int (ns.getD i 0:Nat) t
 | [],_,.nil,i,v,h=>by simp at h
 |n::ns,u::us,.cons r t,0,v,h=>by
  obtain⟨tk,e⟩:=r
  have:u=v:=by simpa using h
  exact⟨tk,by rw [<-this,e];rfl⟩
 |n::ns,u::us,.cons r t,i+1,v,h=>by
  have:=aA8 t i v (by simpa using h)
  simpa [List.getD]using this
theorem aC3 {α β:Type} {f:α->β} {l:List β} {xs:List α} (hp:l.Perm (xs.map f)):∃zs:List α,zs.Perm xs/\l=zs.map f:=by
 generalize hm:xs.map f=m at hp
 induction hp generalizing xs with
 |nil=>exact⟨xs,List.Perm.refl _,hm.symm⟩
 |cons a p ih=>
  match xs,hm with
  |x::xs,hm=>
   obtain⟨e1,e2⟩:=List.cons.inj hm
   obtain⟨zs,z1,z2⟩:=ih e2
   exact⟨x::zs,z1.cons x,by rw [z2, <-e1];rfl⟩
 |swap a b l=>
  match xs,hm with
  |x::y::xs,hm=>
   obtain⟨e1,e2⟩:=List.cons.inj hm
   obtain⟨e2,e3⟩:=List.cons.inj e2
   exact⟨y::x::xs,List.Perm.swap _ _ _,by rw [<-e1, <-e2, <-e3];rfl⟩
 |trans p1 p2 ih1 ih2=>
  obtain⟨zs,z1,z2⟩:=ih2 hm
  obtain⟨ys,y1,y2⟩:=ih1 z2.symm
  exact⟨ys,y1.trans z1,y2⟩
theorem vQ:∀{l m:List Int},l.Perm m->l.Pairwise (·<=·)->m.Pairwise (·<=·)->l=m
 | [],m,h,_,_=>h.nil_eq
 |a::l,[],h,_,_=>absurd h.length_eq (by simp)
 |a::l,b::m,h,h1,h2=>by
  have ha:=(List.pairwise_cons.mp h1)
  have hb:=(List.pairwise_cons.mp h2)
  have e:a=b:=by
   have m1:a∈b::m:=h.mem_iff.mp List.mem_cons_self
   have m2:b∈a::l:=h.mem_iff.mpr List.mem_cons_self
   rcases List.mem_cons.mp m1 with z|z
   ·exact z
   ·rcases List.mem_cons.mp m2 with y|y
    ·exact y.symm
    ·have:=ha.1 b y
     have:=hb.1 a z
     omega
  subst e
  rw [vQ ((List.perm_cons a).mp h) ha.2 hb.2]
section
variable {X:Cx}
theorem aIm (hc:X.calm=true):dU X (.type "set") (aSn X.w X.K):=by
 intro pins s σ H xs us Q I r h
 obtain⟨p,ns,rfl,hq,h3,q⟩:=h
 obtain⟨u,rfl,ru⟩:=vals1 r
 cases ru
 obtain⟨its,rv,pl,hz⟩:=I.list hq
 have hlen:its.length=ns.length:=by rw [<-Vals.length rv];unfold vJ;rw [List.length_map]
 have v3:∀j,j<its.toArray.size->ns.getD j 0∈[1,2,3]:=fun j hj=>by
  rw [List.size_toArray,hlen]at hj
  have:ns.getD j 0=ns[j]:=by simp [List.getD,hj]
  rw [this]
  exact h3 _ (List.getElem_mem hj)
 refine yL (items:=its.toArray) (val:=fun i=>ns.getD i 0) (I.ok.hd hc) pl.isList (fun i v hv=>aA8 rv i v (by simpa using hv)) v3 fun h' tk S kp'=>?_
 have kp:∀b o,s.heap.get? b=some o->h'.get? b=some o:=fun b o e=>kp' b o (Heap.lt_size e) e
 have so:aAd X.w s.heap.objs.size (uV (fun i=>ns.getD i 0) its.toArray.size) h':=S
 refine⟨.ref s.heap.objs.size,_,I.laid (t':=tk) (o:= .ext (aAd X.w s.heap.objs.size _)) kp (Nat.le_refl _) ⟨so,?_,fun h1 h2 p k=>?_⟩,rfl,q _ _ (I.hok.fresh (Nat.le_refl _)) (aD0 _ _) fun z=>?_⟩
 ·obtain⟨o,_,_,e,_⟩:=so
  exact⟨o,e⟩
 ·obtain⟨o,ep,tk,e,c⟩:=p
  exact⟨o,ep,tk,k _ e,c⟩
 ·rw [aC9 v3 _ (Nat.le_refl _) z,List.size_toArray,hlen]
  constructor
  ·rintro⟨j,hj,rfl⟩
   have:ns.getD j 0=ns[j]:=by simp [List.getD,hj]
   show ns.getD j 0∈ns
   rw [this]
   exact List.getElem_mem hj
  ·intro hz
   obtain⟨j,hj,e⟩:=List.getElem_of_mem hz
   exact⟨j,hj,by show ns.getD j 0=z;rw [<-e];simp [List.getD,hj]⟩
theorem aCe (hc:X.calm=true):dU X (.builtin "sorted") (aLn X.w):=by
 intro pins s σ H xs us Q I r h
 obtain⟨p,zs,rfl,hp,q⟩:=h
 obtain⟨u,rfl,ru⟩:=vals1 r
 cases ru
 obtain⟨so,_,_⟩:=(show cQ X.prog X.w H s.heap p (.ext (aAd X.w p zs))from I.hok p _ hp)
 obtain⟨o,ep,tk,ho,hex,hd,hz⟩:=so
 have l3:=aQm zs hz
 refine Calls.call_function_entry kind_sorted plain_sorted entry_sorted (args_sorted1 _) ?_
 unfold Builtin.«sorted»
 refine wpAny_bind (m:=checkCount "sorted" 1 1 _) (wpAny_pure ?_)
 have rise:SetTable.sI (uL (!X.w.params.followText "set-order") zs).place:=by
  simp only [fC,List.mem_cons,List.not_mem_nil,or_false]at hz
  rcases hz with rfl|rfl|rfl|rfl|rfl|rfl|rfl|rfl<;>intro i j h1 h2<;>simp [uL]at h1 h2<;>(obtain rfl|rfl|rfl:j=0∨j=1∨j=2:=by omega)<;>(obtain rfl|rfl|rfl:i=0∨i=1∨i=2:=by omega)<;>first|(exfalso;omega)|(show(_:Nat)<_;simp [uL])
 refine wpAny_bind (lO (by simpa using I.ok.hd hc) ho hex hd (aL5 hz) rise rfl rfl (by rw [aL1,sizeLine_eq];omega) fun h' tk' s1 hk=>?_)
 obtain⟨ys,py,ey⟩:=aC3 (f:=fun z:Nat=>Value.int (z:Int) (tk z)) (l:=fY X.w p (fM zs tk) ep) (xs:=zs) (by
  have:=jH X.w p (fM zs tk) ep
  have e:(fM zs tk).toList.map (·.2)=zs.map fun z:Nat=>Value.int (z:Int) (tk z):=by simp [fM]
  rw [e]at this
  exact this)
 rw [ey]
 have hi:IntsAre (ys.map fun z:Nat=>Value.int (z:Int) (tk z)) (ys.map fun z:Nat=>(z:Int)):=by
  clear py ey
  induction ys with
  |nil=>exact .nil
  |cons a l ih=>exact .cons _ _ ih
 generalize (ys.map fun z:Nat=>Value.int (z:Int) (tk z))=vs at hi
 have hal:vs.length=ys.length:=by rw [hi.length,List.length_map]
 have yl:=py.length_eq
 refine wpAny_bind (wpAny_newList ?_ (by rw [sizeLine_eq];omega))
 have hoL:(h'.push (seqObj "list" vs.toArray 0)).get? h'.objs.size=some (seqObj "list" vs.toArray 0):=Heap.get?_push_size _ rfl
 refine wpAny_bind (wpAny_holding (wpAny_call_entry slot_list_sort ⟨_,hoL,rfl⟩ entry_list_sort (list_sort_tree hoL hi (by omega) fun out ms a1 a2 a3=>⟨_,rfl,?_⟩) (args_list_sort _)))
 refine wpAny_pure ⟨_,rfl,?_⟩
 obtain⟨e,he⟩:=sortedHeap_at (vs:=vs) (out:=out) hoL
 have hsz:h'.objs.size<(h'.push (seqObj "list" vs.toArray 0)).objs.size:=by rw [Heap.size_push];exact Nat.lt_succ_self _
 have keep:∀b o,s.heap.get? b=some o->(sortedHeap (h'.push (seqObj "list" vs.toArray 0)) h'.objs.size vs out).get? b=some o:=fun b o eb=>by
  have e1:=hk b o eb
  have hlt:=Heap.lt_size e1
  rw [sortedHeap_old (Nat.ne_of_lt hlt) (Nat.lt_trans hlt hsz)]
  exact Heap.get?_push_of_some _ e1
 have hge:s.heap.objs.size<=h'.objs.size:=Nat.le_of_lt s1
 have es:ms=zs.map fun z:Nat=>(z:Int):=vQ (a2.trans (py.map _)) a3 (by
  simp only [fC,List.mem_cons,List.not_mem_nil,or_false]at hz
  rcases hz with rfl|rfl|rfl|rfl|rfl|rfl|rfl|rfl<;>decide)
 have en:ms.map V.int=vJ zs:=by rw [es,List.map_map];rfl
 refine⟨.ref h'.objs.size,_,I.laid (t':=tk') (o:= .lst (ms.map V.int)) keep hge ⟨?_,out.toList,e,yJ a1,by simpa using he⟩,rfl,by rw [en];exact q _ (I.hok.fresh hge)⟩
 rw [List.length_map,a2.length_eq,List.length_map,sizeLine_eq]
 omega
end
structure Dis (P:Program) (w:World) (K:PySem.W.Frag) (mg:Str->Option Value) (base:Heap) (CX:CXT) (k:Nat) (Cs:Addr->Prop) (m:Str) (ps:List Str) (sp:Addr->Sp):Prop where
 ex:∀C,Cs C->Cls K C/\∃f fd,Meth K C m f/\bB P w K mg base CX k f fd ps (sp C)/\Binds K fd ps []
def aJr (Cs:Addr->Prop) (m:Str) (sp:Addr->Sp) (E:XK) (ta:TE) (t:TA):TE:=fun σ H Q=>ta σ H fun x H1=>∃a C dx fs,x= .ref a/\H1 a=some (.ins C dx fs)/\Cs C/\fs.lookup m=none/\t σ H1 fun vs H2=>sp C (.ref a::vs) H2 Q E
section
variable {X:Cx} {CX:CXT} {k:Nat} {Cs:Addr->Prop} {m:Str} {ps:List Str} {sp:Addr->Sp} {E:XK} {o e:Expr} {es:List Expr} {ta:TE} {t:TA} {apos pos:Pos}
theorem bY {pl:Sem Bool} (he:PE X o ta) (D:Dis X.prog X.w X.K X.mg X.base CX k Cs m ps sp) (hr:eY k X.A) (hx:oE CX X E) (ha:PA X (e::es) t)
  (hst:starEach (e::es) X.env=(false,eval e X.env)::starEach es X.env:=by rfl) (hpl:(backTo pos (starEach es X.env)).any (·.1)=false:=by rfl)
  (ht:eval (.Call (.Attribute o m apos) (e::es) [] pos) X.env=(do
   let ov<-eval o X.env
   standAt apos.atName
   let(f,first)<-holding [ov] (getMethod ov m pl)
   callWith pos f first (backTo pos (starEach (e::es) X.env)) (backToKw pos (keywordEach [] X.env))):=by rfl):
  PE X (.Call (.Attribute o m apos) (e::es) [] pos) (aJr Cs m sp E ta t):=by
 intro pins s σ H Q I h
 refine PySem.W.methodCall_KW (pl:=pl) (thn (he pins s σ H _ I h) fun u s1 ⟨x,H1,I1,rx,a,C,dx,fs,ex,ea,hC,l,q⟩=>?_) ht
 subst ex
 obtain rfl:u=Value.ref a:=rx
 obtain⟨c,f,fd,hm,F,hb⟩:=D.ex C hC
 refine yG I1 ea c hm l ?_
 refine PySem.W.callWith_K (first:=[.ref a]) (h₀:=X.base) I.ok.mod.kin hm.kp (thn (ha pos pins s1 σ H1 _ I1 q) fun us s2 ⟨vs,H2,I2,r,q2⟩=>⟨I2.kIn,?_⟩) hst hpl
 exact aEq (us:= .ref a::us) (vs:= .ref a::vs) F hr hb .nil hx I2 (.cons rfl r) (by rw [List.append_nil];exact q2)
theorem bH {pl:Sem Bool} (he:PE X o ta) (D:Dis X.prog X.w X.K X.mg X.base CX k Cs m ps sp) (hr:eY k X.A) (hx:oE CX X E)
  (ht:eval (.Call (.Attribute o m apos) [] [] pos) X.env=(do
   let ov<-eval o X.env
   standAt apos.atName
   let(f,first)<-holding [ov] (getMethod ov m pl)
   callWith pos f first (backTo pos (starEach [] X.env)) (backToKw pos (keywordEach [] X.env))):=by rfl):
  PE X (.Call (.Attribute o m apos) [] [] pos) (aJr Cs m sp E ta aNt):=by
 intro pins s σ H Q I h
 refine PySem.W.methodCall_KW (pl:=pl) (thn (he pins s σ H _ I h) fun u s1 ⟨x,H1,I1,rx,a,C,dx,fs,ex,ea,hC,l,q⟩=>?_) ht
 subst ex
 obtain rfl:u=Value.ref a:=rx
 obtain⟨c,f,fd,hm,F,hb⟩:=D.ex C hC
 refine yG I1 ea c hm l ?_
 exact PySem.W.callWith_K0 (first:=[.ref a]) I1.kIn hm.kp (aEq (us:=[.ref a]) (vs:=[.ref a]) F hr hb .nil hx I1 (.cons rfl .nil) q)
end
section
variable {X:Cx} {o e:Expr} {apos cpos:Pos} {td ty:TE}
end
section
variable {X:Cx}
theorem aMg:dU X (.builtin "any") (fun xs H Q=>∃(p:Addr) (bs:List Bool),xs=[.ref p]/\SqL X.K H p (bs.map V.bl)/\X.calm=true/\Q (.bl (bs.any id)) H):=by
 intro pins s σ H xs us Q I r h
 obtain⟨p,bs,rfl,hq,hc,q⟩:=h
 obtain⟨u,rfl,ru⟩:=vals1 r
 cases ru
 obtain⟨its,rv,pl,hz⟩:=I.list hq
 have hl:=rv.length
 rw [List.length_map]at hl
 refine call_any_walk (wpAny_pyIter_list pl.isList ?_)
 have hlt:p<s.heap.objs.size:=by obtain⟨o,e,_⟩:=pl.isList;exact Heap.lt_size e
 have hne:p≠s.heap.objs.size:=Nat.ne_of_lt hlt
 have hd:X.A.in1.handled=none:=I.ok.hd hc
 refine⟨s.heap.objs.size,_,_,_,_,_,fun i=>bs.getD i false,rfl,Walks.list hd s.heap.objs.size p hne its.toArray,⟨⟨_,Heap.get?_push_size _ rfl,rfl,rfl⟩,pl.isList.push _⟩,fun i v s' Q' E' hv hQ=>?_,fun h' tk hk=>?_⟩
 ·have hv':its[i]? =some v:=by simpa using hv
  have hi:i<its.length:=(List.getElem?_eq_some_iff.mp hv').1
  have hi':i<bs.length:=by omega
  have e1:(bs.map V.bl)[i]? =some (V.bl bs[i]):=by simp [hi']
  obtain⟨u,hu,ru⟩:=rv.get e1
  rw [hv']at hu
  cases hu
  have ru':v=Value.bool bs[i]:=ru
  subst ru'
  have e2:bs.getD i false=bs[i]:=by simp [hi']
  have hQ':Q' (bs.getD i false) s':=hQ
  rw [e2]at hQ'
  exact wpAny_truthy_bool hQ'
 ·refine⟨.bl (bs.any id),H,?_,?_,q⟩
  ·exact I.kept (t':=tk) fun b o e=>hk b o (by simp;exact Nat.ne_of_lt (Heap.lt_size e)) (Heap.get?_push_of_some _ e)
  ·show Value.bool _=Value.bool _
   congr 1
   have e:its.toArray.size=bs.length:=by rw [List.size_toArray];omega
   rw [e]
   have:∀l:List Bool,(List.range l.length).any (fun i=>l.getD i false)=l.any id:=by
    intro l
    induction l with
    |nil=>rfl
    |cons b l ih=>
     rw [List.length_cons,List.range_succ_eq_map,List.any_cons,List.any_cons,List.any_map, <-ih]
     congr 1
   exact this bs
end
def tx (l:List Nat):Str:=⟨l.toArray⟩
theorem mC (l:List Nat):(tx l).cps.toList=l:=List.toList_toArray
theorem fQ (l:List Nat):(tx l).length=l.length:=by show l.toArray.size=_;rw [List.size_toArray]
theorem iR {l m:List Nat} (h:tx l=tx m):l=m:=by rw [<-mC l,h,mC]
theorem aEg (z:Str):z=tx z.cps.toList:=by cases z;unfold tx;rw [Array.toArray_toList]
theorem fU (l m:List Nat):tx l++tx m=tx (l++m):=by
 rw [aEg (tx l++tx m)]
 congr 1
 show((tx l).cps++(tx m).cps).toList=_
 rw [Array.toList_append,mC,mC]
section
variable {X:Cx}
def aUc:V->Option Int->Option Int->Hp->VK->Prop:=fun x lo hi H Q=>∃(z:List Nat) (a b:Nat),x= .str (tx z)/\lo=some (a:Int)/\hi=some (b:Int)/\a<=b/\z.length<=sizeLine/\Q (.str (tx ((z.drop a).take (b-a)))) H
end
def Its (z:List Nat):It:=⟨fun i _=>i<z.length,fun i H x H'=>H'=H/\∃c,z[i]? =some c/\x= .str (tx [c]),fun i _=>z.length<=i⟩
theorem aLs {P:Program} {w:World} {K:PySem.W.Frag} {tg:Expr} (it:Addr) (z:List Nat) (t:Tok):Turn P w K tg (Its z) [it] it (fun i h=>h.IsStrIter it "str_ascii_iterator" (tx z) t i) where
 mem:=by simp
 obj:=fun i h st b hb=>by
  have e:b=it:=by simpa using hb
  subst e
  obtain⟨o,e,c,d⟩:=st
  exact⟨o,e,fun v z=>by rw [d]at z;cases z⟩
 keep:=fun i h h' st k=>let⟨o,ho,r⟩:=st;⟨o,k it (by simp) o ho,r⟩
 item:=by
  intro X hP hw hK hc i pins s σ H E I hf st hg
  subst hP hw hK
  obtain⟨f0,f1,f2,f3,f4,f5⟩:=hf it (by simp)
  have hx:(tx z).cps[i]? =some (z[i]'hg):=by
   show z.toArray[i]? =_
   rw [List.getElem?_toArray,List.getElem?_eq_getElem hg]
  refine wpAny_pyNext_ascii_item st hx fun h' st' sb=>?_
  have I1:Inv X pins σ H {s with heap:=h',toks:=s.toks+1}:=I.turned (fun b o hb e=>(sb.2 b hb).trans e) f0 f1 f3 f4 f5
  obtain⟨o,e,c,d⟩:=id st'
  exact⟨_,rfl,aGy (s:={s with heap:=h',toks:=s.toks+1}) e c d (by decide) ⟨.str (tx [z[i]'hg]),H,I1,⟨_,rfl⟩,⟨rfl,_,List.getElem?_eq_getElem hg,rfl⟩,st',fun b hb=>(hf b hb).1⟩⟩
 done:=by
  intro X hP hw hK hc i pins s σ H E I hf st hg
  subst hP hw hK
  obtain⟨f0,f1,f2,f3,f4,f5⟩:=hf it (by simp)
  have hx:(tx z).cps[i]? =none:=by
   show z.toArray[i]? =_
   rw [List.getElem?_toArray,List.getElem?_eq_none hg]
  exact wpAny_pyNext_ascii_end (I.ok.hd hc) st hx fun h' eb=>⟨rfl,I.turned (t':=s.toks) (fun b o hb e=>eb b o hb e) f0 f1 f3 f4 f5⟩
 self:=fun _ _ _ _ _ st h=>wpAny_pyIter_striter_ascii st h
section
variable {X:Cx} {tg:Expr}
def aUf (te:TE):TI:=fun σ H R=>te σ H fun x H1=>∃z:List Nat,x= .str (tx z)/\(∀c∈z,c<128)/\R (Its z) H1
theorem aQg {l:Expr} {tl:TE} (hl:PE X l tl):PI X tg l (aUf tl):=by
 intro pins s σ H R I h
 refine thn (hl pins s σ H _ I h) fun v s1 ⟨x,H1,I1,r1,q1⟩=>?_
 obtain⟨z,rfl,ha,q⟩:=q1
 obtain⟨t,rfl⟩:=r1
 refine wpAny_pyIter_ascii (by
  show z.toArray.all (·<128)=true
  rw [List.all_toArray,List.all_eq_true]
  exact fun c hc=>decide_eq_true (ha c hc)) ?_
 refine⟨s1.heap.objs.size,[s1.heap.objs.size],_,_,H1,rfl,I1.kept (t':=s1.toks) fun b o e=>Heap.get?_push_of_some _ e,aLs _ z t,⟨_,Heap.get?_push_size _ rfl,rfl,rfl⟩,fun b hb=>?_,q⟩
 have e:b=s1.heap.objs.size:=by simpa using hb
 subst e
 exact I1.fpOk (Nat.le_refl _) (I1.hok.fresh (Nat.le_refl _))
theorem aNe {z:List Nat} {g:TG} {tb:TS} {D:Ends} {σ:St} {H:Hp} (Pv:Nat->St->Hp->Prop) (h0:Pv 0 σ H)
  (hs:∀i c σ H,z[i]? =some c->Pv i σ H->g (.str (tx [c])) σ H fun σ2 H2=>tb {D with nx:=Pv (i+1),ct:=Pv (i+1),bk:=D.nx} σ2 H2) (hd:∀σ H,Pv z.length σ H->D.nx σ H):
  ∃W:Nat->Nat->St->Hp->Prop,(∃m,W 0 m σ H)/\∀i m σ H,W i m σ H->
   ((Its z).stop i H/\D.nx σ H)∨((Its z).go i H/\∃N:St->Hp->Prop,(∀σ' H',N σ' H'->∃m',m'<m/\W (i+1) m' σ' H')/\∀x H',(Its z).yld i H x H'->g x σ H' fun σ2 H2=>tb {D with nx:=N,ct:=N,bk:=D.nx} σ2 H2):=by
 refine⟨fun i m σ H=>m=z.length-i/\i<=z.length/\Pv i σ H,⟨z.length,by simp,Nat.zero_le _,h0⟩,?_⟩
 rintro i m σ H ⟨rfl,hi,p⟩
 by_cases hlt:i<z.length
 ·refine .inr ⟨hlt,Pv (i+1),fun σ' H' p'=>⟨z.length-(i+1),by omega,rfl,hlt,p'⟩,fun x H' y=>?_⟩
  obtain⟨e,c,hc,ex⟩:=y
  subst e ex
  exact hs i c σ _ hc p
 ·have e:i=z.length:=by omega
  subst e
  exact .inl ⟨Nat.le_refl _,hd σ H p⟩
def glu (sep:List Nat):List (List Nat)->List Nat
 | []=>[]
 | [x]=>x
 |x::y::r=>x++(sep++glu sep (y::r))
theorem aDk (sep:List Nat):∀ls:List (List Nat),Str.join (tx sep) (ls.map tx)=tx (glu sep ls)
 | []=>rfl
 | [x]=>rfl
 |x::y::r=>by
  show tx x++tx sep++Str.join (tx sep) ((y::r).map tx)=_
  rw [aDk sep (y::r),fU,fU,glu,List.append_assoc]
theorem aEh (n:Nat):∀(ls:List (List Nat)) (a:Nat),(ls.map tx).foldl (fun acc s=>acc+s.length+n) a=a+((ls.map List.length).sum+ls.length*n)
 | [],a=>by simp
 |x::r,a=>by
  rw [List.map_cons,List.foldl_cons,aEh n r,fQ,List.map_cons,List.sum_cons,List.length_cons,Nat.succ_mul]
  omega
theorem aAe:∀{ls:List (List Nat)} {us:List Value},Vals (ls.map fun l=>V.str (tx l)) us->∃l:List (Str×Tok),strValues l=us/\l.map (·.1)=ls.map tx
 | [],_,.nil=>⟨[],rfl,rfl⟩
 |x::ls,_,.cons r1 t=>by
  obtain⟨l,e1,e2⟩:=aAe t
  obtain⟨tk,rfl⟩:=r1
  exact⟨(tx x,tk)::l,by rw [<-e1];rfl,by rw [List.map_cons,e2];rfl⟩
def rJoin:V->List V->Hp->VK->Prop:=fun x xs H Q=>∃(sep:List Nat) (p:Addr) (ls:List (List Nat)),x= .str (tx sep)/\xs=[.ref p]/\H p=some (.lst (ls.map fun l=>V.str (tx l)))/\(ls.map List.length).sum+ls.length*sep.length<=100000/\Q (.str (tx (glu sep ls))) H
theorem aNw:MtR X "str.join" rJoin:=by
 intro pins s σ H x xs v us Q I rx rv h
 obtain⟨sep,p,ls,rfl,rfl,hp,hz,q⟩:=h
 obtain⟨t,rfl⟩:=rx
 obtain⟨u,rfl,ru⟩:=vals1 rv
 cases ru
 obtain⟨its,r,pl,_⟩:=I.list (SqL.of hp)
 obtain⟨l,e1,e2⟩:=aAe r
 have ok:JoinOk (tx sep) (ls.map tx)=true:=by
  have:Builtin.Str.tooLong ((ls.map tx).toArray.foldl (fun acc s=>acc+s.length+(tx sep).length) 0)=false:=by
   rw [List.foldl_toArray,aEh,fQ]
   unfold Builtin.Str.tooLong
   rw [decide_eq_false_iff_not,sizeLine_eq]
   omega
  unfold JoinOk
  rw [this]
  rfl
 refine SC.join (l:=l) (texts:=ls.map tx) (by rw [e1];exact pl.isList) e2 ok fun t' k=>⟨.str (tx (glu sep ls)),H,I.tok k,⟨t',?_⟩,q⟩
 show Value.str (Builtin.Str.glued (tx sep) (ls.map tx)) t'=_
 rw [StrLaws.glued_eq_join,aDk]
def aN8:V->List V->Hp->VK->Prop:=fun x xs H Q=>∃(z y:List Nat),x= .str (tx z)/\xs=[.str (tx y)]/\Q (.bl (decide (z.take y.length=y))) H
theorem aHz:MtR X "str.startswith" aN8:=by
 intro pins s σ H x xs v us Q I rx rv h
 obtain⟨z,y,rfl,rfl,q⟩:=h
 obtain⟨t,rfl⟩:=rx
 obtain⟨u,rfl,tk,rfl⟩:=vals1 rv
 have e:Txt.startswith (tx z) (tx y)=decide (z.take y.length=y):=by
  unfold Txt.startswith
  rw [StrLaws.subAt_eq,fQ,fQ,mC,mC,List.drop_zero,Bool.eq_iff_iff,Bool.and_eq_true,decide_eq_true_iff,beq_iff_eq,decide_eq_true_iff]
  constructor
  ·exact fun h=>h.2
  ·intro h
   refine⟨?_,h⟩
   have:=congrArg List.length h
   rw [List.length_take]at this
   omega
 refine SC.startswith ⟨.bl _,H,I,rfl,?_⟩
 rw [e]
 exact q
def aR0:List V->Hp->VK->Prop:=fun xs H Q=>∃z:List Nat,xs=[.str (tx z)]/\z≠[]/\NumText.AllDigits z/\z.length<=640/\Q (.int ((NumText.digitsVal z:Nat):Int)) H
theorem aIk:dU X (.type "int") aR0:=by
 intro pins s σ H xs us Q I r h
 obtain⟨z,rfl,h1,h2,h3,q⟩:=h
 obtain⟨u,rfl,tk,rfl⟩:=vals1 r
 have e:intText? (tx z)=some ((NumText.digitsVal z:Nat):Int):=by
  have:=intText_digits (x:=tx z) (by rw [mC];exact h2) (by rw [mC];exact h1) (by rw [fQ];omega)
  rw [mC]at this
  exact this
 exact W.KIN.call_text e (by rw [fQ];exact h3) ⟨.int _,H,I.tok _,⟨_,rfl⟩,q⟩
end
def itx (i:Int):List Nat:=(Str.ofString (toString i)).cps.toList
theorem aQ3 (i:Int):Str.ofString (toString i)=tx (itx i):=aEg _
section
variable {X:Cx}
def aO4:List V->Hp->VK->Prop:=fun xs H Q=>∃i:Int,xs=[.int i]/\i.natAbs.log2<1920/\Q (.str (tx (itx i))) H
theorem qI:dU X (.type "str") aO4:=by
 intro pins s σ H xs us Q I r h
 obtain⟨i,rfl,hi,q⟩:=h
 exact aB4 pins s σ H _ us Q I r ⟨i,rfl,hi,by show Q (.str (Str.ofString (toString i))) H;rw [aQ3];exact q⟩
end
def aOg:R2:=fun x y H Q=>∃i j,x= .str i/\y= .str j/\i.length+j.length<=sizeLine/\Q (.str (i++j)) H
theorem aN9 {X:Cx}:OpR X (binaryOp .Add) aOg:=yC
def bW (v:Option Int) (d n:Nat):Nat:=match v with
 |none=>d
 |some i=>(max 0 (min (if i<0 then i+(n:Int)else i) (n:Int))).toNat
theorem wH {v:Option Int} {d n:Nat} (h:d<=n):bW v d n<=n:=by
 unfold bW
 cases v with
 |none=>exact h
 |some i=>dsimp only;split<;>omega
theorem aDf (v:Option Int) (d n:Nat):((bW v d n:Nat):Int)=match v with|none=>(d:Int)|some i=>max 0 (min (if i<0 then i+(n:Int)else i) (n:Int)):=by
 cases v with
 |none=>rfl
 |some i=>show((max 0 (min (if i<0 then i+(n:Int)else i) (n:Int))).toNat:Int)=_;dsimp only;split<;>omega
theorem xN {a b:Int} (h:b<=a):sliceRange a b 1=[]:=by
 unfold sliceRange
 rw [if_pos (by decide)]
 simp [show¬a<b by omega]
theorem aM3 (lo hi:Option Int) (n:Nat):Builtin.Str.strSliceIndices lo hi 1 n=Builtin.Str.strSliceIndices (some ((bW lo 0 n:Nat):Int)) (some ((max (bW lo 0 n) (bW hi n n):Nat):Int)) 1 n:=by
 have l1:bW lo 0 n<=n:=wH (Nat.zero_le _)
 have l2:bW hi n n<=n:=wH (Nat.le_refl _)
 have h0:Builtin.Str.strSliceIndices lo hi 1 n=sliceRange ((bW lo 0 n:Nat):Int) ((bW hi n n:Nat):Int) 1:=by
  rw [aDf,aDf]
  rfl
 have h1:Builtin.Str.strSliceIndices (some ((bW lo 0 n:Nat):Int)) (some ((max (bW lo 0 n) (bW hi n n):Nat):Int)) 1 n=sliceRange ((bW lo 0 n:Nat):Int) ((max (bW lo 0 n) (bW hi n n):Nat):Int) 1:=by
  have e1:max (0:Int) (min ((bW lo 0 n:Nat):Int) (n:Int))=((bW lo 0 n:Nat):Int):=by omega
  have e2:max (0:Int) (min ((max (bW lo 0 n) (bW hi n n):Nat):Int) (n:Int))=((max (bW lo 0 n) (bW hi n n):Nat):Int):=by omega
  simp only [Builtin.Str.strSliceIndices,show¬(((bW lo 0 n:Nat):Int)<0) by omega,show¬(((max (bW lo 0 n) (bW hi n n):Nat):Int)<0) by omega,if_false,e1,e2,show((1:Int)>0)=True from by simp,if_true]
 rw [h0,h1]
 rcases Nat.le_total (bW lo 0 n) (bW hi n n)with g|g
 ·rw [Nat.max_eq_right g]
 ·rw [Nat.max_eq_left g,xN (by omega),xN (by omega)]
section
variable {X:Cx}
def aTq:V->Option Int->Option Int->Hp->VK->Prop:=fun x lo hi H Q=>∃z:List Nat,x= .str (tx z)/\z.length<=sizeLine/\Q (.str (tx ((z.drop (bW lo 0 z.length)).take (bW hi z.length z.length-bW lo 0 z.length)))) H
theorem wM {pins:List (Addr×Obj)} {s:Shared} {σ:St} {H:Hp} {z:List Nat} {t:Tok} {l u:Option (Int×Tok)} {sl:Addr} {Q:VK} (I:Inv X pins σ H s) (hs:s.heap.IsSlice sl l u none) (hz:z.length<=sizeLine)
  (q:Q (.str (tx ((z.drop (bW (l.map (·.1)) 0 z.length)).take (bW (u.map (·.1)) z.length z.length-bW (l.map (·.1)) 0 z.length)))) H):wpAny (model X.prog X.w) X.A (getItem (.str (tx z) t) (.ref sl)) (EP X pins σ Q) X.xe s:=by
 refine wpAny_getItem_str_slice hs rfl ?_
 have hl:=fQ z
 generalize ea:bW (l.map (·.1)) 0 z.length=a at q
 generalize eb:bW (u.map (·.1)) z.length z.length=b at q
 have la:a<=z.length:=by rw [<-ea];exact wH (Nat.zero_le _)
 have lb:b<=z.length:=by rw [<-eb];exact wH (Nat.le_refl _)
 have pk0:slicePicked (tx z) l u none=Builtin.Str.strSliceIndices (some (a:Int)) (some ((max a b:Nat):Int)) 1 z.length:=by
  show Builtin.Str.strSliceIndices _ _ 1 (tx z).length=_
  rw [hl,aM3,ea,eb]
 have pk:(slicePicked (tx z) l u none).filterMap ((tx z).cps[·]?)=(z.drop a).take (b-a):=by
  have h:=StrLaws.sliced_plain (tx z) (a:=a) (b:=max a b) (by omega) (by omega)
  rw [hl,mC,show max a b-a=b-a by omega]at h
  rw [pk0]
  exact h
 unfold sliceMade
 split
 ·rename_i hw
  simp only [Option.map_none,Option.getD_none,beq_self_eq_true,Bool.true_and,beq_iff_eq]at hw
  rw [pk0,StrLaws.strSliceIndices_plain (by omega) (by omega),List.length_map,List.length_range,hl]at hw
  have e:(z.drop a).take (b-a)=z:=by
   rcases Nat.eq_zero_or_pos z.length with g|g
   ·rw [List.length_eq_zero_iff.mp g];simp
   ·have:a=0:=by omega
    subst this
    rw [List.drop_zero]
    exact List.take_of_length_le (by omega)
  rw [e]at q
  exact⟨.str (tx z),H,I,⟨t,rfl⟩,q⟩
 ·rw [pk]
  exact⟨by show(tx ((z.drop a).take (b-a))).length<=sizeLine;rw [fQ,List.length_take,List.length_drop];omega,.str (tx ((z.drop a).take (b-a))),H,I.tok _,⟨_,rfl⟩,q⟩
theorem aRh:SlR X aTq:=by
 intro pins s σ H x v vl vu lo hi sl Q I rx hs pl pu h
 obtain⟨z,rfl,hz,q⟩:=h
 obtain⟨t,rfl⟩:=rx
 refine⟨"str",_,F.slot_str_getitem.lookup,typeIs_str _ _ _,?_⟩
 cases pl with
 |int i ti=>
  cases pu with
  |int j tj=>exact wM (l:=some (i,ti)) (u:=some (j,tj)) I hs hz q
  |none=>exact wM (l:=some (i,ti)) (u:=none) I hs hz q
 |none=>
  cases pu with
  |int j tj=>exact wM (l:=none) (u:=some (j,tj)) I hs hz q
  |none=>exact wM (l:=none) (u:=none) I hs hz q
theorem aD5 (k d n:Nat):bW (some (k:Int)) d n=min k n:=by
 unfold bW
 dsimp only
 rw [if_neg (by omega)]
 omega
theorem aLi:SlR X aUc:=fun pins s σ H x v vl vu lo hi sl Q I rx hs pl pu h=>aRh pins s σ H x v vl vu lo hi sl Q I rx hs pl pu (by
 obtain⟨z,a,b,rfl,rfl,rfl,hab,hz,q⟩:=h
 refine⟨z,rfl,hz,?_⟩
 rw [aD5,aD5]
 have e:(z.drop (min a z.length)).take (min b z.length-min a z.length)=(z.drop a).take (b-a):=by
  rcases Nat.lt_or_ge a z.length with g|g
  ·rw [Nat.min_eq_left (Nat.le_of_lt g)]
   rcases Nat.lt_or_ge b z.length with g2|g2
   ·rw [Nat.min_eq_left (Nat.le_of_lt g2)]
   ·rw [Nat.min_eq_right g2,List.take_of_length_le (by rw [List.length_drop];omega),List.take_of_length_le (by rw [List.length_drop];omega)]
  ·rw [Nat.min_eq_right g,List.drop_of_length_le (Nat.le_refl _),List.drop_of_length_le g,List.take_nil,List.take_nil]
 rw [e]
 exact q)
end
section
variable {X:Cx}
end
structure Opq where
 φ:(Addr->Prop)->(Addr->Prop)->Hp->V->Prop
 mono:∀{W B B' H H'} {v:V},(∀b o,¬B b->H b=some o->¬B' b/\H' b=some o)->φ W B H v->φ W B' H' v
 wm:∀{W W' B H} {v:V},(∀p,W p->W' p)->φ W B H v->φ W' B H v
inductive U where
 |v (x:V)
 |tp (l:List U)
 |ls (l:List U)
 |ob (C:Addr) (ns:List Str) (us:List U)
 |dk (ns:List Str) (us:List U)
 |op (o:Opq)
 |wl
abbrev U.n (i:Int):U:= .v (.int i)
abbrev U.b (c:Bool):U:= .v (.bl c)
abbrev U.s (x:Str):U:= .v (.str x)
abbrev U.no:U:= .v .non
def Wll (H:Hp) (a:Addr):Prop:=∃x y z:Int,H a=some (.lst [.int x,.int y,.int z])
section
variable (W B:Addr->Prop) (H:Hp)
mutual
def DU:U->V->Prop
 | .v x,y=>y=x/\iM x=true
 | .tp l,y=>∃p xs,y= .ref p/\¬B p/\H p=some (.tup xs)/\DUs l xs
 | .ls l,y=>∃p xs,y= .ref p/\¬B p/\H p=some (.lst xs)/\DUs l xs
 | .ob C ns us,y=>∃p dx xs,y= .ref p/\¬B p/\H p=some (.ins C dx (ns.zip xs))/\ns.length=xs.length/\DUs us xs
 | .dk ns us,y=>∃p xs,y= .ref p/\¬B p/\H p=some (.dK ((ns.map Sum.inr).zip xs))/\ns.length=xs.length/\DUs us xs
 | .op o,y=>o.φ W B H y
 | .wl,y=>∃p,y= .ref p/\W p
def DUs:List U->List V->Prop
 | [],xs=>xs=[]
 |u::l,xs=>∃x r,xs=x::r/\DU u x/\DUs l r
end
end
section
variable {W B B':Addr->Prop} {H H':Hp}
mutual
theorem DU.mono (k:∀b o,¬B b->H b=some o->¬B' b/\H' b=some o):∀(u:U) {v:V},DU W B H u v->DU W B' H' u v
 | .v _,_,h=>h
 | .tp l,_,⟨p,xs,e,nb,hp,t⟩=>⟨p,xs,e,(k _ _ nb hp).1,(k _ _ nb hp).2,DUs.mono k l t⟩
 | .ls l,_,⟨p,xs,e,nb,hp,t⟩=>⟨p,xs,e,(k _ _ nb hp).1,(k _ _ nb hp).2,DUs.mono k l t⟩
 | .ob _ _ us,_,⟨p,dx,xs,e,nb,hp,hl,t⟩=>⟨p,dx,xs,e,(k _ _ nb hp).1,(k _ _ nb hp).2,hl,DUs.mono k us t⟩
 | .dk _ us,_,⟨p,xs,e,nb,hp,hl,t⟩=>⟨p,xs,e,(k _ _ nb hp).1,(k _ _ nb hp).2,hl,DUs.mono k us t⟩
 | .op o,_,h=>o.mono k h
 | .wl,_,h=>h
theorem DUs.mono (k:∀b o,¬B b->H b=some o->¬B' b/\H' b=some o):∀(l:List U) {xs:List V},DUs W B H l xs->DUs W B' H' l xs
 | [],_,h=>h
 |u::l,_,⟨x,r,e,h,t⟩=>⟨x,r,e,DU.mono k u h,DUs.mono k l t⟩
end
theorem DUs.length:∀{l:List U} {xs:List V},DUs W B H l xs->l.length=xs.length
 | [],_,h=>by rw [show _=[]from h];rfl
 |_::_,_,⟨_,_,e,_,t⟩=>by rw [e,List.length_cons,List.length_cons,DUs.length t]
theorem DUs.get:∀{l:List U} {xs:List V} {i:Nat} {u:U},DUs W B H l xs->l[i]? =some u->∃x,xs[i]? =some x/\DU W B H u x
 | [],_,_,_,_,e=>by simp at e
 |_::_,_,0,_,⟨x,_,e,h,_⟩,q=>by simp at q;subst q e;exact⟨x,rfl,h⟩
 |_::_,_,i+1,_,⟨_,_,e,_,t⟩,q=>by
  obtain⟨y,h1,h2⟩:=DUs.get (i:=i) t (by simpa using q)
  exact⟨y,by rw [e];simpa using h1,h2⟩
theorem DUs.getV {l:List U} {xs:List V} {i:Nat} {x:V} (h:DUs W B H l xs) (e:xs[i]? =some x):∃u,l[i]? =some u/\DU W B H u x:=by
 have hi:i<l.length:=by rw [h.length];exact(List.getElem?_eq_some_iff.mp e).1
 obtain⟨y,h1,h2⟩:=h.get (List.getElem?_eq_getElem hi)
 rw [e]at h1
 cases h1
 exact⟨_,List.getElem?_eq_getElem hi,h2⟩
theorem DUs.app:∀{l m:List U} {xs ys:List V},DUs W B H l xs->DUs W B H m ys->DUs W B H (l++m) (xs++ys)
 | [],_,_,_,h,t=>by rw [show _=[]from h];exact t
 |_::_,_,_,_,⟨x,r,e,h,t⟩,t'=>⟨x,_,by rw [e];rfl,h,DUs.app t t'⟩
theorem DUs.drop:∀{l:List U} {xs:List V} (i:Nat),DUs W B H l xs->DUs W B H (l.drop i) (xs.drop i)
 |_,_,0,h=>h
 | [],_,_+1,h=>by rw [show _=[]from h];rfl
 |_::_,_,i+1,⟨_,_,e,_,t⟩=>by rw [e];exact DUs.drop i t
theorem DUs.take:∀{l:List U} {xs:List V} (i:Nat),DUs W B H l xs->DUs W B H (l.take i) (xs.take i)
 |_,_,0,_=>rfl
 | [],_,_+1,h=>by rw [show _=[]from h];rfl
 |_::_,_,i+1,⟨x,_,e,h,t⟩=>by rw [e];exact⟨x,_,rfl,h,DUs.take i t⟩
theorem DUs.one {u:U} {x:V} (h:DU W B H u x):DUs W B H [u] [x]:=⟨x,[],rfl,h,rfl⟩
end
structure Fw (W:Addr->Prop) (H H':Hp):Prop where
 fr:∀b o,¬W b->H b=some o->H' b=some o
 wo:∀p,W p->Wll H' p
theorem Fw.trans {W:Addr->Prop} {H H1 H2:Hp} (a:Fw W H H1) (b:Fw W H1 H2):Fw W H H2:=⟨fun c o n h=>b.fr c o n (a.fr c o n h),b.wo⟩
structure EB (W B:Addr->Prop) (H:Hp):Prop where
 bl:∀p,B p->∃xs,H p=some (.lst xs)
 wb:∀p,W p->B p
 wo:∀p,W p->Wll H p
inductive Sl where
 |no
 |sh (u:U)
 |ow (l:List U)
 |br (l:List U)
abbrev EV:=List Sl
def Sl.rd:Sl->U
 | .sh u=>u
 | .ow l=> .ls l
 | .br l=> .ls l
 | .no=> .wl
def Sl.es:Sl->(U->Prop)->Prop
 | .sh u,R=>R u
 | .ow l,R=>R (.ls l)
 |_,_=>False
section
variable (W B:Addr->Prop) (H H':Hp)
def RO:Sl->V->Prop
 | .sh u,y=>DU W B H' u y
 | .ow l,y=>∃p xs,y= .ref p/\H p=none/\H' p=some (.lst xs)/\DUs W (fun b=>B b∨b=p) H' l xs
 | .br l,y=>∃p xs,y= .ref p/\¬W p/\H' p=some (.lst xs)/\DUs W B H' l xs
 | .no,_=>False
def DB (u:U) (y:V):Prop:=DU W B H u y∨∃l p xs,u= .ls l/\y= .ref p/\¬W p/\H p=some (.lst xs)/\DUs W B H l xs
structure EE (ρ:EV) (σ:St):Prop where
 eb:EB W B H
 len:ρ.length=σ.length
 sh:∀(i:Nat) (u:U),ρ[i]? =some (Sl.sh u)->∃v,σ[i]? =some (some v)/\DU W B H u v
 ow:∀(i:Nat) (l:List U),ρ[i]? =some (Sl.ow l)∨ρ[i]? =some (Sl.br l)->∃p xs,σ[i]? =some (some (V.ref p))/\¬W p/\H p=some (.lst xs)/\DUs W B H l xs
end
section
variable {W B:Addr->Prop} {H H' H2:Hp} {ρ:EV} {σ:St}
theorem EB.keep (e:EB W B H) (f:Fw W H H'):∀b o,¬B b->H b=some o->¬B b/\H' b=some o:=fun b o n h=>⟨n,f.fr b o (fun w=>n (e.wb b w)) h⟩
theorem EB.dm (e:EB W B H):∀p,B p->H p≠none:=fun p h n=>by
 obtain⟨xs,q⟩:=e.bl p h
 rw [q]at n
 cases n
theorem EB.to (e:EB W B H) (f:Fw W H H'):EB W B H':=by
 refine⟨fun p hp=>?_,e.wb,f.wo⟩
 by_cases w:W p
 ·obtain⟨x,y,z,q⟩:=f.wo p w
  exact⟨_,q⟩
 ·obtain⟨xs,q⟩:=e.bl p hp
  exact⟨xs,f.fr p _ w q⟩
theorem EB.refl (e:EB W B H):Fw W H H:=⟨fun _ _ _ h=>h,e.wo⟩
theorem EB.new (e:EB W B H) {p:Addr} {o:HO} (n:H p=none):Fw W H (upd H p o):=⟨fun b u _ h=>by
 rw [aQ (aU h n)]
 exact h,fun q hq=>by
 obtain⟨x,y,z,h⟩:=e.wo q hq
 exact⟨x,y,z,by rw [aQ (aU h n)];exact h⟩⟩
theorem EB.nw (e:EB W B H) {p:Addr} (n:H p=none):¬B p:=fun h=>e.dm p h n
theorem EB.same (e:EB W B H) (s:dW H H'):Fw W H H':=⟨fun b o _ h=>s b o h,fun p hp=>by
 obtain⟨x,y,z,h⟩:=e.wo p hp
 exact⟨x,y,z,s _ _ h⟩⟩
theorem EE.to (e:EE W B H ρ σ) (f:Fw W H H'):EE W B H' ρ σ:=
 ⟨e.eb.to f,e.len,fun i u h=>let⟨v,h1,h2⟩:=e.sh i u h;⟨v,h1,DU.mono (e.eb.keep f) u h2⟩,fun i l h=>let⟨p,xs,h1,h2,h3,h4⟩:=e.ow i l h;⟨p,xs,h1,h2,f.fr _ _ h2 h3,DUs.mono (e.eb.keep f) l h4⟩⟩
theorem RO.back {s:Sl} {v:V} (f:Fw W H H') (h:RO W B H' H2 s v):RO W B H H2 s v:=by
 match s,h with
 | .sh u,h=>exact h
 | .ow l,⟨p,xs,e1,n1,h2,h3⟩=>
  refine⟨p,xs,e1,?_,h2,h3⟩
  cases hp:H p with
  |none=>rfl
  |some o=>
   by_cases w:W p
   ·obtain⟨_,_,_,z⟩:=f.wo p w
    rw [z]at n1
    cases n1
   ·rw [f.fr p o w hp]at n1
    cases n1
 | .br l,h=>exact h
theorem DB.to {u:U} {v:V} (h:DB W B H u v) (e:EB W B H) (f:Fw W H H'):DB W B H' u v:=by
 rcases h with h|⟨l,p,xs,e1,e2,w,h1,h2⟩
 ·exact .inl (DU.mono (e.keep f) u h)
 ·exact .inr ⟨l,p,xs,e1,e2,w,f.fr _ _ w h1,DUs.mono (e.keep f) l h2⟩
theorem DUs.less {p:Addr} {l:List U} {xs:List V} (h:DUs W (fun b=>B b∨b=p) H l xs):DUs W B H l xs:=DUs.mono (fun _ _ n e=>⟨fun z=>n (.inl z),e⟩) l h
theorem RO.db {s:Sl} {v:V} (e:EB W B H) (h:RO W B H H' s v):DB W B H' s.rd v:=by
 match s,h with
 | .sh u,h=>exact .inl h
 | .ow l,⟨p,xs,e1,h1,h2,h3⟩=>exact .inl ⟨p,xs,e1,e.nw h1,h2,h3.less⟩
 | .br l,⟨p,xs,e1,h1,h2,h3⟩=>exact .inr ⟨l,p,xs,rfl,e1,h1,h2,h3⟩
theorem RO.du {s:Sl} {v:V} {R:U->Prop} (e:EB W B H) (h:RO W B H H' s v) (r:s.es R):∃u,R u/\DU W B H' u v:=by
 match s,h,r with
 | .sh u,h,r=>exact⟨u,r,h⟩
 | .ow l,⟨p,xs,e1,h1,h2,h3⟩,r=>exact⟨.ls l,r,p,xs,e1,e.nw h1,h2,h3.less⟩
theorem DB.int {i:Int} {y:V} (h:DB W B H (.n i) y):y= .int i:=by
 rcases h with h|⟨l,p,xs,e1,_⟩
 ·exact h.1
 ·cases e1
theorem DB.fl {x y:V} (h:DB W B H (.v x) y):y=x/\iM x=true:=by
 rcases h with h|⟨l,p,xs,e1,_⟩
 ·exact h
 ·cases e1
theorem DB.tp {l:List U} {y:V} (h:DB W B H (.tp l) y):∃p xs,y= .ref p/\¬B p/\H p=some (.tup xs)/\DUs W B H l xs:=by
 rcases h with h|⟨l,p,xs,e1,_⟩
 ·exact h
 ·cases e1
theorem DB.ob {C:Addr} {ns:List Str} {us:List U} {y:V} (h:DB W B H (.ob C ns us) y):∃p dx xs,y= .ref p/\¬B p/\H p=some (.ins C dx (ns.zip xs))/\ns.length=xs.length/\DUs W B H us xs:=by
 rcases h with h|⟨l,p,xs,e1,_⟩
 ·exact h
 ·cases e1
theorem DB.dk {ns:List Str} {us:List U} {y:V} (h:DB W B H (.dk ns us) y):∃p xs,y= .ref p/\¬B p/\H p=some (.dK ((ns.map Sum.inr).zip xs))/\ns.length=xs.length/\DUs W B H us xs:=by
 rcases h with h|⟨l,p,xs,e1,_⟩
 ·exact h
 ·cases e1
theorem DB.ls {l:List U} {y:V} (e:EB W B H) (h:DB W B H (.ls l) y):∃p xs,y= .ref p/\¬W p/\H p=some (.lst xs)/\DUs W B H l xs:=by
 rcases h with ⟨p,xs,e1,nb,h1,h2⟩|⟨l,p,xs,e1,e2,w,h1,h2⟩
 ·exact⟨p,xs,e1,fun w=>nb (e.wb p w),h1,h2⟩
 ·cases e1
  exact⟨p,xs,e2,w,h1,h2⟩
end
abbrev TV:=EV->(Sl->Prop)->Prop
def VT (t:TE) (F:TV):Prop:=∀{W B:Addr->Prop} {ρ:EV} {σ:St} {H:Hp} {R:Sl->Prop} {Q:VK},EE W B H ρ σ->F ρ R->(∀s v H',R s->Fw W H H'->RO W B H H' s v->Q v H')->t σ H Q
def VE (X:Cx) (e:Expr) (F:TV):Prop:=∃t,PE X e t/\VT t F
abbrev TVc:=EV->(Bool->Prop)->Prop
def VTc (t:TT) (F:TVc):Prop:=∀{W B:Addr->Prop} {ρ:EV} {σ:St} {H:Hp} {R:Bool->Prop} {Q:Bool->Hp->Prop},EE W B H ρ σ->F ρ R->(∀c H',R c->Fw W H H'->Q c H')->t σ H Q
def VC (X:Cx) (e:Expr) (F:TVc):Prop:=∃t,PT X e t/\VTc t F
def VW (X:Cx) (e:Expr) (F:TVc):Prop:=∃t,PW X e t/\VTc t F
abbrev TVa:=EV->(List U->Prop)->Prop
def VTa (n:Nat) (t:TA) (F:TVa):Prop:=∀{W B:Addr->Prop} {ρ:EV} {σ:St} {H:Hp} {R:List U->Prop} {Q:List V->Hp->Prop},EE W B H ρ σ->F ρ R->(∀us vs H',R us->us.length=n->Fw W H H'->DUs W B H' us vs->Q vs H')->t σ H Q
def VA (X:Cx) (es:List Expr) (F:TVa):Prop:=∃t,PA X es t/\VTa es.length t F
def DBs (W B:Addr->Prop) (H:Hp):List U->List V->Prop
 | [],xs=>xs=[]
 |u::l,xs=>∃x r,xs=x::r/\DB W B H u x/\DBs W B H l r
theorem DBs.to {W B:Addr->Prop} {H H':Hp} (e:EB W B H) (f:Fw W H H'):∀{us:List U} {vs:List V},DBs W B H us vs->DBs W B H' us vs
 | [],_,h=>h
 |_::_,_,⟨x,r,e1,h,t⟩=>⟨x,r,e1,h.to e f,DBs.to e f t⟩
def VTb (t:TA) (F:TVa):Prop:=∀{W B:Addr->Prop} {ρ:EV} {σ:St} {H:Hp} {R:List U->Prop} {Q:List V->Hp->Prop},EE W B H ρ σ->F ρ R->(∀us vs H',R us->Fw W H H'->DBs W B H' us vs->Q vs H')->t σ H Q
def VB (X:Cx) (es:List Expr) (F:TVa):Prop:=∃t,PA X es t/\VTb t F
def O2 (r:R2) (g:U->U->(Sl->Prop)->Prop):Prop:=∀{W B:Addr->Prop} {H:Hp} {u v:U} {x y:V} {R:Sl->Prop} {Q:VK},EB W B H->DB W B H u x->DB W B H v y->g u v R->(∀s z H',R s->Fw W H H'->RO W B H H' s z->Q z H')->r x y H Q
def CB (r:List V->Hp->VK->Prop) (g:List U->(Sl->Prop)->Prop):Prop:=∀{W B:Addr->Prop} {H:Hp} {us:List U} {vs:List V} {R:Sl->Prop} {Q:VK},EB W B H->DBs W B H us vs->g us R->(∀s z H',R s->Fw W H H'->RO W B H H' s z->Q z H')->r vs H Q
def aTh (i:Nat):TV:=fun ρ R=>match (ρ[i]? :Option Sl)with
 |some (.sh u)=>R (.sh u)
 |some (.ow l)=>R (.br l)
 |some (.br l)=>R (.br l)
 |_=>False
def vC (u:U):TV:=fun _ R=>R (.sh u)
def vOp (g:U->U->(Sl->Prop)->Prop) (a b:TV):TV:=fun ρ R=>a ρ fun s=>b ρ fun s'=>g s.rd s'.rd R
def rK (F:TV):TVc:=fun ρ R=>F ρ fun s=>match s.rd with
 | .v (.bl c)=>R c
 |_=>False
def aUl (a b:TVc):TVc:=fun ρ R=>a ρ fun c=>(c=true->b ρ R)/\(c=false->R false)
def vOr (a b:TVc):TVc:=fun ρ R=>a ρ fun c=>(c=true->R true)/\(c=false->b ρ R)
def aSf (a:TVc):TVc:=fun ρ R=>a ρ fun c=>R (!c)
def aP2:TVa:=fun _ R=>R []
def aSx (a:TV) (b:TVa):TVa:=fun ρ R=>a ρ fun s=>s.es fun u=>b ρ fun us=>R (u::us)
def aSm (a:TV) (b:TVa):TVa:=fun ρ R=>a ρ fun s=>b ρ fun us=>R (s.rd::us)
def aTo (a:TVa):TV:=fun ρ R=>a ρ fun us=>R (.sh (.tp us))
def aUe (a:TVa):TV:=fun ρ R=>a ρ fun us=>R (.ow us)
def aRy (F:List U->(Sl->Prop)->Prop) (a:TVa):TV:=fun ρ R=>a ρ fun us=>F us R
def spV (F:List U->(Sl->Prop)->Prop):Sp:=fun vs H Q _=>∃W B us R,EB W B H/\DUs W B H us vs/\F us R/\∀s v H',R s->Fw W H H'->RO W B H H' s v->Q v H'
section
variable {X:Cx}
theorem aB (i:Nat) {x:Str} {pos:Pos} (hN:X.N[i]? =some x:=by rfl) (hv:Vis X.env.scope x:=by first|exact Or.inl rfl|exact Or.inr (Or.inl rfl)|exact Or.inr (Or.inr rfl)) (hd:(x==("__debug__":Str))=false:=by decide)
  (hcd:(x==("__classdict__":Str))=false:=by decide):VE X (.Name x pos) (aTh i):=⟨_,uX hN hv hd hcd,fun{W B ρ σ H R Q} e h q=>by
 unfold aTh at h
 split at h
 ·rename_i u hu
  obtain⟨v,h1,h2⟩:=e.sh i u hu
  exact⟨v,h1,q _ _ _ h e.eb.refl h2⟩
 ·rename_i l hu
  obtain⟨p,xs,h1,h2,h3,h4⟩:=e.ow i l (.inl hu)
  exact⟨_,h1,q _ _ _ h e.eb.refl ⟨p,xs,rfl,h2,h3,h4⟩⟩
 ·rename_i l hu
  obtain⟨p,xs,h1,h2,h3,h4⟩:=e.ow i l (.inr hu)
  exact⟨_,h1,q _ _ _ h e.eb.refl ⟨p,xs,rfl,h2,h3,h4⟩⟩
 ·exact h.elim⟩
theorem aLv {x:V} (f:iM x=true):VT (tC x) (vC (.v x)):=fun e h q=>q _ _ _ h e.eb.refl ⟨rfl,f⟩
theorem aF {i j pos}:VE X (.Constant (.int i) j pos) (vC (.n i)):=⟨_,dF,aLv rfl⟩
theorem cF {x j pos}:VE X (.Constant (.str x) j pos) (vC (.s x)):=⟨_,bK,aLv rfl⟩
theorem zJ {b j pos}:VE X (.Constant (.bool b) j pos) (vC (.b b)):=⟨_,aR2,aLv rfl⟩
theorem rR {j pos}:VE X (.Constant .none j pos) (vC .no):=⟨_,aQt,aLv rfl⟩
theorem aGe {r:R2} {g:U->U->(Sl->Prop)->Prop} {ta tb:TE} {F G:TV} (o:O2 r g) (ha:VT ta F) (hb:VT tb G):VT (tOp r ta tb) (vOp g F G):=fun e h q=>by
 refine ha e h fun s v H1 h1 f1 r1=>?_
 have e1:=e.to f1
 refine hb e1 h1 fun s' v' H2 h2 f2 r2=>?_
 refine o (e1.to f2).eb ((r1.db e.eb).to e1.eb f2) (r2.db e1.eb) h2 fun s3 z H3 h3 f3 r3=>?_
 exact q _ _ _ h3 ((f1.trans f2).trans f3) (r3.back (f1.trans f2))
end
section
variable {X:Cx}
theorem aY {op:Operator} {r:R2} {g:U->U->(Sl->Prop)->Prop} {a b:Expr} {pos:Pos} {F G:TV} (ho:OpR X (binaryOp op) r) (o:O2 r g) (ha:VE X a F) (hb:VE X b G):VE X (.BinOp a op b pos) (vOp g F G):=
 let⟨_,p,f⟩:=ha;let⟨_,p',f'⟩:=hb;⟨_,oV ho p p',aGe o f f'⟩
theorem dG {r:R2} {g:U->U->(Sl->Prop)->Prop} {a b:Expr} {pos:Pos} {F G:TV} (ho:IxR X r) (o:O2 r g) (ha:VE X a F) (hb:VE X b G) (hs:aGx b:=by exact fun _ _=>rfl):VE X (.Subscript a b pos) (vOp g F G):=
 let⟨_,p,f⟩:=ha;let⟨_,p',f'⟩:=hb;⟨_,vM ho p p' hs,aGe o f f'⟩
theorem aCc {op:CmpOp} {r:R2} {g:U->U->(Sl->Prop)->Prop} {a b:Expr} {pos:Pos} {F G:TV} (ho:OpR X (compareOp op) r) (o:O2 r g) (ha:VE X a F) (hb:VE X b G) (hm:behindInMarks op b=false:=by first|exact cR _|rfl):VE X (.Compare a [op] [b] pos) (vOp g F G):=
 let⟨_,p,f⟩:=ha;let⟨_,p',f'⟩:=hb;⟨_,aBo ho p p' hm,aGe o f f'⟩
theorem wG {t:TE} {F:TV} (h:VT t F):VTc (aJw t) (rK F):=fun e h1 q=>h e h1 fun s v H1 h2 f r=>by
 have d:=r.db e.eb
 revert h2 d
 generalize s.rd=u
 intro h2 d
 split at h2
 ·exact⟨_,d.fl.1,q _ _ h2 f⟩
 ·exact h2.elim
theorem dC {op:CmpOp} {r:R2} {g:U->U->(Sl->Prop)->Prop} {a b:Expr} {pos:Pos} {F G:TV} (ho:OpR X (compareOp op) r) (o:O2 r g) (ha:VE X a F) (hb:VE X b G) (hm:behindInMarks op b=false:=by first|exact cR _|rfl):VC X (.Compare a [op] [b] pos) (rK (vOp g F G)):=
 let⟨_,p,f⟩:=ha;let⟨_,p',f'⟩:=hb;⟨_,bV ho p p' hm,wG (aGe o f f')⟩
theorem fV {a:Expr} {F:TV} (ha:VE X a F) (he:∀whole,isTrue a X.env whole=(do let v<-whole;standAt a.pos;holding [v] (truthy v)):=by intro _;rfl):VC X a (rK F):=
 let⟨_,p,f⟩:=ha;⟨_,xU p he,wG f⟩
theorem gO {a:Expr} {pos:Pos} {F:TVc} (ha:VC X a F):VC X (.UnaryOp .Not a pos) (aSf F):=let⟨_,p,f⟩:=ha;⟨_,aBi p,fun e h q=>f e h fun c H1 h1 f1=>q _ _ h1 f1⟩
theorem sS {a:Expr} {F:TVc} (ha:VW X a F):VC X a F:=let⟨_,p,f⟩:=ha;⟨_,p.pt,f⟩
theorem oG {a:Expr} {pos:Pos} {F:TVc} (ha:VC X a F):VW X (.BoolOp .Or [a] pos) F:=let⟨_,p,f⟩:=ha;⟨_,aKe p,f⟩
theorem rJ {a b:Expr} {rest:List Expr} {pos:Pos} {F G:TVc} (ha:VC X a F) (hb:VW X (.BoolOp .Or (b::rest) pos) G):VW X (.BoolOp .Or (a::b::rest) pos) (vOr F G):=
 let⟨_,p,f⟩:=ha;let⟨_,p',f'⟩:=hb;⟨_,aO5 p p',fun e h q=>f e h fun c H1 h1 f1=>by
  cases c with
  |true=>exact aGa (q _ _ (h1.1 rfl) f1)
  |false=>exact pL (f' (e.to f1) (h1.2 rfl) fun c H2 h2 f2=>q _ _ h2 (f1.trans f2))⟩
def vB (F:TVc):TV:=fun ρ R=>F ρ fun c=>R (.sh (.b c))
theorem aPc {t:TE} {F:TV} {ρ:EV} {σ:St} {W B:Addr->Prop} {H:Hp} {R:Bool->Prop} {Q:VK} (f:VT t F) (e:EE W B H ρ σ) (h:rK F ρ R) (q:∀c H1,R c->Fw W H H1->Q (.bl c) H1):t σ H Q:=f e h fun s v H1 h1 f1 r=>by
 have d:=r.db e.eb
 revert h1 d
 generalize s.rd=u
 intro h2 d
 split at h2
 ·rw [d.fl.1]
  exact q _ _ h2 f1
 ·exact h2.elim
theorem aBz {a b:Expr} {rest:List Expr} {pos:Pos} {F G:TV} (ha:VE X a F) (hb:VE X (.BoolOp .And (b::rest) pos) G):VE X (.BoolOp .And (a::b::rest) pos) (vB (aUl (rK F) (rK G))):=
 let⟨ta,p,f⟩:=ha;let⟨_,p',f'⟩:=hb;⟨_,aLm p p',fun e h q=>show ta _ _ _ from aPc f e h fun c H1 h1 f1=>by
  refine⟨c,rfl,?_⟩
  cases c with
  |true=>exact aGa (aPc f' (e.to f1) (h1.1 rfl) fun c H2 h2 f2=>q _ _ _ h2 (f1.trans f2) ⟨rfl,rfl⟩)
  |false=>exact pL (q _ _ _ (h1.2 rfl) f1 ⟨rfl,rfl⟩)⟩
theorem aRc {a:Expr} {pos:Pos} {F:TV} (ha:VE X a F):VE X (.UnaryOp .Not a pos) (vB (aSf (rK F))):=
 let⟨ta,p,f⟩:=ha;⟨_,aPx p,fun e h q=>show ta _ _ _ from aPc f e h fun c H1 h1 f1=>⟨c,rfl,q _ _ _ h1 f1 ⟨rfl,rfl⟩⟩⟩
theorem aG:VA X [] aP2:=⟨_,aX,fun e h q=>q _ _ _ h rfl e.eb.refl rfl⟩
theorem aA {a:Expr} {es:List Expr} {F:TV} {G:TVa} (ha:VE X a F) (hb:VA X es G) (hs:starEach (a::es) X.env=(false,eval a X.env)::starEach es X.env:=by rfl):VA X (a::es) (aSx F G):=
 let⟨_,p,f⟩:=ha;let⟨_,p',f'⟩:=hb;⟨_,aL p p' hs,fun e h q=>f e h fun s v H1 h1 f1 r1=>by
  obtain⟨u,h1,d⟩:=r1.du e.eb h1
  exact f' (e.to f1) h1 fun us vs H2 h2 l2 f2 d2=>q _ _ _ h2 (by rw [List.length_cons,l2];rfl) (f1.trans f2) ⟨v,vs,rfl,DU.mono ((e.to f1).eb.keep f2) u d,d2⟩⟩
theorem aV:VB X [] aP2:=⟨_,aX,fun e h q=>q _ _ _ h e.eb.refl rfl⟩
theorem aN {a:Expr} {es:List Expr} {F:TV} {G:TVa} (ha:VE X a F) (hb:VB X es G) (hs:starEach (a::es) X.env=(false,eval a X.env)::starEach es X.env:=by rfl):VB X (a::es) (aSm F G):=
 let⟨_,p,f⟩:=ha;let⟨_,p',f'⟩:=hb;⟨_,aL p p' hs,fun e h q=>f e h fun s v H1 h1 f1 r1=>
  f' (e.to f1) h1 fun us vs H2 h2 f2 d2=>q _ _ _ h2 (f1.trans f2) ⟨v,vs,rfl,(r1.db e.eb).to (e.to f1).eb f2,d2⟩⟩
theorem lE {es:List Expr} {x1} {pos:Pos} {F:TVa} (h:VA X es F) (hl:es.length<=100:=by decide):VE X (.Tuple es x1 pos) (aTo F):=
 let⟨_,p,f⟩:=h;⟨_,aQs p,fun e h q=>f e h fun us vs H1 h1 l1 f1 d=>⟨by
  have:=d.length
  have:(100:Nat)<=sizeLine:=by decide
  omega,fun p n=>by
  have e1:=(e.to f1).eb
  have f2:=e1.new (o:= .tup vs) n
  exact q _ _ _ h1 (f1.trans f2) ⟨p,vs,rfl,e1.nw n,aJ,DUs.mono (e1.keep f2) us d⟩⟩⟩
theorem cD {es:List Expr} {pos:Pos} {F:TVa} (h:VA X es F) (hl:es.length<=100:=by decide):VE X (.List es pos) (aUe F):=
 let⟨_,p,f⟩:=h;⟨_,aKt p,fun{W B ρ σ H R Q} e h q=>f e h fun us vs H1 h1 l1 f1 d=>⟨by
  have:=d.length
  have:(100:Nat)<=sizeLine:=by decide
  omega,fun p n=>by
  have e1:=(e.to f1).eb
  have f2:=e1.new (o:= .lst vs) n
  exact q _ _ _ h1 (f1.trans f2) (RO.back (s:= .ow us) f1 ⟨p,vs,rfl,n,aJ,DUs.mono (fun b o nb h=>⟨fun z=>z.elim nb (aU h n),(e1.keep f2 b o nb h).2⟩) us d⟩)⟩⟩
theorem aO {k:Nat} {x:Str} {ps:List Str} {F:List U->(Sl->Prop)->Prop} {a:Expr} {es:List Expr} {G:TVa} {p pos:Pos} (C:Cal X.prog X.w X.K X.mg X.base CX0 k x ps (spV F)) (hr:eY k X.A) (hg:Gl X x)
  (ha:VA X (a::es) G) (hdb:(x==("__debug__":Str))=false:=by decide) (he:starEach (a::es) X.env=(false,eval a X.env)::starEach es X.env:=by rfl) (hpl:(backTo pos (starEach es X.env)).any (·.1)=false:=by rfl):
  VE X (.Call (.Name x p) (a::es) [] pos) (aRy F G):=
 let⟨_,p,f⟩:=ha;⟨_,aRn C hr hg bF p hdb he hpl,fun e h q=>f e h fun us vs H1 h1 l1 f1 d=>by
  refine⟨_,_,us,_,(e.to f1).eb,(by rw [List.append_nil];exact d),h1,fun s v H2 h2 f2 r2=>q _ _ _ h2 (f1.trans f2) (r2.back f1)⟩⟩
structure Cfl (K:PySem.W.Frag) (C:Addr) (fs:List Str):Prop where
 cl:Cls K C
 na:∀f∈fs,iU K C f
def zK (f:Str):List Str->List U->(Sl->Prop)->Prop
 |n::ns,u::us,R=>(n=f/\R (.sh u))∨(n≠f/\zK f ns us R)
 |_,_,_=>False
theorem aGr {W B:Addr->Prop} {H:Hp} {f:Str} {R:Sl->Prop}:∀{ns:List Str} {us:List U} {xs:List V},DUs W B H us xs->zK f ns us R->∃u v,R (.sh u)/\DU W B H u v/\(ns.zip xs).lookup f=some v
 |_::_,u::us,_,⟨x,r,e,h,t⟩,q=>by
  subst e
  rcases q with ⟨rfl,q⟩|⟨n,q⟩
  ·exact⟨u,x,q,h,by simp [List.lookup_cons]⟩
  ·obtain⟨u',v,h1,h2,h3⟩:=aGr t q
   refine⟨u',v,h1,h2,?_⟩
   rw [List.zip_cons_cons,List.lookup_cons,show(f==_)=false from beq_eq_false_iff_ne.mpr (Ne.symm n)]
   exact h3
def vFl (C:Addr) (a:TV) (f:Str):TV:=fun ρ R=>a ρ fun s=>match s.rd with
 | .ob C' ns us=>C'=C/\zK f ns us R
 |_=>False
theorem eF {C:Addr} {fs:List Str} {a:Expr} {f:Str} {pos:Pos} {F:TV} (c:Cfl X.K C fs) (ha:VE X a F) (hf:f∈fs:=by decide) (hb:attributeBase a f X.env (eval a X.env)=eval a X.env:=by rfl):VE X (.Attribute a f pos) (vFl C F f):=
 let⟨_,p,g⟩:=ha;⟨_,lC p hb,fun e h q=>g e h fun s v H1 h1 f1 r1=>by
  have d:=r1.db e.eb
  revert h1 d
  generalize s.rd=u
  intro h1 d
  split at h1
  ·obtain⟨rfl,h1⟩:=h1
   obtain⟨p,dx,xs,rfl,_,hp,hl,ds⟩:=d.ob
   obtain⟨u,v,h2,h3,h4⟩:=aGr ds h1
   exact⟨p,_,dx,_,v,rfl,hp,c.cl,c.na f hf,h4,q _ _ _ h2 f1 h3⟩
  ·exact h1.elim⟩
def mOb (Cs:Addr->Prop) (m:Str) (F:Addr->List U->(Sl->Prop)->Prop) (G:TVa) (ρ:EV) (R:Sl->Prop):U->Prop
 | .ob C ns us=>Cs C/\ns.elem m=false/\G ρ fun vs=>F C (.ob C ns us::vs) R
 |_=>False
def aSe (Cs:Addr->Prop) (m:Str) (F:Addr->List U->(Sl->Prop)->Prop) (a:TV) (G:TVa):TV:=fun ρ R=>a ρ fun s=>s.es (mOb Cs m F G ρ R)
theorem aJu {m:Str}:∀{ns:List Str} {xs:List V},ns.elem m=false->(ns.zip xs).lookup m=none
 | [],_,_=>by simp
 |_::_,[],_=>by simp
 |n::ns,x::xs,h=>by
  simp only [List.elem_cons]at h
  rw [List.zip_cons_cons,List.lookup_cons]
  cases e:m==n with
  |true=>rw [e]at h;cases h
  |false=>
   rw [e]at h
   exact aJu h
theorem bT {k:Nat} {Cs:Addr->Prop} {m:Str} {ps:List Str} {F:Addr->List U->(Sl->Prop)->Prop} {o:Expr} {apos pos:Pos} {Fo:TV} {pl:Sem Bool} (ho:VE X o Fo) (D:Dis X.prog X.w X.K X.mg X.base CX0 k Cs m ps fun C=>spV (F C)) (hr:eY k X.A)
  (ht:eval (.Call (.Attribute o m apos) [] [] pos) X.env=(do
   let ov<-eval o X.env
   standAt apos.atName
   let(f,first)<-holding [ov] (getMethod ov m pl)
   callWith pos f first (backTo pos (starEach [] X.env)) (backToKw pos (keywordEach [] X.env))):=by rfl):
  VE X (.Call (.Attribute o m apos) [] [] pos) (aSe Cs m F Fo aP2):=
 let⟨_,p,g⟩:=ho;⟨_,bH p D hr bF ht,fun e h q=>g e h fun s v H1 h1 f1 r1=>by
  obtain⟨u,h1,d⟩:=r1.du e.eb h1
  match u,h1,d with
  | .ob C ns us,⟨hC,hm,h1⟩,d=>
   obtain⟨p,dx,xs,rfl,nb,hp,hl,ds⟩:=id d
   exact⟨p,C,dx,_,rfl,hp,hC,aJu hm,_,_,[.ob C ns us],_,(e.to f1).eb,⟨_,_,rfl,d,rfl⟩,h1,fun s v H3 h3 f3 r3=>q _ _ _ h3 (f1.trans f3) (r3.back f1)⟩⟩
end
def gI (f:Int->Int->V):U->U->(Sl->Prop)->Prop
 | .v (.int i),.v (.int j),R=>R (.sh (.v (f i j)))
 |_,_,_=>False
def gIC (C:Int->Int->Prop) (f:Int->Int->V):U->U->(Sl->Prop)->Prop
 | .v (.int i),.v (.int j),R=>C i j/\R (.sh (.v (f i j)))
 |_,_,_=>False
theorem dO {f:Int->Int->V} (hf:∀i j,iM (f i j)=true:=by intros;rfl):O2 (rI0 f) (gI f):=fun{W B H u v x y R Q} e d1 d2 h q=>by
 unfold gI at h
 split at h
 ·rename_i i j
  exact⟨i,j,d1.int,d2.int,q _ _ _ h e.refl ⟨rfl,hf i j⟩⟩
 ·exact h.elim
theorem jV {C:Int->Int->Prop} {f:Int->Int->V} (hf:∀i j,iM (f i j)=true:=by intros;rfl):O2 (rI C f) (gIC C f):=fun{W B H u v x y R Q} e d1 d2 h q=>by
 unfold gIC at h
 split at h
 ·rename_i i j
  exact⟨i,j,d1.int,d2.int,h.1,q _ _ _ h.2 e.refl ⟨rfl,hf i j⟩⟩
 ·exact h.elim
theorem aMz {α β:Type} {xs:List α} {ys:List β} {i:Int} {x:α} (e:xs.length=ys.length) (h:atI xs i=some x):∃(j:Nat) (y:β),xs[j]? =some x/\ys[j]? =some y/\atI ys i=some y:=by
 unfold atI at h⊢
 rw [<-e]
 cases q:ixN xs.length i with
 |none=>rw [q]at h;cases h
 |some j=>
  rw [q]at h
  have h':xs[j]? =some x:=h
  have hj:=(List.getElem?_eq_some_iff.mp h').1
  exact⟨j,_,h',List.getElem?_eq_getElem (by rw [<-e];exact hj),List.getElem?_eq_getElem (by rw [<-e];exact hj)⟩
theorem DUs.atI {W B:Addr->Prop} {H:Hp} {l:List U} {xs:List V} {i:Int} {u:U} (d:DUs W B H l xs) (h:atI l i=some u):∃x,L2.atI xs i=some x/\DU W B H u x:=by
 obtain⟨j,x,h1,h2,h3⟩:=aMz d.length h
 obtain⟨y,h4,h5⟩:=d.get h1
 rw [h2]at h4
 cases h4
 exact⟨x,h3,h5⟩
def aSo:U->U->(Sl->Prop)->Prop
 | .ls l,.v (.int i),R=>∃u,atI l i=some u/\R (.sh u)
 |_,_,_=>False
def aR4:U->U->(Sl->Prop)->Prop
 | .tp l,.v (.int i),R=>∃u,atI l i=some u/\R (.sh u)
 |_,_,_=>False
theorem aP3 {K:PySem.W.Frag}:O2 (aRl K) aSo:=fun{W B H u v x y R Q} e d1 d2 h q=>by
 unfold aSo at h
 split at h
 ·obtain⟨w,h1,h2⟩:=h
  obtain⟨p,xs,rfl,_,hp,ds⟩:=d1.ls e
  obtain⟨z,h3,h4⟩:=ds.atI h1
  exact⟨p,xs,_,z,rfl,d2.int,SqL.of hp,h3,q _ _ _ h2 e.refl h4⟩
 ·exact h.elim
theorem aQl {K:PySem.W.Frag}:O2 (aQy K) aR4:=fun{W B H u v x y R Q} e d1 d2 h q=>by
 unfold aR4 at h
 split at h
 ·obtain⟨w,h1,h2⟩:=h
  obtain⟨p,xs,rfl,_,hp,ds⟩:=d1.tp
  obtain⟨z,h3,h4⟩:=ds.atI h1
  exact⟨p,xs,_,z,rfl,d2.int,SqT.of hp,h3,q _ _ _ h2 e.refl h4⟩
 ·exact h.elim
mutual
def U.d:U->D
 | .v x=> .fl x
 | .tp l=> .tp (U.ds l)
 | .ls l=> .ls (U.ds l)
 |_=> .fl .non
def U.ds:List U->List D
 | []=>[]
 |u::l=>U.d u::U.ds l
end
mutual
def U.dt:Nat->U->Prop
 |_,.v _=>True
 |n+1,.tp l=>U.dts n l
 |n+1,.ls l=>U.dts n l
 |_,_=>False
def U.dts:Nat->List U->Prop
 |_,[]=>True
 |n,u::l=>U.dt n u/\U.dts n l
end
section
variable {W B:Addr->Prop} {H:Hp} {K:PySem.W.Frag}
mutual
theorem DU.den:∀(n:Nat) (u:U) {v:V},u.dt n->DU W B H u v->Den K H u.d v
 |_,.v _,_,_,h=>h
 |n+1,.tp l,_,t,⟨p,xs,e,_,hp,ds⟩=>⟨p,xs,e,SqT.of hp,DUs.dens n l t ds⟩
 |n+1,.ls l,_,t,⟨p,xs,e,_,hp,ds⟩=>⟨p,xs,e,SqL.of hp,DUs.dens n l t ds⟩
theorem DUs.dens:∀(n:Nat) (l:List U) {xs:List V},U.dts n l->DUs W B H l xs->uN K H (U.ds l) xs
 |_,[],_,_,h=>h
 |n,u::l,_,⟨t,t'⟩,⟨x,r,e,h,h'⟩=>⟨x,r,e,DU.den n u t h,DUs.dens n l t' h'⟩
end
mutual
theorem U.dep:∀(n:Nat) (u:U),u.dt n->u.d.dep<=n
 |_,.v _,_=>Nat.zero_le _
 |n+1,.tp l,t=>Nat.succ_le_succ (U.deps n l t)
 |n+1,.ls l,t=>Nat.succ_le_succ (U.deps n l t)
theorem U.deps:∀(n:Nat) (l:List U),U.dts n l->D.deps (U.ds l)<=n
 |_,[],_=>Nat.zero_le _
 |n,u::l,⟨t,t'⟩=>Nat.max_le.mpr ⟨U.dep n u t,U.deps n l t'⟩
end
theorem DB.den {n:Nat} {u:U} {v:V} (t:u.dt n) (h:DB W B H u v):Den K H u.d v:=by
 rcases h with h|⟨l,p,xs,rfl,rfl,w,h1,h2⟩
 ·exact DU.den n u t h
 ·match n,t with
  |n+1,t=>exact⟨p,xs,rfl,SqL.of h1,DUs.dens n l t h2⟩
end
def U.eq (u v:U):Bool:=u.d.eq v.d
def gEq (neg:Bool):U->U->(Sl->Prop)->Prop:=fun u v R=>u.dt 40/\v.dt 40/\R (.sh (.b (if neg then !u.eq v else u.eq v)))
theorem pH {K:PySem.W.Frag} {neg:Bool}:O2 (aP1 K neg) (gEq neg):=fun{W B H u v x y R Q} e d1 d2 ⟨t1,t2,h⟩ q=>by
 have h1:=U.dep 40 u t1
 have h2:=U.dep 40 v t2
 exact⟨u.d,v.d,d1.den t1,d2.den t2,by omega,q _ _ _ h e.refl ⟨rfl,rfl⟩⟩
structure aC4 where
 nx:EV->Prop
 rt:Sl->Prop
 bk:EV->Prop:=fun _=>False
 ct:EV->Prop:=fun _=>False
abbrev TVS:=aC4->EV->Prop
def Bx (B:Addr->Prop) (A:Nat->Option Addr) (p:Addr):Prop:=B p∨∃i,A i=some p
structure EO (W B:Addr->Prop) (H0:Hp) (A:Nat->Option Addr) (ρ:EV) (σ:St) (H:Hp):Prop where
 eb:EB W B H0
 fw:Fw W H0 H
 len:ρ.length=σ.length
 an:∀i p,A i=some p->H0 p=none
 aw:∀i p,A i=some p->∃xs,H p=some (.lst xs)
 inj:∀i j p,A i=some p->A j=some p->i=j
 sh:∀(i:Nat) (u:U),ρ[i]? =some (Sl.sh u)->∃v,σ[i]? =some (some v)/\DU W (Bx B A) H u v
 ow:∀(i:Nat) (l:List U),ρ[i]? =some (Sl.ow l)->∃p xs,σ[i]? =some (some (V.ref p))/\A i=some p/\H p=some (.lst xs)/\DUs W (Bx B A) H l xs
 nb:∀(i:Nat) (l:List U),ρ[i]? ≠some (Sl.br l)
structure aUq (W B:Addr->Prop) (H0:Hp) (E:aC4) (D:Ends):Prop where
 nx:∀{A ρ σ H},EO W B H0 A ρ σ H->E.nx ρ->D.nx σ H
 bk:∀{A ρ σ H},EO W B H0 A ρ σ H->E.bk ρ->D.bk σ H
 ct:∀{A ρ σ H},EO W B H0 A ρ σ H->E.ct ρ->D.ct σ H
 rt:∀{s v H},Fw W H0 H->RO W B H0 H s v->E.rt s->D.rt v H
def VTs (t:TS) (G:TVS):Prop:=∀{W B:Addr->Prop} {H0:Hp} {A:Nat->Option Addr} {ρ:EV} {σ:St} {H:Hp} {E:aC4} {D:Ends},EO W B H0 A ρ σ H->G E ρ->aUq W B H0 E D->t D σ H
def VS (X:Cx) (st:Stmt) (G:TVS):Prop:=∃t,PS X st t/\VTs t G
def VSs (X:Cx) (st:List Stmt) (G:TVS):Prop:=∃t,PSs X st t/\VTs t G
section
variable {W B:Addr->Prop} {H0 H H1:Hp} {A:Nat->Option Addr} {ρ:EV} {σ:St}
theorem EO.now (o:EO W B H0 A ρ σ H) {p:Addr} (h:H0 p=none):¬B p:=fun z=>o.eb.dm p z h
theorem EO.awn (o:EO W B H0 A ρ σ H) {i:Nat} {p:Addr} (h:A i=some p):H p≠none:=fun n=>by
 obtain⟨xs,q⟩:=o.aw i p h
 rw [q]at n
 cases n
theorem EO.ee (o:EO W B H0 A ρ σ H):EE W (Bx B A) H ρ σ:=by
 refine⟨⟨fun p h=>h.elim ((o.eb.to o.fw).bl p) fun⟨i,h⟩=>o.aw i p h,fun p w=> .inl (o.eb.wb p w),o.fw.wo⟩,o.len,o.sh,fun i l h=>?_⟩
 rcases h with h|h
 ·obtain⟨p,xs,h1,h2,h3,h4⟩:=o.ow i l h
  exact⟨p,xs,h1,fun w=>o.now (o.an i p h2) (o.eb.wb p w),h3,h4⟩
 ·exact(o.nb i l h).elim
theorem EO.to (o:EO W B H0 A ρ σ H) (f:Fw W H H1):EO W B H0 A ρ σ H1:=by
 have e:=o.ee
 have e1:=e.to f
 refine⟨o.eb,o.fw.trans f,o.len,o.an,fun i p h=>e1.eb.bl p (.inr ⟨i,h⟩),o.inj,e1.sh,fun i l h=>?_,o.nb⟩
 obtain⟨p,xs,h1,h2,h3,h4⟩:=o.ow i l h
 exact⟨p,xs,h1,h2,f.fr _ _ (fun w=>o.now (o.an i p h2) (o.eb.wb p w)) h3,DUs.mono (e.eb.keep f) l h4⟩
theorem cI {α:Type} {l:List α} {i j:Nat} {x y:α} (h:(l.set i x)[j]? =some y):(j=i/\y=x/\i<l.length)∨(j≠i/\l[j]? =some y):=by
 rw [List.getElem?_set]at h
 split at h
 ·rename_i e
  split at h
  ·cases h
   exact .inl ⟨e.symm,rfl,by assumption⟩
  ·cases h
 ·rename_i e
  exact .inr ⟨fun z=>e z.symm,h⟩
theorem get_set {α:Type} {l:List α} {i:Nat} {x:α} (h:i<l.length):(l.set i x)[i]? =some x:=by rw [List.getElem?_set];simp [h]
theorem eZ {α:Type} {l:List α} {i j:Nat} {x:α} (h:j≠i):(l.set i x)[j]? =l[j]? :=by rw [List.getElem?_set,if_neg (Ne.symm h)]
theorem EO.setSh (o:EO W B H0 A ρ σ H) {i:Nat} {u:U} {v:V} (d:DU W (Bx B A) H u v):EO W B H0 (fun j=>if j=i then none else A j) (ρ.set i (.sh u)) (σ.set i (some v)) H:=by
 have up:∀{j p},(if j=i then none else A j)=some p->j≠i/\A j=some p:=fun{j p} h=>by
  split at h
  ·cases h
  ·exact⟨by assumption,h⟩
 have k:∀b o,¬Bx B A b->H b=some o->¬Bx B (fun j=>if j=i then none else A j) b/\H b=some o:=fun b o n h=>⟨fun z=>n (z.elim .inl fun⟨j,h⟩=> .inr ⟨j,(up h).2⟩),h⟩
 refine⟨o.eb,o.fw,by rw [List.length_set,List.length_set,o.len],fun j p h=>o.an j p (up h).2,fun j p h=>o.aw j p (up h).2,fun j j' p h h'=>o.inj j j' p (up h).2 (up h').2,fun j u' h=>?_,fun j l h=>?_,fun j l h=>?_⟩
 ·rcases cI h with ⟨rfl,e,hl⟩|⟨ne,h⟩
  ·cases e
   exact⟨v,get_set (o.len▸hl),DU.mono k u d⟩
  ·obtain⟨v',h1,h2⟩:=o.sh j u' h
   exact⟨v',by rw [eZ ne];exact h1,DU.mono k u' h2⟩
 ·rcases cI h with ⟨rfl,e,hl⟩|⟨ne,h⟩
  ·cases e
  ·obtain⟨p,xs,h1,h2,h3,h4⟩:=o.ow j l h
   exact⟨p,xs,by rw [eZ ne];exact h1,by rw [if_neg ne];exact h2,h3,DUs.mono k l h4⟩
 ·rcases cI h with ⟨rfl,e,hl⟩|⟨ne,h⟩
  ·cases e
  ·exact o.nb j l h
theorem EO.setOw (o:EO W B H0 A ρ σ H) (f:Fw W H H1) {i:Nat} {l:List U} {p:Addr} {xs:List V} (n:H p=none) (hp:H1 p=some (.lst xs)) (d:DUs W (fun b=>Bx B A b∨b=p) H1 l xs):
  EO W B H0 (fun j=>if j=i then some p else A j) (ρ.set i (.ow l)) (σ.set i (some (.ref p))) H1:=by
 have o1:=o.to f
 have n0:H0 p=none:=by
  cases q:H0 p with
  |none=>rfl
  |some x=>
   by_cases w:W p
   ·obtain⟨_,_,_,z⟩:=o.fw.wo p w
    rw [z]at n
    cases n
   ·rw [o.fw.fr p x w q]at n
    cases n
 have up:∀{j q},(if j=i then some p else A j)=some q->(j=i/\q=p)∨(j≠i/\A j=some q):=fun{j q} h=>by
  split at h
  ·cases h
   exact .inl ⟨by assumption,rfl⟩
  ·exact .inr ⟨by assumption,h⟩
 have k0:∀b o,¬(Bx B A b∨b=p)->H1 b=some o->¬Bx B (fun j=>if j=i then some p else A j) b/\H1 b=some o:=fun b o n h=>⟨fun z=>n (z.elim (fun z=> .inl (.inl z)) fun⟨j,h⟩=>(up h).elim (fun z=> .inr z.2) fun z=> .inl (.inr ⟨j,z.2⟩)),h⟩
 have k:∀b o,¬Bx B A b->H b=some o->¬Bx B (fun j=>if j=i then some p else A j) b/\H1 b=some o:=fun b x nb h=>k0 b x (fun z=>z.elim nb (aU h n)) (o.ee.eb.keep f b x nb h).2
 refine⟨o.eb,o1.fw,by rw [List.length_set,List.length_set,o.len],fun j q h=>?_,fun j q h=>?_,fun j j' q h h'=>?_,fun j u' h=>?_,fun j l' h=>?_,fun j l' h=>?_⟩
 ·rcases up h with ⟨_,rfl⟩|⟨_,h⟩
  ·exact n0
  ·exact o.an j q h
 ·rcases up h with ⟨_,rfl⟩|⟨_,h⟩
  ·exact⟨xs,hp⟩
  ·exact o1.aw j q h
 ·rcases up h with ⟨e1,e2⟩|⟨_,h⟩
  ·subst e2
   rcases up h' with ⟨e3,_⟩|⟨_,h'⟩
   ·rw [e1,e3]
   ·exact(o.awn h' n).elim
  ·rcases up h' with ⟨_,e3⟩|⟨_,h'⟩
   ·rw [e3]at h
    exact(o.awn h n).elim
   ·exact o.inj j j' q h h'
 ·rcases cI h with ⟨rfl,e,hl⟩|⟨ne,h⟩
  ·cases e
  ·obtain⟨v',h1,h2⟩:=o.sh j u' h
   exact⟨v',by rw [eZ ne];exact h1,DU.mono k u' h2⟩
 ·rcases cI h with ⟨rfl,e,hl⟩|⟨ne,h⟩
  ·cases e
   exact⟨p,xs,get_set (o.len▸hl),if_pos rfl,hp,DUs.mono k0 l d⟩
  ·obtain⟨q,ys,h1,h2,h3,h4⟩:=o.ow j l' h
   exact⟨q,ys,by rw [eZ ne];exact h1,by rw [if_neg ne];exact h2,f.fr q _ (fun w=>o.now (o.an j q h2) (o.eb.wb q w)) h3,DUs.mono k l' h4⟩
 ·rcases cI h with ⟨rfl,e,hl⟩|⟨ne,h⟩
  ·cases e
  ·exact o.nb j l' h
end
section
variable {W B:Addr->Prop} {H0 H H1:Hp} {A:Nat->Option Addr} {ρ:EV} {σ:St}
theorem EO.own (o:EO W B H0 A ρ σ H) {i:Nat} {l l':List U} {xs':List V} {p:Addr} (hi:ρ[i]? =some (Sl.ow l)) (hp:A i=some p) (d:DUs W (Bx B A) H l' xs'):EO W B H0 A (ρ.set i (.ow l')) σ (upd H p (.lst xs')):=by
 have nw:¬W p:=fun w=>o.now (o.an i p hp) (o.eb.wb p w)
 have k:∀b x,¬Bx B A b->H b=some x->¬Bx B A b/\upd H p (.lst xs') b=some x:=fun b x n h=>⟨n,(aQ (fun z:b=p=>n (by rw [z];exact .inr ⟨i,hp⟩))).trans h⟩
 refine⟨o.eb,⟨fun b x w h=>?_,fun q hq=>?_⟩,by rw [List.length_set,o.len],o.an,fun j q h=>?_,o.inj,fun j u h=>?_,fun j m h=>?_,fun j m h=>?_⟩
 ·rw [aQ (aU h (o.an i p hp))]
  exact o.fw.fr b x w h
 ·obtain⟨x,y,z,h⟩:=o.fw.wo q hq
  exact⟨x,y,z,(aQ (fun e:q=p=>nw (by rw [<-e];exact hq))).trans h⟩
 ·by_cases e:q=p
  ·rw [e,aJ];exact⟨_,rfl⟩
  ·rw [aQ e];exact o.aw j q h
 ·rcases cI h with ⟨rfl,e,hl⟩|⟨ne,h⟩
  ·cases e
  ·obtain⟨v',h1,h2⟩:=o.sh j u h
   exact⟨v',h1,DU.mono k u h2⟩
 ·rcases cI h with ⟨rfl,e,hl⟩|⟨ne,h⟩
  ·cases e
   obtain⟨q,ys,h1,h2,h3,h4⟩:=o.ow j l hi
   rw [hp]at h2
   cases h2
   exact⟨p,xs',h1,hp,aJ,DUs.mono k l' d⟩
  ·obtain⟨q,ys,h1,h2,h3,h4⟩:=o.ow j m h
   exact⟨q,ys,h1,h2,(aQ (fun e:q=p=>ne (o.inj j i p (by rw [<-e];exact h2) hp))).trans h3,DUs.mono k m h4⟩
 ·rcases cI h with ⟨rfl,e,hl⟩|⟨ne,h⟩
  ·cases e
  ·exact o.nb j m h
theorem EO.frz (o:EO W B H0 A ρ σ H) {i:Nat} {l:List U} (hi:ρ[i]? =some (Sl.ow l)):EO W B H0 (fun j=>if j=i then none else A j) (ρ.set i (.sh (.ls l))) σ H:=by
 have up:∀{j p},(if j=i then none else A j)=some p->j≠i/\A j=some p:=fun{j p} h=>by
  split at h
  ·cases h
  ·exact⟨by assumption,h⟩
 have k:∀b o,¬Bx B A b->H b=some o->¬Bx B (fun j=>if j=i then none else A j) b/\H b=some o:=fun b o n h=>⟨fun z=>n (z.elim .inl fun⟨j,h⟩=> .inr ⟨j,(up h).2⟩),h⟩
 refine⟨o.eb,o.fw,by rw [List.length_set,o.len],fun j p h=>o.an j p (up h).2,fun j p h=>o.aw j p (up h).2,fun j j' p h h'=>o.inj j j' p (up h).2 (up h').2,fun j u' h=>?_,fun j l h=>?_,fun j l h=>?_⟩
 ·rcases cI h with ⟨rfl,e,hl⟩|⟨ne,h⟩
  ·cases e
   obtain⟨p,xs,h1,h2,h3,h4⟩:=o.ow j l hi
   refine⟨_,h1,p,xs,rfl,fun z=>z.elim (o.now (o.an j p h2)) fun⟨j',h⟩=>(up h).1 (o.inj j' j p (up h).2 h2),h3,DUs.mono k l h4⟩
  ·obtain⟨v',h1,h2⟩:=o.sh j u' h
   exact⟨v',h1,DU.mono k u' h2⟩
 ·rcases cI h with ⟨rfl,e,hl⟩|⟨ne,h⟩
  ·cases e
  ·obtain⟨p,xs,h1,h2,h3,h4⟩:=o.ow j l h
   exact⟨p,xs,h1,by rw [if_neg ne];exact h2,h3,DUs.mono k l h4⟩
 ·rcases cI h with ⟨rfl,e,hl⟩|⟨ne,h⟩
  ·cases e
  ·exact o.nb j l h
structure Rb (W:Addr->Prop) (H0 H1:Hp):Prop where
 le:∀b o,¬W b->H0 b=some o->H1 b=some o
 no:∀p,H1 p=none->H0 p=none
theorem EO.un {H0':Hp} (o:EO W B H0' A ρ σ H) (e:EB W B H0) (r:Rb W H0 H0'):EO W B H0 A ρ σ H:=
 ⟨e,⟨fun b x w h=>o.fw.fr b x w (r.le b x w h),o.fw.wo⟩,o.len,fun i p h=>r.no p (o.an i p h),o.aw,o.inj,o.sh,o.ow,o.nb⟩
theorem RO.un {H0':Hp} {s:Sl} {v:V} (r:Rb W H0 H0') (h:RO W B H0' H s v):RO W B H0 H s v:=by
 match s,h with
 | .sh u,h=>exact h
 | .ow l,⟨p,xs,e1,n1,h2,h3⟩=>exact⟨p,xs,e1,r.no p n1,h2,h3⟩
 | .br l,h=>exact h
open Classical in
theorem EO.reb (o:EO W B H0 A ρ σ H):∃H0',EO W B H0' A ρ σ H/\Rb W H0 H0'/\∀b x,(¬ ∃i,A i=some b)->H b=some x->H0' b=some x:=by
 refine⟨fun b=>if∃i,A i=some b then none else H b,?_,?_,fun b x n h=>(if_neg n).trans h⟩
 ·have nb:∀p,B p->¬ ∃i,A i=some p:=fun p hp ⟨i,h⟩=>o.now (o.an i p h) hp
  refine⟨⟨fun p hp=>by rw [if_neg (nb p hp)];exact o.ee.eb.bl p (.inl hp),o.eb.wb,fun p hp=>?_⟩,⟨fun b x w h=>?_,o.fw.wo⟩,o.len,fun i p h=>if_pos ⟨i,h⟩,o.aw,o.inj,o.sh,o.ow,o.nb⟩
  ·obtain⟨x,y,z,h⟩:=o.fw.wo p hp
   exact⟨x,y,z,(if_neg (nb p (o.eb.wb p hp))).trans h⟩
  ·split at h
   ·cases h
   ·exact h
 ·refine⟨fun b x w h=>?_,fun p h=>?_⟩
  ·refine(if_neg fun⟨i,q⟩=>?_).trans (o.fw.fr b x w h)
   rw [o.an i b q]at h
   cases h
  ·split at h
   ·rename_i q
    obtain⟨i,q⟩:=q
    exact o.an i p q
   ·cases q:H0 p with
    |none=>rfl
    |some x=>
     by_cases w:W p
     ·obtain⟨_,_,_,z⟩:=o.fw.wo p w
      rw [z]at h
      cases h
     ·rw [o.fw.fr p x w q]at h
      cases h
end
def aTw (t u:TVS):TVS:=fun E ρ=>t {E with nx:=u E} ρ
def aSp:TVS:=fun E ρ=>E.nx ρ
def vIf (c:TVc) (t u:TVS):TVS:=fun E ρ=>c ρ fun b=>(b=true->t E ρ)/\(b=false->u E ρ)
def aSw (i:Nat) (ρ:EV) (k:EV->Prop):Sl->Prop
 | .sh u=>k (ρ.set i (.sh u))
 | .ow l=>k (ρ.set i (.ow l))
 |_=>False
def aRb (i:Nat) (F:TV):TVS:=fun E ρ=>F ρ (aSw i ρ E.nx)
def aT2 (F:TV):TVS:=fun E ρ=>F ρ fun s=>match s with
 | .br _=>False
 |s=>E.rt s
def aO6 (i:Nat):TVS:=fun E ρ=>match (ρ[i]? :Option Sl)with
 |some (.sh u)=>E.rt (.sh u)
 |some (.ow l)=>E.rt (.ow l)
 |_=>False
def vDo (F:TV):TVS:=fun E ρ=>F ρ fun _=>E.nx ρ
def aSi (i:Nat) (G:TVS):TVS:=fun E ρ=>match (ρ[i]? :Option Sl)with
 |some (.ow l)=>G E (ρ.set i (.sh (.ls l)))
 |_=>G E ρ
def aRs (i:Nat) (F:TV):TVS:=fun E ρ=>match (ρ[i]? :Option Sl)with
 |some (.ow l)=>l.length<10000/\F ρ fun s=>s.es fun u=>E.nx (ρ.set i (.ow (l++[u])))
 |_=>False
def aS9 (i:Nat) (F:TV):TVS:=fun E ρ=>match (ρ[i]? :Option Sl)with
 |some (.ow l)=>F ρ fun s=>match s.rd with
  | .ls m=>l.length+m.length<10000/\E.nx (ρ.set i (.ow (l++m)))
  |_=>False
 |_=>False
abbrev TVg:=U->EV->(EV->Prop)->Prop
def VTg (g:TG) (G:TVg):Prop:=∀{W B:Addr->Prop} {H0:Hp} {A:Nat->Option Addr} {ρ:EV} {σ:St} {H:Hp} {u:U} {v:V} {k:EV->Prop} {Q:St->Hp->Prop},EO W B H0 A ρ σ H->DU W (Bx B A) H u v->G u ρ k->(∀A' ρ' σ',EO W B H0 A' ρ' σ' H->k ρ'->Q σ' H)->g v σ H Q
def VG (X:Cx) (tg:Expr) (G:TVg):Prop:=∃g,PG X tg g/\VTg g G
def aT1 (g:TGs) (is:List Nat):Prop:=∀{W B:Addr->Prop} {H0:Hp} {A:Nat->Option Addr} {ρ:EV} {σ:St} {H:Hp} {us:List U} {vs:List V} {k:EV->Prop} {Q:St->Hp->Prop},EO W B H0 A ρ σ H->DUs W (Bx B A) H us vs->us.length=is.length->k ((is.zip us).foldl (fun ρ x=>ρ.set x.1 (.sh x.2)) ρ)->(∀A' ρ' σ',EO W B H0 A' ρ' σ' H->k ρ'->Q σ' H)->g vs σ H Q
def VGs (X:Cx) (es:List Expr) (is:List Nat):Prop:=∃g,PGs X es g/\aT1 g is
def aEp (i:Nat):TVg:=fun u ρ k=>k (ρ.set i (.sh u))
def aO7 (is:List Nat):TVg:=fun u ρ k=>match u with
 | .tp us=>us.length=is.length/\k ((is.zip us).foldl (fun ρ x=>ρ.set x.1 (.sh x.2)) ρ)
 |_=>False
def sY (g:TVg) (b:TVS) (E:aC4):List U->EV->Prop
 | [],ρ=>E.nx ρ
 |u::r,ρ=>g u ρ fun ρ1=>b {E with nx:=sY g b E r,ct:=sY g b E r,bk:=E.nx} ρ1
def aUa (g:TVg) (F:TVa) (b:TVS):TVS:=fun E ρ=>F ρ fun l=>sY g b E l ρ
def aUi (g:TVg) (F:TV):TVS:=fun E ρ=>F ρ fun s=>s.es fun u=>g u ρ E.nx
section
variable {X:Cx}
theorem cB:VSs X [] aSp:=⟨_,bQ,fun o h i=>i.nx o h⟩
theorem aK {st:Stmt} {G:TVS} (h:VS X st G):VSs X [st] G:=let⟨_,p,f⟩:=h;⟨_,aP p,f⟩
theorem aH {st:Stmt} {rest:List Stmt} {F G:TVS} (h:VS X st F) (h':VSs X rest G):VSs X (st::rest) (aTw F G):=
 let⟨_,p,f⟩:=h;let⟨_,p',f'⟩:=h';⟨_,aD p p',fun o h i=>f o h ⟨fun o1 h1=>f' o1 h1 i,i.bk,i.ct,i.rt⟩⟩
theorem qM {st:List Stmt} {G:TVS} (i:Nat) (h:VSs X st G):VSs X st (aSi i G):=let⟨_,p,f⟩:=h;⟨_,p,fun o h j=>by
 unfold aSi at h
 split at h
 ·rename_i hi
  exact f (o.frz hi) h j
 ·exact f o h j⟩
theorem fO {c:Expr} {a b:List Stmt} {pos:Pos} {C:TVc} {F G:TVS} (hc:VC X c C) (ha:VSs X a F) (hb:VSs X b G):VS X (.If c a b pos) (vIf C F G):=
 let⟨_,p,f⟩:=hc;let⟨_,p1,f1⟩:=ha;let⟨_,p2,f2⟩:=hb;⟨_,dX p p1 p2,fun o h i=>f o.ee h fun c H1 h1 w=>by
  cases c with
  |true=>exact aGa (f1 (o.to w) (h1.1 rfl) i)
  |false=>exact pL (f2 (o.to w) (h1.2 rfl) i)⟩
theorem aFb {W B:Addr->Prop} {H0 H H1:Hp} {A:Nat->Option Addr} {ρ:EV} {σ:St} {i:Nat} {s:Sl} {v:V} {k:EV->Prop} {Q:St->Hp->Prop} (o:EO W B H0 A ρ σ H) (f:Fw W H H1) (r:RO W (Bx B A) H H1 s v) (h:aSw i ρ k s) (q:∀{A' ρ' σ'},EO W B H0 A' ρ' σ' H1->k ρ'->Q σ' H1):Q (σ.set i (some v)) H1:=by
 match s,r,h with
 | .sh u,r,h=>exact q ((o.to f).setSh r) h
 | .ow l,⟨p,xs,e1,h1,h2,h3⟩,h=>
  subst e1
  exact q (o.setOw f h1 h2 h3) h
theorem cA {i:Nat} {x:Str} {e:Expr} {pos pos':Pos} {F:TV} (hN:X.N.Nodup) (he:VE X e F) (hi:X.N[i]? =some x:=by rfl) (hx:Loc X.env.scope x:=by first|exact Or.inl rfl|exact Or.inr rfl) (hs:swapsWith e (some (.Name x pos')) pos.line X.env=pure false:=by rfl) (hf:X.fn x=true∨X.env.scope.names.lookup x=some .local:=by first|exact .inl rfl|exact .inr rfl|assumption):
  VS X (.Assign [.Name x pos'] e pos) (aRb i F):=
 let⟨_,p,f⟩:=he;⟨_,fX hN hi hx p hs hf,fun o h j=>f o.ee h fun s v H1 h1 w r=>aFb o w r h1 j.nx⟩
theorem aZ {e:Expr} {pos:Pos} {F:TV} (he:VE X e F):VS X (.Return (some e) pos) (aT2 F):=
 let⟨_,p,f⟩:=he;⟨_,bU p,fun{W B H0 A ρ σ H E D} o h j=>f o.ee h fun s v H1 h1 w r=>by
  have fw:=o.fw.trans w
  have less:∀{H:Hp} b (x:HO),¬Bx B A b->H b=some x->¬B b/\H b=some x:=fun b x n h=>⟨fun z=>n (.inl z),h⟩
  match s,h1,r with
  | .sh u,h1,r=>exact j.rt fw (s:= .sh u) (DU.mono less u r) h1
  | .ow l,h1,⟨p,xs,e1,h2,h3,h4⟩=>
   refine j.rt fw (s:= .ow l) ?_ h1
   exact RO.back (s:= .ow l) o.fw ⟨p,xs,e1,h2,h3,DUs.mono (fun b x n h=>⟨fun z=>n (z.elim (fun z=> .inl (.inl z)) .inr),h⟩) l h4⟩
  | .no,_,r=>exact r.elim⟩
theorem wN {x:Str} {pos p':Pos} (i:Nat) (hN:X.N[i]? =some x:=by rfl) (hv:Vis X.env.scope x:=by first|exact Or.inl rfl|exact Or.inr (Or.inl rfl)|exact Or.inr (Or.inr rfl)) (hd:(x==("__debug__":Str))=false:=by decide)
  (hcd:(x==("__classdict__":Str))=false:=by decide):VS X (.Return (some (.Name x p')) pos) (aO6 i):=⟨_,bU (uX hN hv hd hcd),fun{W B H0 A ρ σ H E D} o h j=>by
 unfold aO6 at h
 have less:∀{H:Hp} b (x:HO),¬Bx B A b->H b=some x->¬B b/\H b=some x:=fun b x n h=>⟨fun z=>n (.inl z),h⟩
 split at h
 ·rename_i u hs
  obtain⟨v,h1,h2⟩:=o.sh i u hs
  exact⟨v,h1,j.rt (s:= .sh u) o.fw (DU.mono less u h2) h⟩
 ·rename_i l hs
  obtain⟨p,xs,h1,h2,h3,h4⟩:=o.ow i l hs
  exact⟨_,h1,j.rt (s:= .ow l) o.fw ⟨p,xs,rfl,o.an i p h2,h3,DUs.mono (fun b x n h=>⟨fun z=>n (z.elim .inl fun e=> .inr ⟨i,by rw [e];exact h2⟩),h⟩) l h4⟩ h⟩
 ·exact h.elim⟩
end
section
variable {X:Cx}
theorem aE0 {x:Str} {a:Expr} {p' apos cpos pos:Pos} {F:TV} (i:Nat) (ha:VE X a F) (hN:X.N[i]? =some x:=by rfl) (hv:Vis X.env.scope x:=by first|exact Or.inl rfl|exact Or.inr (Or.inl rfl)|exact Or.inr (Or.inr rfl)) (hd:(x==("__debug__":Str))=false:=by decide)
  (hcd:(x==("__classdict__":Str))=false:=by decide)
  (hbase:attributeBase (.Name x p') "append" X.env (eval (.Name x p') X.env)=eval (.Name x p') X.env:=by rfl)
  (hfew:((backTo cpos (starEach [a] X.env)).all (fun x=> !x.1) && (backToKw cpos (keywordEach [] X.env)).all (fun x=>x.1.isSome)
   && decide ([a].length+([]:List Keyword).length+(if([]:List Keyword).isEmpty then 0 else 1)<30))=true:=by rfl)
  (hline:(apos.endLine==cpos.line)=true:=by rfl) (hs:starEach [a] X.env=(false,eval a X.env)::starEach [] X.env:=by rfl) (hplain:(backTo cpos (starEach [] X.env)).any (·.1)=false:=by rfl)
  (hsw:swapsWith (.Call (.Attribute (.Name x p') "append" apos) [a] [] cpos) none pos.line X.env=pure false:=by rfl):
  VS X (.Expr (.Call (.Attribute (.Name x p') "append" apos) [a] [] cpos) pos) (aRs i F):=
 let⟨_,p,f⟩:=ha;⟨_,cL (zF PySem.F.plainAttrs_list PySem.F.slot_list_append PySem.F.type_list_append mU (uX hN hv hd hcd) (aL p aX hs) hbase hfew hline hs hplain) hsw,fun{W B H0 A ρ σ H E D} o h j=>by
  unfold aRs at h
  split at h
  ·rename_i l hi
   obtain⟨q,xs,h1,h2,h3,h4⟩:=o.ow i l hi
   refine⟨_,h1,.inl ⟨rfl,_,SqL.of h3⟩,f o.ee h.2 fun s v H1 h5 w r=>?_⟩
   obtain⟨u,h6,d⟩:=r.du o.ee.eb h5
   have o1:=o.to w
   obtain⟨q',ys,g1,g2,g3,g4⟩:=o1.ow i l hi
   rw [h2]at g2
   cases g2
   refine⟨q,ys,v,rfl,rfl,g3,?_,j.nx (o1.own hi h2 (g4.app (DUs.one d))) h6⟩
   have:=g4.length
   have:(10000:Nat)<=sizeLine:=by decide
   omega
  ·exact h.elim⟩
theorem aQ8 {x:Str} {a:Expr} {p' apos cpos pos:Pos} {F:TV} (i:Nat) (ha:VE X a F) (hN:X.N[i]? =some x:=by rfl) (hv:Vis X.env.scope x:=by first|exact Or.inl rfl|exact Or.inr (Or.inl rfl)|exact Or.inr (Or.inr rfl)) (hd:(x==("__debug__":Str))=false:=by decide)
  (hcd:(x==("__classdict__":Str))=false:=by decide)
  (hbase:attributeBase (.Name x p') "extend" X.env (eval (.Name x p') X.env)=eval (.Name x p') X.env:=by rfl)
  (hfew:((backTo cpos (starEach [a] X.env)).all (fun x=> !x.1) && (backToKw cpos (keywordEach [] X.env)).all (fun x=>x.1.isSome)
   && decide ([a].length+([]:List Keyword).length+(if([]:List Keyword).isEmpty then 0 else 1)<30))=true:=by rfl)
  (hline:(apos.endLine==cpos.line)=true:=by rfl) (hs:starEach [a] X.env=(false,eval a X.env)::starEach [] X.env:=by rfl) (hplain:(backTo cpos (starEach [] X.env)).any (·.1)=false:=by rfl)
  (hsw:swapsWith (.Call (.Attribute (.Name x p') "extend" apos) [a] [] cpos) none pos.line X.env=pure false:=by rfl):
  VS X (.Expr (.Call (.Attribute (.Name x p') "extend" apos) [a] [] cpos) pos) (aS9 i F):=
 let⟨_,p,f⟩:=ha;⟨_,cL (zF PySem.F.plainAttrs_list PySem.F.slot_list_extend PySem.F.type_list_extend aIc (uX hN hv hd hcd) (aL p aX hs) hbase hfew hline hs hplain) hsw,fun{W B H0 A ρ σ H E D} o h j=>by
  unfold aS9 at h
  split at h
  ·rename_i l hi
   obtain⟨q,xs,h1,h2,h3,h4⟩:=o.ow i l hi
   refine⟨_,h1,.inl ⟨rfl,_,SqL.of h3⟩,f o.ee h fun s v H1 h5 w r=>?_⟩
   have d:=r.db o.ee.eb
   revert h5 d
   generalize s.rd=u
   intro h5 d
   split at h5<;>try exact h5.elim
   rename_i m
   have o1:=o.to w
   obtain⟨q',ys,g1,g2,g3,g4⟩:=o1.ow i l hi
   rw [h2]at g2
   cases g2
   obtain⟨b,zs,rfl,_,b2,b3⟩:=d.ls (o.ee.to w).eb
   refine⟨q,b,ys,zs,rfl,rfl,g3,b2,?_,j.nx (o1.own hi h2 (g4.app b3)) h5.2⟩
   have:=g4.length
   have:=b3.length
   have:(10000:Nat)<=sizeLine:=by decide
   omega
  ·exact h.elim⟩
theorem lN {i:Nat} {x:Str} {pos:Pos} (hN:X.N.Nodup) (hi:X.N[i]? =some x:=by rfl) (hx:Loc X.env.scope x:=by first|exact Or.inl rfl|exact Or.inr rfl) (hf:X.fn x=true∨X.env.scope.names.lookup x=some .local:=by first|exact .inl rfl|exact .inr rfl|assumption):VG X (.Name x pos) (aEp i):=
 ⟨_,bJ hN hi hx hf,fun o d h q=>q _ _ _ (o.setSh d) h⟩
theorem aGf:VGs X [] []:=⟨_,wO,fun{W B H0 A ρ σ H us vs k Q} o d l h q=>by
 match us,l with
 | [],_=>exact⟨d,q _ _ _ o h⟩⟩
theorem uG {i:Nat} {is:List Nat} {x:Str} {es:List Expr} {pos:Pos} (hN:X.N.Nodup) (h2:VGs X es is) (hi:X.N[i]? =some x:=by rfl) (hx:Loc X.env.scope x:=by first|exact Or.inl rfl|exact Or.inr rfl) (hf:X.fn x=true∨X.env.scope.names.lookup x=some .local:=by first|exact .inl rfl|exact .inr rfl|assumption)
  (hs:(assignEach (.Name x pos::es) X.env).map (·.2)=assign (.Name x pos) X.env::(assignEach es X.env).map (·.2):=by rfl):VGs X (.Name x pos::es) (i::is):=
 let⟨_,p,f⟩:=h2;⟨_,lB (bJ hN hi hx hf) p hs,fun{W B H0 A ρ σ H us vs k Q} o d l h q=>by
  match us,d,l with
  |u::us,⟨v,r,e,d1,d2⟩,l=>
   refine⟨v,r,e,f (o.setSh (i:=i) d1) (DUs.mono (fun b x n h=>⟨fun z=>n (z.elim .inl fun⟨j,e⟩=>?_),h⟩) us d2) (Nat.succ.inj l) h q⟩
   have e:(if j=i then none else A j)=some b:=e
   split at e
   ·cases e
   ·exact .inr ⟨j,e⟩⟩
theorem aJi {es:List Expr} {c:Nat} {is:List Nat} {n:Nat} {pos:Pos} (hc:X.calm=true) (h:VGs X es is) (hl:is.length=n:=by rfl) (hn:(assignEach es X.env).length=n:=by rfl) (hst:(assignEach es X.env).findIdx? (·.1)=none:=by rfl):VG X (.Tuple es c pos) (aO7 is):=
 let⟨_,p,f⟩:=h;⟨_,aBl hc p hn hst,fun{W B H0 A ρ σ H u v k Q} o d h q=>by
  match u,d,h with
  | .tp us,⟨a,xs,e,_,ha,ds⟩,⟨l,h⟩=>exact⟨a,xs,e,SqT.of ha,by rw [<-ds.length,l,hl],f o ds l h q⟩⟩
theorem aQw {tg e:Expr} {F:TV} {G:TVg} {pos:Pos} (he:VE X e F) (hg:VG X tg G) (hs:swapsWithSole [tg] e pos.line X.env=pure false:=by rfl) (hw:swappedStores [tg] e X.env=pure none:=by rfl) (h1:(assignEach [tg] X.env).map (·.2)=[assign tg X.env]:=by rfl):VS X (.Assign [tg] e pos) (aUi G F):=
 let⟨_,p,f⟩:=he;let⟨_,p',f'⟩:=hg;⟨_,aFh p p' hs hw h1,fun o h j=>f o.ee h fun s v H1 h1 w r=>by
  obtain⟨u,h2,d⟩:=r.du o.ee.eb h1
  exact f' (o.to w) d h2 fun A' ρ' σ' o' h'=>j.nx o' h'⟩
abbrev Tr (B:Addr->Prop) (H1:Hp) (B2:Addr->Prop) (H2:Hp):Prop:=∀b o,¬B b->H1 b=some o->¬B2 b/\H2 b=some o
structure WkU (W B:Addr->Prop) (H1:Hp) (J:It) (l:List U):Prop where
 stop:∀{B2 H2},Tr B H1 B2 H2->J.stop l.length H2
 go:∀{B2 H2} i,Tr B H1 B2 H2->i<l.length->J.go i H2
 yld:∀{B2 H2} (i:Nat) {x H' u},EB W B2 H2->Tr B H1 B2 H2->l[i]? =some u->J.yld i H2 x H'->Fw W H2 H'/\DU W B2 H' u x
def VTi (wi:TI) (F:TVa):Prop:=∀{W B:Addr->Prop} {ρ:EV} {σ:St} {H:Hp} {R:List U->Prop} {Q:It->Hp->Prop},EE W B H ρ σ->F ρ R->(∀l J H',R l->Fw W H H'->WkU W B H' J l->Q J H')->wi σ H Q
def VI (X:Cx) (tg iter:Expr) (F:TVa):Prop:=∃wi,PI X tg iter wi/\VTi wi F
def vLs (F:TV):TVa:=fun ρ R=>F ρ fun s=>s.es fun u=>match u with
 | .ls l=>R l
 |_=>False
def vTp (F:TV):TVa:=fun ρ R=>F ρ fun s=>s.es fun u=>match u with
 | .tp l=>R l
 |_=>False
theorem aN7 {W B:Addr->Prop} {H:Hp} {K:PySem.W.Frag} {a:Addr} {l:List U} {xs:List V} (nb:¬B a) (ha:H a=some (.lst xs)) (ds:DUs W B H l xs):WkU W B H (Itl K a) l:=
 ⟨fun t=>⟨xs,SqL.of (t a _ nb ha).2,by rw [ds.length];exact Nat.le_refl _⟩,fun i t h=>⟨xs,xs[i]'(by rw [<-ds.length];exact h),SqL.of (t a _ nb ha).2,List.getElem?_eq_getElem _⟩,fun i x H' u e t h y=>by
  obtain⟨rfl,y⟩:=y
  obtain⟨x',h1,d⟩:=ds.get h
  rw [y xs (SqL.of (t a _ nb ha).2)]at h1
  cases h1
  exact⟨e.refl,DU.mono t u d⟩⟩
theorem aRk {W B:Addr->Prop} {H:Hp} {K:PySem.W.Frag} {a:Addr} {l:List U} {xs:List V} (nb:¬B a) (ha:H a=some (.tup xs)) (ds:DUs W B H l xs):WkU W B H (Itt K a) l:=
 ⟨fun t=>⟨xs,SqT.of (t a _ nb ha).2,by rw [ds.length];exact Nat.le_refl _⟩,fun i t h=>⟨xs,xs[i]'(by rw [<-ds.length];exact h),SqT.of (t a _ nb ha).2,List.getElem?_eq_getElem _⟩,fun i x H' u e t h y=>by
  obtain⟨rfl,y⟩:=y
  obtain⟨x',h1,d⟩:=ds.get h
  rw [y xs (SqT.of (t a _ nb ha).2)]at h1
  cases h1
  exact⟨e.refl,DU.mono t u d⟩⟩
def rE (lo:Int) (n:Nat):List U:=(List.range n).map fun i:Nat=> .n (lo+(i:Int))
theorem aC7 {W B:Addr->Prop} {H:Hp} {lo:Int} {n:Nat}:WkU W B H (Itr lo n) (rE lo n):=
 ⟨fun _=>by show n<=_;simp [rE],fun i _ h=>by show i<n;simpa [rE]using h,fun i x H' u e _ h y=>by
  obtain⟨rfl,rfl⟩:=y
  unfold rE at h
  rw [List.getElem?_map]at h
  cases q:(List.range n)[i]? with
  |none=>rw [q]at h;cases h
  |some j=>
   rw [q]at h
   cases h
   have hj:=(List.getElem?_eq_some_iff.mp q).2
   rw [List.getElem_range]at hj
   subst hj
   exact⟨e.refl,rfl,rfl⟩⟩
theorem cU {tg e:Expr} {F:TV} (h:VE X e F):VI X tg e (vLs F):=let⟨_,p,f⟩:=h;⟨_,aGi p,fun e h q=>f e h fun s v H1 h1 w r=>by
 obtain⟨u,h2,d⟩:=r.du e.eb h1
 match u,h2,d with
 | .ls l,h2,⟨a,xs,e1,nb,ha,ds⟩=>exact⟨a,e1,⟨xs,SqL.of ha⟩,q l _ _ h2 w (aN7 nb ha ds)⟩⟩
theorem aJc {tg e:Expr} {F:TV} (h:VE X e F):VI X tg e (vTp F):=let⟨_,p,f⟩:=h;⟨_,aMn p,fun e h q=>f e h fun s v H1 h1 w r=>by
 obtain⟨u,h2,d⟩:=r.du e.eb h1
 match u,h2,d with
 | .tp l,h2,⟨a,xs,e1,nb,ha,ds⟩=>exact⟨a,e1,⟨xs,SqT.of ha⟩,q l _ _ h2 w (aRk nb ha ds)⟩⟩
def vRg (F:TVa):TVa:=fun ρ R=>F ρ fun us=>match us with
 | [.v (.int j)]=> -(2 ^ 62)<=j/\j<2 ^ 62/\R (rE 0 j.toNat)
 |_=>False
def aUb (F:TVa):TVa:=fun ρ R=>F ρ fun us=>match us with
 | [.v (.int i),.v (.int j)]=>(-(2 ^ 62)<=i/\i<2 ^ 62/\ -(2 ^ 62)<=j/\j<2 ^ 62)/\R (rE i (j-i).toNat)
 |_=>False
theorem gZ {tg a:Expr} {F:TVa} {p pos:Pos} (hm:X.mg "range"=none) (hi:VB X [a] F) (hgl:Gl X "range":=by rfl) (hs1:starEach [a] X.env=[(false,eval a X.env)]:=by rfl):VI X tg (.Call (.Name "range" p) [a] [] pos) (vRg F):=
 let⟨_,p,f⟩:=hi;⟨_,aAn hgl hm p hs1,fun e h q=>f e h fun us vs H1 h1 w d=>by
  match us,h1,d with
  | [.v (.int i)],⟨h2,h3,h4⟩,⟨x,r,e,d1,d2⟩=>
   obtain rfl:r=[]:=d2
   rw [d1.int]at e
   exact⟨i,e,h2,h3,q _ _ _ h4 w aC7⟩⟩
theorem aIi {tg a b:Expr} {F:TVa} {p pos:Pos} (hm:X.mg "range"=none) (hi:VB X [a,b] F) (hgl:Gl X "range":=by rfl) (hs1:starEach [a,b] X.env=[(false,eval a X.env),(false,eval b X.env)]:=by rfl) (hs2:starEach [b] X.env=[(false,eval b X.env)]:=by rfl):VI X tg (.Call (.Name "range" p) [a,b] [] pos) (aUb F):=
 let⟨_,p,f⟩:=hi;⟨_,aAh hgl hm p hs1 hs2,fun e h q=>f e h fun us vs H1 h1 w d=>by
  match us,h1,d with
  | [.v (.int i),.v (.int j)],⟨h2,h4⟩,d=>
   obtain⟨x,_,e,d1,y,r,rfl,d2,d3⟩:=d
   obtain rfl:r=[]:=d3
   rw [d1.int,d2.int]at e
   exact⟨i,j,e,h2,q _ _ _ h4 w aC7⟩⟩
def aAo (l:List U):List U:=l.zipIdx.map fun x=> .tp [.n (x.2:Nat),x.1]
theorem aNg {W B:Addr->Prop} {H:Hp} {K:PySem.W.Frag} {a:Addr} {l:List U} {xs:List V} (nb:¬B a) (ha:H a=some (.lst xs)) (ds:DUs W B H l xs):WkU W B H (Ite K a) (aAo l):=
 ⟨fun t=>⟨xs,SqL.of (t a _ nb ha).2,by simp [aAo,ds.length]⟩,fun i t h=>⟨xs,xs[i]'(by rw [<-ds.length];simpa [aAo]using h),SqL.of (t a _ nb ha).2,List.getElem?_eq_getElem _⟩,fun i x H' u e t h y=>by
  obtain⟨p,x',n,rfl,rfl,y⟩:=y
  have hx:=y xs (SqL.of (t a _ nb ha).2)
  obtain⟨u',hu,d⟩:=ds.getV hx
  have hu2:(aAo l)[i]? =some (.tp [.n (i:Nat),u']):=by simp [aAo,List.getElem?_map,List.getElem?_zipIdx,hu]
  rw [h]at hu2
  cases hu2
  have f:=e.new (o:= .tup [.int i,x']) n
  exact⟨f,p,_,rfl,e.nw n,aJ,_,_,rfl,⟨rfl,rfl⟩,_,_,rfl,DU.mono (fun b o n h=>e.keep f b o (t b o n h).1 (t b o n h).2) u' d,rfl⟩⟩
def vEn (F:TVa):TVa:=fun ρ R=>F ρ fun us=>match us with
 | [.ls l]=>R (aAo l)
 |_=>False
theorem aNc {es:List Expr} {k:Nat} {pos':Pos} {a:Expr} {F:TVa} {p pos:Pos} (hm:X.mg "enumerate"=none) (hi:VA X [a] F) (hgl:Gl X "enumerate":=by rfl) (hs1:starEach [a] X.env=[(false,eval a X.env)]:=by rfl):VI X (.Tuple es k pos') (.Call (.Name "enumerate" p) [a] [] pos) (vEn F):=
 let⟨_,p,f⟩:=hi;⟨_,aNk hgl hm p hs1,fun e h q=>f e h fun us vs H1 h1 _ w d=>by
  match us,h1,d with
  | [.ls l],h4,d=>
   obtain⟨x,r,e,⟨a,xs,rfl,nb,ha,ds⟩,d2⟩:=d
   obtain rfl:r=[]:=d2
   exact⟨a,e,⟨xs,SqL.of ha⟩,q _ _ _ h4 w (aNg nb ha ds)⟩⟩
theorem nZ {tg iter:Expr} {body:List Stmt} {F:TVa} {G:TVg} {b:TVS} {pos:Pos} (hp:PassesOwn (model X.prog X.w) X.A X.env X.xe) (hc:X.calm=true) (hi:VI X tg iter F) (hg:VG X tg G) (hb:VSs X body b)
  (hs:∀x,foldedSetIterable iter X.env x=pure x:=by intro _;rfl):VS X (.For tg iter body [] pos) (aUa G F b):=
 let⟨_,p,f⟩:=hi;let⟨_,p1,f1⟩:=hg;let⟨_,p2,f2⟩:=hb;⟨_,aBw hp hc p p1 p2 hs,fun{W B H0 A0 ρ0 σ0 H E D} o0 h j=>f o0.ee h fun l J H1 h1 w wk=>by
  have o:=o0.to w
  obtain⟨H0',o',rb,kp⟩:=o.reb
  have st:∀{A ρ σ H},EO W B H0' A ρ σ H->Tr (Bx B A0) H1 (Bx B A) H:=fun{A ρ σ H} o2 p x n hp=>by
   have h0:=kp p x (fun z=>n (.inr z)) hp
   refine⟨fun z=>z.elim (fun z=>n (.inl z)) fun⟨i,z⟩=>?_,o2.fw.fr p x (fun w=>n (.inl (o.eb.wb p w))) h0⟩
   rw [o2.an i p z]at h0
   cases h0
  refine⟨fun i m σ H=>m=l.length-i/\i<=l.length/\∃A ρ,EO W B H0' A ρ σ H/\sY G b E (l.drop i) ρ,⟨l.length,by simp,Nat.zero_le _,A0,ρ0,o',h1⟩,?_⟩
  rintro i m σ H ⟨rfl,hi,A,ρ,o2,h2⟩
  by_cases hlt:i<l.length
  ·have e:l.drop i=l[i]::l.drop (i+1):=List.drop_eq_getElem_cons hlt
   rw [e]at h2
   refine .inr ⟨wk.go i (st o2) hlt,fun σ H=>∃A ρ,EO W B H0' A ρ σ H/\sY G b E (l.drop (i+1)) ρ,fun σ' H' h=>⟨l.length-(i+1),by omega,rfl,hlt,h⟩,fun x H' y=>?_⟩
   obtain⟨w2,d⟩:=wk.yld i o2.ee.eb (st o2) (List.getElem?_eq_getElem hlt) y
   exact f1 (o2.to w2) d h2 fun A' ρ' σ' o3 h3=>f2 o3 h3 ⟨fun o4 h4=>⟨_,_,o4,h4⟩,fun o4 h4=>j.nx (o4.un o.eb rb) h4,fun o4 h4=>⟨_,_,o4,h4⟩,fun w r h4=>j.rt ⟨fun b x nw hb=>w.fr b x nw (rb.le b x nw hb),w.wo⟩ (r.un rb) h4⟩
  ·have e:i=l.length:=by omega
   subst e
   rw [List.drop_length]at h2
   exact .inl ⟨wk.stop (st o2),j.nx (o2.un o.eb rb) h2⟩⟩
theorem vfn {P:Program} {w:World} {K:PySem.W.Frag} {mg:Str->Option Value} {base:Heap} {x qual:Str} {st:Stmt} {f:Addr} {fd:FuncData} {N ps:List Str} {k:Nat} {G:TVS} {F:List U->(Sl->Prop)->Prop} (Fn:Fun K x qual st f fd) (S:aM N ps (aC st))
  (hb:∀(cdv:Value) (A:Around) (outer:List Env) (s:Shared) (H:Hp) (E:XK),eY k (A.deeper (envOfC qual (aC st) s.heap.objs.size f cdv))->VSs (aC8 CX0 P w K mg base N qual (aC st) f cdv A outer s H E).nox (fH st) G)
  (hF:∀us R,F us R->us.length=ps.length/\G {nx:=fun _=>R (.sh .no),rt:=R} (us.map .sh++List.replicate (N.length-us.length) .no)):bB P w K mg base CX0 (k+1) f fd ps (spV F):=by
 refine Fn.ok S (fun vs H Q E h=>?_) (fun cdv A outer s H vs Q E hr h=>?_)
 ·obtain⟨W,B,us,R,eb,d,h,_⟩:=h
  rw [<-d.length]
  exact(hF us R h).1
 ·obtain⟨t,p,g⟩:=hb cdv A outer s H E hr
  obtain⟨W,B,us,R,eb,d,h,q⟩:=h
  refine⟨t,p,g (W:=W) (B:=B) (H0:=H) (A:=fun _=>none) ⟨eb,eb.refl,?_,fun _ _ z=>(nomatch z),fun _ _ z=>(nomatch z),fun _ _ _ z=>(nomatch z),fun i u h=>?_,fun i l h=>?_,fun i l h=>?_⟩ (hF us R h).2 ⟨fun o h=>?_,fun _ z=>z.elim,fun _ z=>z.elim,fun w r h=>q _ _ _ h w r⟩⟩
  ·simp only [start,List.length_append,List.length_map,List.length_replicate,d.length]
  ·rw [List.getElem?_append]at h
   split at h
   ·rename_i hl
    rw [List.length_map]at hl
    rw [List.getElem?_map,List.getElem?_eq_getElem hl]at h
    cases h
    obtain⟨v,h1,h2⟩:=d.get (List.getElem?_eq_getElem hl)
    refine⟨v,?_,DU.mono (fun b x n h=>⟨fun z=>z.elim n fun⟨_,z⟩=>(nomatch z),h⟩) _ h2⟩
    unfold start
    rw [List.getElem?_append_left (by rw [List.length_map, <-d.length];exact hl),List.getElem?_map,h1]
    rfl
   ·rw [List.getElem?_replicate]at h
    split at h<;>cases h
  ·rw [List.getElem?_append]at h
   split at h
   ·rw [List.getElem?_map]at h
    cases hu:us[i]? <;>rw [hu]at h<;>cases h
   ·rw [List.getElem?_replicate]at h
    split at h<;>cases h
  ·rw [List.getElem?_append]at h
   split at h
   ·rw [List.getElem?_map]at h
    cases hu:us[i]? <;>rw [hu]at h<;>cases h
   ·rw [List.getElem?_replicate]at h
    split at h<;>cases h
  ·exact q _ _ _ h o.fw ⟨rfl,rfl⟩
end
def tV (F:TV):TE:=fun σ H Q=>∃W B ρ R,EE W B H ρ σ/\F ρ R/\∀s v H',R s->Fw W H H'->RO W B H H' s v->Q v H'
def tVc (F:TVc):TT:=fun σ H Q=>∃W B ρ R,EE W B H ρ σ/\F ρ R/\∀c H',R c->Fw W H H'->Q c H'
theorem VE.can {X:Cx} {e:Expr} {F:TV} (h:VE X e F):PE X e (tV F):=let⟨_,p,f⟩:=h;fun pins s σ H Q I ⟨_,_,_,_,e,h,q⟩=>p pins s σ H Q I (f e h q)
theorem VC.can {X:Cx} {e:Expr} {F:TVc} (h:VC X e F):PT X e (tVc F):=let⟨_,p,f⟩:=h;fun pins s σ H Q I ⟨_,_,_,_,e,h,q⟩=>p pins s σ H Q I (f e h q)
def VTh (own:Nat) (g:TG) (G:TVg):Prop:=∀{W B:Addr->Prop} {H:Hp} {ρ:EV} {σ:St} {u:U} {v:V} {k:EV->Prop} {Q:St->Hp->Prop},EE W B H ρ σ->DU W B H u v->G u ρ k->(∀ρ' σ',EE W B H ρ' σ'->σ'.length=σ.length->(∀i,own<=i->σ'[i]? =σ[i]?)->k ρ'->Q σ' H)->g v σ H Q
theorem EE.set {W B:Addr->Prop} {H:Hp} {ρ:EV} {σ:St} {u:U} {v:V} {i:Nat} (e:EE W B H ρ σ) (d:DU W B H u v):EE W B H (ρ.set i (.sh u)) (σ.set i (some v)):=by
 refine⟨e.eb,by rw [List.length_set,List.length_set,e.len],fun j u' h=>?_,fun j l h=>?_⟩
 ·rcases cI h with ⟨rfl,q,hl⟩|⟨ne,h⟩
  ·cases q
   exact⟨v,get_set (e.len▸hl),d⟩
  ·obtain⟨v',h1,h2⟩:=e.sh j u' h
   exact⟨v',by rw [eZ ne];exact h1,h2⟩
 ·have:ρ[j]? =some (Sl.ow l)∨ρ[j]? =some (Sl.br l):=by
   rcases h with h|h
   ·rcases cI h with ⟨_,q,_⟩|⟨_,h⟩
    ·cases q
    ·exact .inl h
   ·rcases cI h with ⟨_,q,_⟩|⟨_,h⟩
    ·cases q
    ·exact .inr h
  have ne:j≠i:=by
   intro z
   subst z
   rcases h with h|h<;>rcases cI h with ⟨_,q,_⟩|⟨n,_⟩
   ·cases q
   ·exact n rfl
   ·cases q
   ·exact n rfl
  obtain⟨p,xs,h1,h2⟩:=e.ow j l this
  exact⟨p,xs,by rw [eZ ne];exact h1,h2⟩
theorem cH {own i:Nat} (h:i<own):VTh own (oX i) (aEp i):=fun e d h1 q=>q _ _ (e.set d) (List.length_set ..) (fun j hj=>eZ (by omega)) h1
def aFr:List Nat->TGs
 | []=>aR3
 |i::is=>aO2 (oX i) (aFr is)
theorem aDc {own:Nat} {W B:Addr->Prop} {H:Hp} {Q:St->Hp->Prop} {k:EV->Prop}:∀{is:List Nat} {us:List U} {vs:List V} {ρ:EV} {σ:St},(∀i∈is,i<own)->EE W B H ρ σ->DUs W B H us vs->us.length=is.length->k ((is.zip us).foldl (fun ρ x=>ρ.set x.1 (.sh x.2)) ρ)->
  (∀ρ' σ',EE W B H ρ' σ'->σ'.length=σ.length->(∀i,own<=i->σ'[i]? =σ[i]?)->k ρ'->Q σ' H)->aFr is vs σ H Q
 | [],[],_,_,_,_,e,d,_,h,q=>⟨d,q _ _ e rfl (fun _ _=>rfl) h⟩
 |i::is,u::us,_,ρ,σ,hi,e,⟨v,r,e1,d1,d2⟩,l,h,q=>⟨v,r,e1,aDc (fun j hj=>hi j (List.mem_cons_of_mem _ hj)) (e.set (i:=i) d1) d2 (Nat.succ.inj l) h fun ρ' σ' e' l' a' h'=>q ρ' σ' e' (l'.trans (List.length_set ..)) (fun j hj=>(a' j hj).trans (eZ (by have:=hi i List.mem_cons_self;omega))) h'⟩
theorem aFy {own:Nat} {K:PySem.W.Frag} {is:List Nat} {n:Nat} (hl:is.length=n) (h:∀i∈is,i<own):VTh own (aSs K n (aFr is)) (aO7 is):=fun{W B H ρ σ u v k Q} e d h1 q=>by
 match u,d,h1 with
 | .tp us,⟨a,xs,e1,_,ha,ds⟩,⟨l,h1⟩=>exact⟨a,xs,e1,SqT.of ha,by rw [<-ds.length,l,hl],aDc h e ds l h1 q⟩
def rY (no:Nat) (cap:List (Str×Nat)) (ρ:EV):EV:=List.replicate no .no++cap.map fun p=>match (ρ[p.2]? :Option Sl)with
 |some (.sh u)=> .sh u
 |some (.ow l)=> .br l
 |some (.br l)=> .br l
 |_=> .no
theorem aCj {no:Nat} {cap:List (Str×Nat)} {ρ:EV} {i:Nat} {s:Sl} (h:(rY no cap ρ)[i]? =some s) (hs:s≠ .no):∃j:Nat,no<=i/\(∀σ:St,(jF no cap σ)[i]? =some ((σ[j]? :Option (Option V))).join)/\((∃u,s= .sh u/\ρ[j]? =some (Sl.sh u))∨∃l,s= .br l/\(ρ[j]? =some (Sl.ow l)∨ρ[j]? =some (Sl.br l))):=by
 unfold rY at h
 rw [List.getElem?_append]at h
 split at h
 ·rw [List.getElem?_replicate]at h
  split at h
  ·cases h
   exact(hs rfl).elim
  ·cases h
 ·rename_i hn
  rw [List.length_replicate]at hn h
  rw [List.getElem?_map]at h
  cases hc:cap[i-no]? with
  |none=>rw [hc]at h;cases h
  |some p=>
   rw [hc]at h
   refine⟨p.2,by omega,fun σ=>?_,?_⟩
   ·unfold jF
    rw [List.getElem?_append_right (by rw [List.length_replicate];omega),List.length_replicate,List.getElem?_map,hc]
    rfl
   ·have h':=Option.some.inj h
    dsimp only at h'
    split at h'
    ·exact .inl ⟨_,h'.symm,by assumption⟩
    ·exact .inr ⟨_,h'.symm,.inl (by assumption)⟩
    ·exact .inr ⟨_,h'.symm,.inr (by assumption)⟩
    ·exact(hs h'.symm).elim
theorem EE.cap {W B:Addr->Prop} {H:Hp} {ρ:EV} {σ:St} {no:Nat} {cap:List (Str×Nat)} (e:EE W B H ρ σ):EE W B H (rY no cap ρ) (jF no cap σ):=by
 refine⟨e.eb,by simp [rY,jF],fun i u h=>?_,fun i l h=>?_⟩
 ·obtain⟨j,_,c,h⟩:=aCj h (by intro z;cases z)
  rcases h with ⟨u',q,h⟩|⟨l,q,_⟩
  ·cases q
   obtain⟨v,h1,h2⟩:=e.sh j u h
   exact⟨v,by rw [c,h1];rfl,h2⟩
  ·cases q
 ·have:∃s,(rY no cap ρ)[i]? =some s/\s≠ .no/\(∀u,s≠ .sh u)/\(s= .br l∨s= .ow l):=by
   rcases h with h|h
   ·exact⟨_,h,(by intro z;cases z),(by intro _ z;cases z),.inr rfl⟩
   ·exact⟨_,h,(by intro z;cases z),(by intro _ z;cases z),.inl rfl⟩
  obtain⟨s,h,n1,n2,hs⟩:=this
  obtain⟨j,_,c,h⟩:=aCj h n1
  rcases h with ⟨u',q,_⟩|⟨l',q,h⟩
  ·exact(n2 u' q).elim
  ·rcases hs with hs|hs
   ·rw [hs]at q
    cases q
    obtain⟨p,xs,h1,h2⟩:=e.ow j l h
    exact⟨p,xs,by rw [c,h1];rfl,h2⟩
   ·rw [hs]at q
    cases q
def eO (f:U->(Option U->Prop)->Prop):List U->List U->(List U->Prop)->Prop
 | [],acc,R=>R acc
 |u::r,acc,R=>f u fun o=>match o with
  |some x=>eO f r (acc++[x]) R
  |none=>eO f r acc R
def aS6 (G:TVg) (F:TV) (ρ:EV):U->(Option U->Prop)->Prop:=fun u k=>G u ρ fun ρ1=>F ρ1 fun s=>s.es fun x=>k (some x)
def aP7 (G:TVg) (C:TVc) (F:TV) (ρ:EV):U->(Option U->Prop)->Prop:=fun u k=>G u ρ fun ρ1=>C ρ1 fun c=>(c=true->F ρ1 fun s=>s.es fun x=>k (some x))/\(c=false->k none)
structure CI (W B:Addr->Prop) (H1:Hp) (D:Addr) (ρ:EV) (us:List U) (acc:List V) (σ:St) (H:Hp):Prop where
 ee:EE W (fun b=>B b∨b=D) H ρ σ
 od:∀(i:Nat) (l:List U),ρ[i]? =some (Sl.ow l)∨ρ[i]? =some (Sl.br l)->σ[i]? ≠some (some (V.ref D))
 fw:Fw W H1 H
 dl:H D=some (.lst acc)
 du:DUs W (fun b=>B b∨b=D) H us acc
theorem EE.plus {W B:Addr->Prop} {H:Hp} {ρ:EV} {σ:St} {D:Addr} (e:EE W B H ρ σ) (n:H D=none):EE W (fun b=>B b∨b=D) (upd H D (.lst [])) ρ σ:=by
 have f:=e.eb.new (o:= .lst []) n
 have k:∀b o,¬B b->H b=some o->¬(B b∨b=D)/\upd H D (.lst []) b=some o:=fun b o nb h=>⟨fun z=>z.elim nb (aU h n),(e.eb.keep f b o nb h).2⟩
 refine⟨⟨fun p hp=>?_,fun p hp=> .inl (e.eb.wb p hp),f.wo⟩,e.len,fun i u h=>?_,fun i l h=>?_⟩
 ·rcases hp with hp|hp
  ·exact(e.eb.to f).bl p hp
  ·rw [hp,aJ];exact⟨_,rfl⟩
 ·obtain⟨v,h1,h2⟩:=e.sh i u h
  exact⟨v,h1,DU.mono k u h2⟩
 ·obtain⟨p,xs,h1,h2,h3,h4⟩:=e.ow i l h
  exact⟨p,xs,h1,h2,f.fr _ _ h2 h3,DUs.mono k l h4⟩
theorem EE.as {W B:Addr->Prop} {H:Hp} {ρ:EV} {σ σ':St} (e:EE W B H ρ σ) (ρo:∀(i:Nat) (s:Sl),ρ[i]? =some s->s≠Sl.no->σ'[i]? =σ[i]?) (l:σ'.length=σ.length):EE W B H ρ σ':=
 ⟨e.eb,e.len.trans l.symm,fun i u h=>by rw [ρo i _ h (by intro z;cases z)];exact e.sh i u h,fun i m h=>by
  rw [h.elim (fun h=>ρo i _ h (by intro z;cases z)) fun h=>ρo i _ h (by intro z;cases z)]
  exact e.ow i m h⟩
theorem CI.to {W B:Addr->Prop} {H1 H H2:Hp} {D:Addr} {ρ:EV} {us:List U} {acc:List V} {σ σ':St} (c:CI W B H1 D ρ us acc σ H) (nw:¬W D) (f:Fw W H H2) (ρo:∀(i:Nat) (s:Sl),ρ[i]? =some s->s≠Sl.no->σ'[i]? =σ[i]?) (l:σ'.length=σ.length):CI W B H1 D ρ us acc σ' H2:=
 ⟨(c.ee.to f).as ρo l,fun i m h=>by
  rw [h.elim (fun h=>ρo i _ h (by intro z;cases z)) fun h=>ρo i _ h (by intro z;cases z)]
  exact c.od i m h,c.fw.trans f,f.fr _ _ nw c.dl,DUs.mono (c.ee.eb.keep f) us c.du⟩
theorem CI.put {W B:Addr->Prop} {H1 H:Hp} {D:Addr} {ρ:EV} {us:List U} {acc:List V} {σ:St} {u:U} {v:V} (c:CI W B H1 D ρ us acc σ H) (n1:H1 D=none) (nw:¬W D) (d:DU W (fun b=>B b∨b=D) H u v):CI W B H1 D ρ (us++[u]) (acc++[v]) σ (upd H D (.lst (acc++[v]))):=by
 have k:∀b o,¬(B b∨b=D)->H b=some o->¬(B b∨b=D)/\upd H D (.lst (acc++[v])) b=some o:=fun b o nb h=>⟨nb,(aQ (fun z=>nb (.inr z))).trans h⟩
 have ww:∀p,W p->Wll (upd H D (.lst (acc++[v]))) p:=fun p hp=>by
  obtain⟨x,y,z,h⟩:=c.fw.wo p hp
  exact⟨x,y,z,(aQ (fun q:p=D=>nw (by rw [<-q];exact hp))).trans h⟩
 refine⟨⟨⟨fun p hp=>?_,c.ee.eb.wb,ww⟩,c.ee.len,fun i u' h=>?_,fun i m h=>?_⟩,c.od,⟨fun b o w h=>?_,ww⟩,aJ,DUs.mono k _ (c.du.app (DUs.one d))⟩
 ·by_cases z:p=D
  ·rw [z,aJ];exact⟨_,rfl⟩
  ·rw [aQ z];exact c.ee.eb.bl p hp
 ·obtain⟨v',h1,h2⟩:=c.ee.sh i u' h
  exact⟨v',h1,DU.mono k u' h2⟩
 ·obtain⟨p,xs,h1,h2,h3,h4⟩:=c.ee.ow i m h
  refine⟨p,xs,h1,h2,(aQ (fun q:p=D=>c.od i m h ?_)).trans h3,DUs.mono k m h4⟩
  rw [h1,q]
 ·rw [aQ (aU h n1)]
  exact c.fw.fr b o w h
theorem aL7 {no:Nat} {cap:List (Str×Nat)} {ρ:EV} {σ σ':St} (a:∀i,no<=i->σ'[i]? =σ[i]?):∀(i:Nat) (s:Sl),(rY no cap ρ)[i]? =some s->s≠Sl.no->σ'[i]? =σ[i]? :=fun i s h n=>let⟨_,q,_⟩:=aCj h n;a i q
structure WkC (W B:Addr->Prop) (H1:Hp) (J:It) (l:List U):Prop where
 stop:∀{B2 H2},Tr B H1 B2 H2->Fw W H1 H2->J.stop l.length H2
 go:∀{B2 H2} i,Tr B H1 B2 H2->Fw W H1 H2->i<l.length->J.go i H2
 yld:∀{B2 H2} (i:Nat) {x H' u},EB W B2 H2->Tr B H1 B2 H2->Fw W H1 H2->l[i]? =some u->J.yld i H2 x H'->Fw W H2 H'/\DU W B2 H' u x
def aRm (wi:TI) (F:TVa):Prop:=∀{W B:Addr->Prop} {ρ:EV} {σ:St} {H:Hp} {R:List U->Prop} {Q:It->Hp->Prop},EE W B H ρ σ->F ρ R->(∀l J H',R l->Fw W H H'->WkC W B H' J l->Q J H')->wi σ H Q
def VIc (X:Cx) (tg iter:Expr) (F:TVa):Prop:=∃wi,PI X tg iter wi/\aRm wi F
theorem vic {X:Cx} {tg iter:Expr} {F:TVa} (h:VI X tg iter F):VIc X tg iter F:=let⟨wi,p,f⟩:=h;⟨wi,p,fun e h q=>f e h fun l J H' h1 w k=>q l J H' h1 w ⟨fun t _=>k.stop t,fun i t _ hi=>k.go i t hi,fun i _ _ _ e t _ h y=>k.yld i e t h y⟩⟩
def aT3 (F:TV):TVa:=fun ρ R=>F ρ fun s=>match s.rd with
 | .ls l=>R l
 |_=>False
theorem aT7 {X:Cx} {tg e:Expr} {F:TV} (h:VE X e F):VIc X tg e (aT3 F):=let⟨_,p,f⟩:=h;⟨_,aGi p,fun{W B ρ σ H R Q} e h q=>f e h fun s v H1 h1 w r=>by
 have d:=r.db e.eb
 revert h1 d
 generalize s.rd=u
 intro h1 d
 split at h1
 ·obtain⟨a,xs,rfl,nw,ha,ds⟩:=d.ls (e.to w).eb
  refine⟨a,rfl,⟨xs,SqL.of ha⟩,q _ _ _ h1 w ⟨fun _ f=>⟨xs,SqL.of (f.fr _ _ nw ha),by rw [ds.length];exact Nat.le_refl _⟩,fun i _ f h=>⟨xs,xs[i]'(by rw [<-ds.length];exact h),SqL.of (f.fr _ _ nw ha),List.getElem?_eq_getElem _⟩,fun i x H' u e t f h y=>?_⟩⟩
  obtain⟨rfl,y⟩:=y
  obtain⟨x',g1,g2⟩:=ds.get h
  rw [y xs (SqL.of (f.fr _ _ nw ha))]at g1
  cases g1
  exact⟨e.refl,DU.mono t u g2⟩
 ·exact h1.elim⟩
def aG4 (no:Nat) (cap:List (Str×Nat)) (Fi:TVa) (G:TVg) (F:TV):TV:=fun ρ R=>Fi ρ fun l=>l.length<=10000/\eO (aS6 G F (rY no cap ρ)) l [] fun us=>R (.ow us)
def aGb (no:Nat) (cap:List (Str×Nat)) (Fi:TVa) (G:TVg) (C:TVc) (F:TV):TV:=fun ρ R=>Fi ρ fun l=>l.length<=10000/\eO (aP7 G C F (rY no cap ρ)) l [] fun us=>R (.ow us)
def CW (W B:Addr->Prop) (H1:Hp) (D:Addr) (ρ:EV) (l:List U) (f:U->(Option U->Prop)->Prop) (R:List U->Prop) (i m:Nat) (σ:St) (H:Hp):Prop:=m=l.length-i/\i<=l.length/\∃us acc,CI W B H1 D ρ us acc σ H/\us.length<=i/\eO f (l.drop i) us R
theorem CW.beg {W B:Addr->Prop} {H1:Hp} {D:Addr} {ρ:EV} {σ:St} {no:Nat} {cap:List (Str×Nat)} {l:List U} {f:U->(Option U->Prop)->Prop} {R:List U->Prop} (e:EE W B H1 ρ σ) (n1:H1 D=none) (h:eO f l [] R):CW W B H1 D (rY no cap ρ) l f R 0 l.length (jF no cap σ) (upd H1 D (.lst [])):=by
 refine⟨by simp,Nat.zero_le _,[],[],⟨e.cap.plus n1,fun i m h z=>?_,e.eb.new n1,aJ,rfl⟩,Nat.le_refl _,h⟩
 obtain⟨p,xs,h1,_,h3,_⟩:=e.cap.ow i m h
 rw [h1]at z
 cases z
 rw [n1]at h3
 cases h3
theorem CW.turn {W B:Addr->Prop} {H1 H H3:Hp} {D:Addr} {ρ:EV} {σ σ0:St} {no:Nat} {cap:List (Str×Nat)} {l:List U} {f:U->(Option U->Prop)->Prop} {R:List U->Prop} {i m:Nat} {J:It} {x:V} (e:EE W B H1 ρ σ0) (n1:H1 D=none) (ll:l.length<=10000) (wk:WkC W B H1 J l) (hlt:i<l.length) (c:CW W B H1 D (rY no cap ρ) l f R i m σ H) (y:J.yld i H x H3):
  ∃u us,EE W (fun b=>B b∨b=D) H3 (rY no cap ρ) σ/\DU W (fun b=>B b∨b=D) H3 u x/\f u (fun o=>match o with|some y=>eO f (l.drop (i+1)) (us++[y]) R|none=>eO f (l.drop (i+1)) us R)/\
   (∀(y:U) (v:V) (σ':St) (H':Hp),eO f (l.drop (i+1)) (us++[y]) R->Fw W H3 H'->DU W (fun b=>B b∨b=D) H' y v->σ'.length=σ.length->(∀i,no<=i->σ'[i]? =σ[i]?)->∃ys,H' D=some (.lst ys)/\ys.length<sizeLine/\∃m',m'<m/\CW W B H1 D (rY no cap ρ) l f R (i+1) m' σ' (upd H' D (.lst (ys++[v]))))/\
   (∀(σ':St) (H':Hp),eO f (l.drop (i+1)) us R->Fw W H3 H'->σ'.length=σ.length->(∀i,no<=i->σ'[i]? =σ[i]?)->∃m',m'<m/\CW W B H1 D (rY no cap ρ) l f R (i+1) m' σ' H'):=by
 have nw:¬W D:=fun w=>e.eb.dm D (e.eb.wb D w) n1
 obtain⟨rfl,hi,us,acc,c,hl,h2⟩:=c
 rw [List.drop_eq_getElem_cons hlt]at h2
 have tr:Tr B H1 (fun b=>B b∨b=D) H:=fun b o nb h=>⟨fun z=>z.elim nb (aU h n1),(e.eb.keep c.fw b o nb h).2⟩
 obtain⟨w3,d⟩:=wk.yld i c.ee.eb tr c.fw (List.getElem?_eq_getElem hlt) y
 have c3:=c.to (σ':=σ) nw w3 (fun _ _ _ _=>rfl) rfl
 have hz:(10000:Nat)<sizeLine:=by decide
 refine⟨l[i],us,c3.ee,d,h2,fun y v σ' H' h3 f3 d3 l3 a3=>?_,fun σ' H' h3 f3 l3 a3=>⟨l.length-(i+1),by omega,rfl,hlt,us,acc,c3.to nw f3 (aL7 a3) l3,by omega,h3⟩⟩
 have c4:=c3.to nw f3 (aL7 a3) l3
 have hz2:=c4.du.length
 refine⟨acc,c4.dl,by omega,l.length-(i+1),by omega,rfl,hlt,us++[y],acc++[v],c4.put n1 nw d3,?_,h3⟩
 rw [List.length_append]
 show us.length+1<=i+1
 omega
theorem CW.end_ {W B:Addr->Prop} {H0 H1 H:Hp} {D:Addr} {ρ:EV} {σ:St} {l:List U} {f:U->(Option U->Prop)->Prop} {R:Sl->Prop} {Q:VK} {m:Nat} (w:Fw W H0 H1) (n1:H1 D=none) (c:CW W B H1 D ρ l f (fun us=>R (.ow us)) l.length m σ H) (q:∀s v H',R s->Fw W H0 H'->RO W B H0 H' s v->Q v H'):Q (.ref D) H:=by
 obtain⟨_,_,us,acc,c,_,h2⟩:=c
 rw [List.drop_length]at h2
 exact q _ _ _ h2 (w.trans c.fw) (RO.back (s:= .ow us) w ⟨D,acc,rfl,n1,c.dl,c.du⟩)
theorem aBt {no:Nat} {cap:List (Str×Nat)} {wi:TI} {Fi:TVa} {g:TG} {G:TVg} {F:TV} (hi:aRm wi Fi) (hg:VTh no g G):VT (aA5 no cap wi g (tV F)) (aG4 no cap Fi G F):=fun{W B ρ σ H R Q} e h q=>hi e h fun l J H1 h1 w wk D n1=>by
 have e1:=e.to w
 refine⟨CW W B H1 D (rY no cap ρ) l _ _,⟨_,CW.beg e1 n1 h1.2⟩,fun i m σ2 H2 c=>?_⟩
 have tr:Tr B H1 (fun b=>B b∨b=D) H2:=let⟨_,_,_,_,c,_⟩:=c;fun b o nb h=>⟨fun z=>z.elim nb (aU h n1),(e1.eb.keep c.fw b o nb h).2⟩
 have fw:Fw W H1 H2:=let⟨_,_,_,_,c,_⟩:=c;c.fw
 by_cases hlt:i<l.length
 ·refine .inr ⟨wk.go i tr fw hlt,fun x H3 y=>?_⟩
  obtain⟨u,us,e3,d3,h3,put,_⟩:=c.turn e1 n1 h1.1 wk hlt y
  refine hg e3 d3 h3 fun ρ' σ' e' l' a' h'=>⟨W,_,ρ',_,e',h',fun s v H5 h5 w5 r5=>?_⟩
  obtain⟨y,hy,dy⟩:=r5.du e'.eb h5
  exact put y v σ' H5 hy w5 dy l' a'
 ·have hi':=c.2.1
  obtain rfl:i=l.length:=by omega
  exact .inl ⟨wk.stop tr fw,c.end_ w n1 q⟩
theorem aDu {no:Nat} {cap:List (Str×Nat)} {wi:TI} {Fi:TVa} {g:TG} {G:TVg} {C:TVc} {F:TV} (hi:aRm wi Fi) (hg:VTh no g G):VT (xV no cap wi g (tVc C) (tV F)) (aGb no cap Fi G C F):=fun{W B ρ σ H R Q} e h q=>hi e h fun l J H1 h1 w wk D n1=>by
 have e1:=e.to w
 refine⟨CW W B H1 D (rY no cap ρ) l _ _,⟨_,CW.beg e1 n1 h1.2⟩,fun i m σ2 H2 c=>?_⟩
 have tr:Tr B H1 (fun b=>B b∨b=D) H2:=let⟨_,_,_,_,c,_⟩:=c;fun b o nb h=>⟨fun z=>z.elim nb (aU h n1),(e1.eb.keep c.fw b o nb h).2⟩
 have fw:Fw W H1 H2:=let⟨_,_,_,_,c,_⟩:=c;c.fw
 by_cases hlt:i<l.length
 ·refine .inr ⟨wk.go i tr fw hlt,fun x H3 y=>?_⟩
  obtain⟨u,us,e3,d3,h3,put,skip⟩:=c.turn e1 n1 h1.1 wk hlt y
  refine hg e3 d3 h3 fun ρ' σ' e' l' a' h'=>⟨W,_,ρ',_,e',h',fun c H4 h4 w4=>?_⟩
  cases c with
  |true=>
   refine aGa ⟨W,_,ρ',_,e'.to w4,h4.1 rfl,fun s v H5 h5 w5 r5=>?_⟩
   obtain⟨y,hy,dy⟩:=r5.du (e'.to w4).eb h5
   exact put y v σ' H5 hy (w4.trans w5) dy l' a'
  |false=>exact pL (skip σ' H4 (h4.2 rfl) w4 l' a')
 ·have hi':=c.2.1
  obtain rfl:i=l.length:=by omega
  exact .inl ⟨wk.stop tr fw,c.end_ w n1 q⟩
section
variable {X:Cx}
theorem kI {elt iter tg:Expr} {scope:Scope} {own:List Str} {cap:List (Str×Nat)} {pos:Pos} {Fi:TVa} {g:TG} {G:TVg} {F:TV} (sc0:Scope) (N0:List Str) (hsc:X.env.scope=sc0) (hN:X.N=N0) (hcell:∀x,X.env.scope.names.lookup x=some .cell->∃c,X.env.cells.lookup x=some c)
  (ok:oJ scope sc0 cap N0) (hc:X.calm=true) (hi:VIc X tg iter Fi) (hg:∀cl C s2 H2 fp,PG (bI X (cT own cap) scope cl C s2 H2 fp) tg g) (hG:VTh own.length g G) (he:∀cl C s2 H2 fp,VE (bI X (cT own cap) scope cl C s2 H2 fp) elt F)
  (hs:∀x,foldedSetIterable iter X.env x=pure x:=by intro _;rfl):VE X (.ListComp elt [⟨tg,iter,[],0⟩] scope pos) (aG4 own.length cap Fi G F):=
 let⟨_,p,f⟩:=hi;⟨_,aOx sc0 N0 hsc hN hcell ok hc p hg (fun cl C s2 H2 fp=>(he cl C s2 H2 fp).can) hs,aBt f hG⟩
theorem aQd {elt iter tg ci:Expr} {scope:Scope} {own:List Str} {cap:List (Str×Nat)} {pos:Pos} {Fi:TVa} {g:TG} {G:TVg} {C:TVc} {F:TV} (sc0:Scope) (N0:List Str) (hsc:X.env.scope=sc0) (hN:X.N=N0) (hcell:∀x,X.env.scope.names.lookup x=some .cell->∃c,X.env.cells.lookup x=some c)
  (ok:oJ scope sc0 cap N0) (hc:X.calm=true) (hi:VIc X tg iter Fi) (hg:∀cl C s2 H2 fp,PG (bI X (cT own cap) scope cl C s2 H2 fp) tg g) (hG:VTh own.length g G) (hC:∀cl C' s2 H2 fp,VC (bI X (cT own cap) scope cl C' s2 H2 fp) ci C) (he:∀cl C s2 H2 fp,VE (bI X (cT own cap) scope cl C s2 H2 fp) elt F)
  (hs:∀x,foldedSetIterable iter X.env x=pure x:=by intro _;rfl):VE X (.ListComp elt [⟨tg,iter,[ci],0⟩] scope pos) (aGb own.length cap Fi G C F):=
 let⟨_,p,f⟩:=hi;⟨_,aQj sc0 N0 hsc hN hcell ok hc p hg (fun cl C s2 H2 fp=>(hC cl C s2 H2 fp).can) (fun cl C s2 H2 fp=>(he cl C s2 H2 fp).can) hs,aDu f hG⟩
theorem aC1 {i:Nat} {x:Str} {elt iter tg:Expr} {scope:Scope} {own:List Str} {cap:List (Str×Nat)} {pos spos py:Pos} {Fi:TVa} {g:TG} {G:TVg} {F:TV} (hnd:X.N.Nodup) (sc0:Scope) (N0:List Str) (hsc:X.env.scope=sc0) (hN:X.N=N0) (hcell:∀x,X.env.scope.names.lookup x=some .cell->∃c,X.env.cells.lookup x=some c)
  (ok:oJ scope sc0 cap N0) (hc:X.calm=true) (hi:VIc X tg iter Fi) (hg:∀cl C s2 H2 fp,PG (bI X (cT own cap) scope cl C s2 H2 fp) tg g) (hG:VTh own.length g G) (he:∀cl C s2 H2 fp,VE (bI X (cT own cap) scope cl C s2 H2 fp) elt F)
  (hi':X.N[i]? =some x:=by rfl) (hx:Loc X.env.scope x:=by exact Or.inl rfl) (hsw:swapsWith (.ListComp elt [⟨tg,iter,[],0⟩] scope pos) (some (.Name x py)) spos.line X.env=pure true:=by rfl)
  (hs:∀x,foldedSetIterable iter X.env x=pure x:=by intro _;rfl) (hf:X.fn x=true∨X.env.scope.names.lookup x=some .local:=by first|exact .inl rfl|exact .inr rfl|assumption):VS X (.Assign [.Name x py] (.ListComp elt [⟨tg,iter,[],0⟩] scope pos) spos) (aRb i (aG4 own.length cap Fi G F)):=
 let⟨_,p,f⟩:=hi;⟨_,aSh hnd hi' hx sc0 N0 hsc hN hcell ok hc p hg (fun cl C s2 H2 fp=>(he cl C s2 H2 fp).can) hsw hs hf,fun o h j=>aBt f hG o.ee h fun s v H1 h1 w r=>aFb o w r h1 j.nx⟩
theorem aQe {i:Nat} {x:Str} {elt iter tg ci:Expr} {scope:Scope} {own:List Str} {cap:List (Str×Nat)} {pos spos py:Pos} {Fi:TVa} {g:TG} {G:TVg} {C:TVc} {F:TV} (hnd:X.N.Nodup) (sc0:Scope) (N0:List Str) (hsc:X.env.scope=sc0) (hN:X.N=N0) (hcell:∀x,X.env.scope.names.lookup x=some .cell->∃c,X.env.cells.lookup x=some c)
  (ok:oJ scope sc0 cap N0) (hc:X.calm=true) (hi:VIc X tg iter Fi) (hg:∀cl C s2 H2 fp,PG (bI X (cT own cap) scope cl C s2 H2 fp) tg g) (hG:VTh own.length g G) (hC:∀cl C' s2 H2 fp,VC (bI X (cT own cap) scope cl C' s2 H2 fp) ci C) (he:∀cl C s2 H2 fp,VE (bI X (cT own cap) scope cl C s2 H2 fp) elt F)
  (hi':X.N[i]? =some x:=by rfl) (hx:Loc X.env.scope x:=by exact Or.inl rfl) (hsw:swapsWith (.ListComp elt [⟨tg,iter,[ci],0⟩] scope pos) (some (.Name x py)) spos.line X.env=pure true:=by rfl)
  (hs:∀x,foldedSetIterable iter X.env x=pure x:=by intro _;rfl) (hf:X.fn x=true∨X.env.scope.names.lookup x=some .local:=by first|exact .inl rfl|exact .inr rfl|assumption):VS X (.Assign [.Name x py] (.ListComp elt [⟨tg,iter,[ci],0⟩] scope pos) spos) (aRb i (aGb own.length cap Fi G C F)):=
 let⟨_,p,f⟩:=hi;⟨_,aP6 hnd hi' hx sc0 N0 hsc hN hcell ok hc p hg (fun cl C s2 H2 fp=>(hC cl C s2 H2 fp).can) (fun cl C s2 H2 fp=>(he cl C s2 H2 fp).can) hsw hs hf,fun o h j=>aDu f hG o.ee h fun s v H1 h1 w r=>aFb o w r h1 j.nx⟩
theorem aQa {elt iter tg:Expr} {scope:Scope} {own:List Str} {pos:Pos} {Fi:TVa} {g:TG} {G:TVg} {F:TV} (ok:aBd scope) (hc:X.calm=true) (hi:VIc X tg iter Fi)
  (hg:∀cl C s2 H2 fp,PG (bI X (cT own []) scope cl C s2 H2 fp) tg g) (hG:VTh own.length g G) (he:∀cl C s2 H2 fp,VE (bI X (cT own []) scope cl C s2 H2 fp) elt F)
  (hs:∀x,foldedSetIterable iter X.env x=pure x:=by intro _;rfl):VE X (.ListComp elt [⟨tg,iter,[],0⟩] scope pos) (aG4 own.length [] Fi G F):=
 let⟨_,p,f⟩:=hi;⟨_,aPn ok hc p hg (fun cl C s2 H2 fp=>(he cl C s2 H2 fp).can) hs,aBt f hG⟩
theorem aB2 {a:Expr} {op} {pos:Pos} {F:TV} (h:VE X a F):VE X (.BoolOp op [a] pos) F:=let⟨_,p,f⟩:=h;⟨_,aJs p,f⟩
def aJe (g:List U->(Sl->Prop)->Prop) (G:TVa):TV:=fun ρ R=>G ρ fun us=>g us R
theorem bD {id:String} {r:List V->Hp->VK->Prop} {g:List U->(Sl->Prop)->Prop} {x:Str} {a:Expr} {es:List Expr} {G:TVa} {p pos:Pos} (hc:dU X (.builtin id) r) (cb:CB r g) (hm:X.mg x=none) (hv:bootBuiltins x=some (.builtin id)) (ha:VB X (a::es) G) (hg:Gl X x:=by rfl) (hn:x≠"__name__":=by decide) (hdb:(x==("__debug__":Str))=false:=by decide)
  (he:starEach (a::es) X.env=(false,eval a X.env)::starEach es X.env:=by rfl) (hpl:(backTo pos (starEach es X.env)).any (·.1)=false:=by rfl):VE X (.Call (.Name x p) (a::es) [] pos) (aJe g G):=
 let⟨_,p,f⟩:=ha;⟨_,gW hc hg hm hv p hn hdb he hpl,fun e h q=>f e h fun us vs H1 h1 w d=>cb (e.to w).eb d h1 fun s z H2 h2 w2 r=>q _ _ _ h2 (w.trans w2) (r.back w)⟩
theorem eU {T:String} {r:List V->Hp->VK->Prop} {g:List U->(Sl->Prop)->Prop} {x:Str} {a:Expr} {es:List Expr} {G:TVa} {p pos:Pos} (hc:dU X (.type T) r) (cb:CB r g) (hm:X.mg x=none) (hv:bootBuiltins x=some (.type T)) (ha:VB X (a::es) G) (hg:Gl X x:=by rfl) (hn:x≠"__name__":=by decide) (hdb:(x==("__debug__":Str))=false:=by decide)
  (he:starEach (a::es) X.env=(false,eval a X.env)::starEach es X.env:=by rfl) (hpl:(backTo pos (starEach es X.env)).any (·.1)=false:=by rfl):VE X (.Call (.Name x p) (a::es) [] pos) (aJe g G):=
 let⟨_,p,f⟩:=ha;⟨_,mJ hc hg hm hv p hn hdb he hpl,fun e h q=>f e h fun us vs H1 h1 w d=>cb (e.to w).eb d h1 fun s z H2 h2 w2 r=>q _ _ _ h2 (w.trans w2) (r.back w)⟩
end
def gIx:U->U->(Sl->Prop)->Prop
 | .ls l,.v (.int i),R=>∃u,atI l i=some u/\R (.sh u)
 | .tp l,.v (.int i),R=>∃u,atI l i=some u/\R (.sh u)
 |_,_,_=>False
theorem dH {K:PySem.W.Frag}:O2 (rIx K) gIx:=fun{W B H u v x y R Q} e d1 d2 h q=>by
 unfold gIx at h
 split at h
 ·exact .inl (aP3 e d1 d2 h q)
 ·exact .inr (.inl (aQl e d1 d2 h q))
 ·exact h.elim
def aQz:U->U->(Sl->Prop)->Prop
 | .v (.int i),.v (.int j),R=>R (.sh (.n (i+j)))
 | .v (.str a),.v (.str b),R=>a.length+b.length<=10000/\R (.sh (.s (a++b)))
 | .ls l,.ls m,R=>l.length+m.length<=10000/\R (.ow (l++m))
 | .tp l,.tp m,R=>l.length+m.length<=10000/\R (.sh (.tp (l++m)))
 |_,_,_=>False
theorem sz4 {n:Nat} (h:n<=10000):n<=sizeLine:=Nat.le_trans h (by decide)
section
variable {X:Cx}
def aO3 (X:Cx):R2:=fun x y H Q=>(∃i j,x= .int i/\y= .int j/\Q (.int (i+j)) H)∨(∃i j,x= .str i/\y= .str j/\i.length+j.length<=sizeLine/\Q (.str (i++j)) H)∨aSy x y H Q∨aOl X.K x y H Q∨∃a b ys,x= .ref a/\y= .ref b/\SqT X.K H a []/\SqT X.K H b ys/\Q (.ref b) H
theorem bA:OpR X (binaryOp .Add) (aO3 X):=sH.or (yC.or (aRd.or (aMy.or aJl)))
theorem bN:O2 (aO3 X) aQz:=fun{W B H u v x y R Q} e d1 d2 h q=>by
 unfold aQz at h
 split at h
 ·exact .inl ⟨_,_,d1.int,d2.int,q _ _ _ h e.refl ⟨rfl,rfl⟩⟩
 ·exact .inr (.inl ⟨_,_,d1.fl.1,d2.fl.1,sz4 h.1,q _ _ _ h.2 e.refl ⟨rfl,rfl⟩⟩)
 ·obtain⟨p,xs,rfl,_,h1,ds⟩:=d1.ls e
  obtain⟨p',ys,rfl,_,h2,ds'⟩:=d2.ls e
  have:=ds.length
  have:=ds'.length
  refine .inr (.inr (.inl ⟨p,p',xs,ys,rfl,rfl,h1,h2,sz4 (by omega),fun r n=>?_⟩))
  have f:=e.new (o:= .lst (xs++ys)) n
  exact q _ _ _ h.2 f ⟨r,_,rfl,n,aJ,DUs.mono (fun b o nb h=>⟨fun z=>z.elim nb (aU h n),(e.keep f b o nb h).2⟩) _ (ds.app ds')⟩
 ·rename_i l m
  obtain⟨p,xs,rfl,_,h1,ds⟩:=d1.tp
  obtain⟨p',ys,rfl,nb,h2,ds'⟩:=d2.tp
  have:=ds.length
  have:=ds'.length
  cases l with
  |nil=>
   rw [show xs=[]from ds]at h1
   exact .inr (.inr (.inr (.inr ⟨p,p',ys,rfl,rfl,SqT.of h1,SqT.of h2,q (.sh (.tp m)) _ _ h.2 e.refl ⟨p',ys,rfl,nb,h2,ds'⟩⟩)))
  |cons a l=>
   refine .inr (.inr (.inr (.inl ⟨p,p',xs,ys,rfl,rfl,SqT.of h1,SqT.of h2,?_,sz4 (by omega),fun z=>?_,fun _ r n=>?_⟩)))
   ·intro z
    rw [z]at ds
    obtain⟨_,_,e1,_⟩:=ds
    cases e1
   ·subst z
    have hm:m=[]:=List.length_eq_zero_iff.mp (by simpa using this)
    subst hm
    exact q _ _ _ h.2 e.refl ⟨p,xs,rfl,by assumption,h1,by rw [List.append_nil];exact ds⟩
   ·have f:=e.new (o:= .tup (xs++ys)) n
    exact q _ _ _ h.2 f ⟨r,_,rfl,e.nw n,aJ,DUs.mono (e.keep f) _ (ds.app ds')⟩
 ·exact h.elim
def aEz (g g':U->U->(Sl->Prop)->Prop) (a b c:TV):TV:=fun ρ R=>a ρ fun s=>b ρ fun s'=>g s.rd s'.rd fun r=>match r.rd with
 | .v (.bl k)=>(k=true->c ρ fun s''=>g' s'.rd s''.rd R)/\(k=false->R (.sh (.b false)))
 |_=>False
theorem aDq {r r':R2} {g g':U->U->(Sl->Prop)->Prop} {ta tb tc:TE} {F G E:TV} (o:O2 r g) (o':O2 r' g') (ha:VT ta F) (hb:VT tb G) (hc:VT tc E):VT (aE5 r r' ta tb tc) (aEz g g' F G E):=fun e h q=>by
 refine ha e h fun s v H1 h1 f1 r1=>?_
 have e1:=e.to f1
 refine hb e1 h1 fun s' v' H2 h2 f2 r2=>?_
 have e2:=e1.to f2
 have db2:=r2.db e1.eb
 refine o e2.eb ((r1.db e.eb).to e1.eb f2) db2 h2 fun s3 z H3 h3 f3 r3=>?_
 have d:=r3.db e2.eb
 revert h3 d
 generalize s3.rd=u
 intro h3 d
 split at h3
 ·rename_i k
  refine⟨k,d.fl.1,?_⟩
  have e3:=e2.to f3
  cases k with
  |true=>
   refine aGa (hc e3 (h3.1 rfl) fun s4 v4 H4 h4 f4 r4=>?_)
   refine o' (e3.to f4).eb ((db2.to e2.eb f3).to e3.eb f4) (r4.db e3.eb) h4 fun s5 v5 H5 h5 f5 r5=>?_
   have ff:=((f1.trans f2).trans f3).trans f4
   exact q _ _ _ h5 (ff.trans f5) (r5.back ff)
  |false=>exact pL (q _ _ _ (h3.2 rfl) ((f1.trans f2).trans f3) ⟨rfl,rfl⟩)
 ·exact h3.elim
theorem aI5 {op op':CmpOp} {r r':R2} {g g':U->U->(Sl->Prop)->Prop} {a b c:Expr} {pos:Pos} {F G E:TV} (ho:OpR X (compareOp op) r) (ho':OpR X (compareOp op') r') (o:O2 r g) (o':O2 r' g') (ha:VE X a F) (hb:VE X b G) (hc:VE X c E) (hm:lastMarks [op,op'] [b,c]=false:=by with_unfolding_all rfl):VE X (.Compare a [op,op'] [b,c] pos) (aEz g g' F G E):=
 let⟨_,p,f⟩:=ha;let⟨_,p1,f1⟩:=hb;let⟨_,p2,f2⟩:=hc;⟨_,aKb ho ho' p p1 p2 hm,aDq o o' f f1 f2⟩
theorem aDb {op op':CmpOp} {r r':R2} {g g':U->U->(Sl->Prop)->Prop} {a b c:Expr} {pos:Pos} {F G E:TV} (ho:OpR X (compareOp op) r) (ho':OpR X (compareOp op') r') (o:O2 r g) (o':O2 r' g') (ha:VE X a F) (hb:VE X b G) (hc:VE X c E) (hm:lastMarks [op,op'] [b,c]=false:=by with_unfolding_all rfl):VC X (.Compare a [op,op'] [b,c] pos) (rK (aEz g g' F G E)):=
 let⟨_,p,f⟩:=ha;let⟨_,p1,f1⟩:=hb;let⟨_,p2,f2⟩:=hc;⟨_,aLc ho ho' p p1 p2 hm,wG (aDq o o' f f1 f2)⟩
def vUn (g:Int->Int) (a:TV):TV:=fun ρ R=>a ρ fun s=>match s.rd with
 | .v (.int i)=>R (.sh (.n (g i)))
 |_=>False
theorem aL3 {a:Expr} {pos:Pos} {F:TV} (ha:VE X a F):VE X (.UnaryOp .USub a pos) (vUn (fun i=> -i) F):=let⟨_,p,f⟩:=ha;⟨_,aOy aJj p,fun e h q=>f e h fun s v H1 h1 f1 r=>by
 have d:=r.db e.eb
 revert h1 d
 generalize s.rd=u
 intro h1 d
 split at h1
 ·exact⟨_,d.int,q _ _ _ h1 f1 ⟨rfl,rfl⟩⟩
 ·exact h1.elim⟩
def aTt (a:TV) (k:Str):TV:=fun ρ R=>a ρ fun s=>match s.rd with
 | .dk ns us=>zK k ns us R
 |_=>False
theorem aGk {W B:Addr->Prop} {H:Hp} {f:Str} {R:Sl->Prop}:∀{ns:List Str} {us:List U} {xs:List V},DUs W B H us xs->zK f ns us R->∃u v,R (.sh u)/\DU W B H u v/\tX ((ns.map Sum.inr).zip xs:List (Key×V)) (Sum.inr f)=some v
 |n::ns,u::us,_,⟨x,r,e,h,t⟩,q=>by
  subst e
  rcases q with ⟨rfl,q⟩|⟨ne,q⟩
  ·exact⟨u,x,q,h,by rw [List.map_cons,List.zip_cons_cons,pB rfl]⟩
  ·obtain⟨u',v,h1,h2,h3⟩:=aGk t q
   refine⟨u',v,h1,h2,?_⟩
   rw [List.map_cons,List.zip_cons_cons,pO (fun z=>ne (Sum.inr.inj z))]
   exact h3
theorem kE {a:Expr} {k:Str} {j pos p} {F:TV} (hu:X.A.units+1<cLine) (ha:VE X a F) (hs:aPp (.Constant (.str k) j p):=by exact fun _ _=>rfl):VE X (.Subscript a (.Constant (.str k) j p) pos) (aTt F k):=let⟨_,p,f⟩:=ha;⟨_,aG9 hu p bK hs,fun e h q=>f e h fun s v H1 h1 f1 r=>by
 have d:=r.db e.eb
 revert h1 d
 generalize s.rd=u
 intro h1 d
 split at h1
 ·obtain⟨p,xs,rfl,_,hp,_,ds⟩:=d.dk
  obtain⟨u,v,h2,h3,h4⟩:=aGk ds h1
  refine⟨p,v,rfl,?_,q _ _ _ h2 f1 h3⟩
  rw [<-h4]
  exact aD1.k (k:=Sum.inr k) hp
 ·exact h1.elim⟩
end
theorem DBs.one {W B:Addr->Prop} {H:Hp} {u:U} {vs:List V} (h:DBs W B H [u] vs):∃x,vs=[x]/\DB W B H u x:=by
 obtain⟨x,r,e,d,t⟩:=h
 obtain rfl:r=[]:=t
 exact⟨x,e,d⟩
theorem DBs.two {W B:Addr->Prop} {H:Hp} {u v:U} {vs:List V} (h:DBs W B H [u,v] vs):∃x y,vs=[x,y]/\DB W B H u x/\DB W B H v y:=by
 obtain⟨x,r,e,d,y,r',rfl,d',t⟩:=h
 obtain rfl:r'=[]:=t
 exact⟨x,y,e,d,d'⟩
def aTf:List U->(Sl->Prop)->Prop
 | [.ls l],R=>R (.sh (.n l.length))
 | [.tp l],R=>R (.sh (.n l.length))
 |_,_=>False
theorem cZ {K:PySem.W.Frag}:CB (fun xs H Q=>∃p ys,xs=[.ref p]/\(SqL K H p ys∨SqT K H p ys)/\Q (.int ys.length) H) aTf:=fun{W B H us vs R Q} e d h q=>by
 unfold aTf at h
 split at h
 ·obtain⟨x,rfl,dd⟩:=DBs.one d
  obtain⟨p,xs,rfl,_,hp,ds⟩:=dd.ls e
  exact⟨p,xs,rfl,.inl (SqL.of hp),by rw [<-ds.length];exact q _ _ _ h e.refl ⟨rfl,rfl⟩⟩
 ·obtain⟨x,rfl,dd⟩:=DBs.one d
  obtain⟨p,xs,rfl,_,hp,ds⟩:=dd.tp
  exact⟨p,xs,rfl,.inr (SqT.of hp),by rw [<-ds.length];exact q _ _ _ h e.refl ⟨rfl,rfl⟩⟩
 ·exact h.elim
theorem DUs.bls {W B:Addr->Prop} {H:Hp}:∀{bs:List Bool} {xs:List V},DUs W B H (bs.map U.b) xs->xs=bs.map V.bl
 | [],_,h=>h
 |_::_,_,⟨x,r,e,d,t⟩=>by rw [e,d.1,DUs.bls t];rfl
theorem DUs.ints {W B:Addr->Prop} {H:Hp}:∀{ns:List Int} {xs:List V},DUs W B H (ns.map U.n) xs->xs=ns.map V.int
 | [],_,h=>h
 |_::_,_,⟨x,r,e,d,t⟩=>by rw [e,d.1,DUs.ints t];rfl
def aTm (f:List Bool->Bool):List U->(Sl->Prop)->Prop:=fun us R=>∃bs:List Bool,us=[.ls (bs.map U.b)]/\R (.sh (.b (f bs)))
theorem aF7 {X:Cx} {f:List Bool->Bool} (hc:X.calm=true):CB (fun xs H Q=>∃(p:Addr) (bs:List Bool),xs=[.ref p]/\SqL X.K H p (bs.map V.bl)/\X.calm=true/\Q (.bl (f bs)) H) (aTm f):=fun{W B H us vs R Q} e d ⟨bs,eu,h⟩ q=>by
 subst eu
 obtain⟨x,rfl,dd⟩:=DBs.one d
 obtain⟨p,xs,rfl,_,hp,ds⟩:=dd.ls e
 rw [ds.bls]at hp
 exact⟨p,bs,rfl,SqL.of hp,hc,q _ _ _ h e.refl ⟨rfl,rfl⟩⟩
def aRz:List U->(Sl->Prop)->Prop
 | [.v (.int i)],R=>R (.sh (.n (if i<0 then-i else i)))
 |_,_=>False
theorem aPu:CB (fun xs H Q=>∃i,xs=[.int i]/\Q (.int (if i<0 then-i else i)) H) aRz:=fun{W B H us vs R Q} e d h q=>by
 unfold aRz at h
 split at h
 ·obtain⟨x,rfl,dd⟩:=DBs.one d
  exact⟨_,by rw [dd.int],q _ _ _ h e.refl ⟨rfl,rfl⟩⟩
 ·exact h.elim
def aTb:List U->(Sl->Prop)->Prop
 | [.v (.int i)],R=>R (.sh (.n i))
 | [.v (.bl k)],R=>R (.sh (.n (if k then 1 else 0)))
 |_,_=>False
theorem aPz:CB (fun xs H Q=>(∃i,xs=[.int i]/\Q (.int i) H)∨∃k,xs=[.bl k]/\Q (.int (if k then 1 else 0)) H) aTb:=fun{W B H us vs R Q} e d h q=>by
 unfold aTb at h
 split at h
 ·obtain⟨x,rfl,dd⟩:=DBs.one d
  exact .inl ⟨_,by rw [dd.int],q _ _ _ h e.refl ⟨rfl,rfl⟩⟩
 ·obtain⟨x,rfl,dd⟩:=DBs.one d
  exact .inr ⟨_,by rw [dd.fl.1],q _ _ _ h e.refl ⟨rfl,rfl⟩⟩
 ·exact h.elim
def aOd:List U->(Sl->Prop)->Prop
 | [.ls l],R=>R (.ow l)
 | [.tp l],R=>R (.ow l)
 |_,_=>False
theorem sV {K:PySem.W.Frag}:CB (aLf K) aOd:=fun{W B H us vs R Q} e d h q=>by
 have fin:∀{l ys} (ds:DUs W B H l ys) (h:R (.ow l)) r,H r=none->Q (.ref r) (upd H r (.lst ys)):=fun{l ys} ds h r n=>by
  have f:=e.new (o:= .lst ys) n
  exact q _ _ _ h f ⟨r,_,rfl,n,aJ,DUs.mono (fun b o nb h=>⟨fun z=>z.elim nb (aU h n),(e.keep f b o nb h).2⟩) _ ds⟩
 unfold aOd at h
 split at h
 ·obtain⟨x,rfl,dd⟩:=DBs.one d
  obtain⟨p,xs,rfl,_,hp,ds⟩:=dd.ls e
  exact⟨p,xs,rfl,.inl (SqL.of hp),fin ds h⟩
 ·obtain⟨x,rfl,dd⟩:=DBs.one d
  obtain⟨p,xs,rfl,_,hp,ds⟩:=dd.tp
  exact⟨p,xs,rfl,.inr (SqT.of hp),fin ds h⟩
 ·exact h.elim
def aJb:List U->(Sl->Prop)->Prop
 | [.ls l],R=>R (.sh (.tp l))
 | [.tp l],R=>R (.sh (.tp l))
 |_,_=>False
theorem aL9 {K:PySem.W.Frag}:CB (aG0 K) aJb:=fun{W B H us vs R Q} e d h q=>by
 unfold aJb at h
 split at h
 ·obtain⟨x,rfl,dd⟩:=DBs.one d
  obtain⟨p,xs,rfl,_,hp,ds⟩:=dd.ls e
  refine⟨p,xs,rfl,.inl ⟨SqL.of hp,fun r n=>?_⟩⟩
  have f:=e.new (o:= .tup xs) n
  exact q _ _ _ h f ⟨r,_,rfl,e.nw n,aJ,DUs.mono (e.keep f) _ ds⟩
 ·obtain⟨x,rfl,dd⟩:=DBs.one d
  obtain⟨p,xs,rfl,nb,hp,ds⟩:=dd.tp
  exact⟨p,xs,rfl,.inr ⟨SqT.of hp,q _ _ _ h e.refl ⟨p,xs,rfl,nb,hp,ds⟩⟩⟩
 ·exact h.elim
section
variable {X:Cx}
theorem cY {x:Str} {i:Int} {t:Tok} {pos:Pos} (hm:X.mg x=some (.int i t)) (hg:Gl X x:=by rfl) (hd:(x==("__debug__":Str))=false:=by decide):VE X (.Name x pos) (vC (.n i)):=⟨_,wC (v:= .int i) hg hm ⟨_,rfl⟩ hd,aLv rfl⟩
theorem lA {st:Stmt}:VS X st (fun _ _=>False):=⟨_,dB,fun _ h _=>h⟩
theorem aOr {e:Expr} {pos:Pos} {F:TV} (he:VE X e F) (hs:swapsWith e none pos.line X.env=pure false:=by rfl):VS X (.Expr e pos) (vDo F):=let⟨_,p,f⟩:=he;⟨_,cL p hs,fun o h j=>f o.ee h fun s v H1 h1 w r=>j.nx (o.to w) h1⟩
def aTc (neg:Bool) (F:TV):TV:=fun ρ R=>F ρ fun s=>match s.rd with
 | .v x=>R (.sh (.b (if neg then !decide (x= .non)else decide (x= .non))))
 | .op _=>False
 |_=>R (.sh (.b neg))
theorem DB.non {W B:Addr->Prop} {H:Hp} {u:U} {y:V} (e:EB W B H) (d:DB W B H u y) (h1:∀x,u≠ .v x) (h2:∀o,u≠ .op o):y≠ .non:=by
 intro z
 subst z
 cases u with
 |v x=>exact h1 x rfl
 |op o=>exact h2 o rfl
 |tp l=>obtain⟨_,_,q,_⟩:=d.tp;cases q
 |ls l=>obtain⟨_,_,q,_⟩:=d.ls e;cases q
 |ob C ns us=>obtain⟨_,_,_,q,_⟩:=d.ob;cases q
 |dk ns us=>obtain⟨_,_,q,_⟩:=d.dk;cases q
 |wl=>
  rcases d with ⟨_,q,_⟩|⟨_,_,_,q,_⟩<;>cases q
theorem aMq {t:TE} {F:TV} (f:VT t F):VT (aOj t) (aTc true F):=fun e h q=>f e h fun s v H1 h1 w r=>by
 have d:=r.db e.eb
 revert h1 d
 generalize s.rd=u
 intro h1 d
 split at h1
 ·rw [d.fl.1];exact q _ _ _ h1 w ⟨rfl,rfl⟩
 ·exact h1.elim
 ·rename_i n1 n2
  rw [decide_eq_false (d.non (e.to w).eb n1 n2)]
  exact q _ _ _ h1 w ⟨rfl,rfl⟩
theorem aS4 {t:TE} {F:TV} (h:VT t F):VTc (tB t) (rK F):=wG h
theorem aGh {a:Expr} {j pos pos'} {F:TV} (ha:VE X a F):VC X (.Compare a [.IsNot] [.Constant .none j pos'] pos) (rK (aTc true F)):=let⟨_,p,f⟩:=ha;⟨_,aQf (aM6 p),aS4 (aMq f)⟩
inductive Tg where
 |non|bl|int|str|tp|ls|dk
def tyU:U->Option Tg
 | .v .non=>some .non
 | .v (.bl _)=>some .bl
 | .v (.int _)=>some .int
 | .v (.str _)=>some .str
 | .tp _=>some .tp
 | .ls _=>some .ls
 | .dk _ _=>some .dk
 |_=>none
def Tg.nm:Tg->String
 | .non=>"NoneType"| .bl=>"bool"| .int=>"int"| .str=>"str"| .tp=>"tuple"| .ls=>"list"| .dk=>"dict"
def isT:Tg->Tg->Bool
 | .non,.non=>true
 | .bl,.bl=>true
 | .bl,.int=>true
 | .int,.int=>true
 | .str,.str=>true
 | .tp,.tp=>true
 | .ls,.ls=>true
 | .dk,.dk=>true
 |_,_=>false
theorem aTk {W B:Addr->Prop} {H:Hp} {u:U} {y:V} {t:Tg} {K:PySem.W.Frag} (e:EB W B H) (d:DB W B H u y) (h:tyU u=some t):tQ K H y (.type t.nm):=by
 unfold tyU at h
 split at h<;>cases h
 ·rw [d.fl.1];exact .non
 ·rw [d.fl.1];exact .bl _
 ·rw [d.fl.1];exact .int _
 ·rw [d.fl.1];exact .str _
 ·obtain⟨p,xs,rfl,_,h,_⟩:=d.tp;exact .tup h
 ·obtain⟨p,xs,rfl,_,h,_⟩:=d.ls e;exact .lst h
 ·obtain⟨p,xs,rfl,_,h,_⟩:=d.dk;exact .dK h
theorem aQb {K:PySem.W.Frag} {t n:Tg} (hn:n≠ .non):PySem.W.kitOne K (.type t.nm) (.type n.nm)=some (isT t n):=by
 cases t<;>cases n<;>first|rfl|exact(hn rfl).elim
def aTv (n:Tg) (F:TV):TV:=fun ρ R=>F ρ fun s=>∃t,tyU s.rd=some t/\R (.sh (.b (isT t n)))
theorem nO {x:Str} {a:Expr} {F:TV} {p p' pos:Pos} (n:Tg) (hn:n≠ .non) (hm:X.mg "isinstance"=none) (hm2:X.mg x=none) (hv:bootBuiltins x=some (.type n.nm)) (ha:VE X a F) (hg:Gl X "isinstance":=by rfl) (hg2:Gl X x:=by rfl) (h1:x≠"__name__":=by decide) (h2:(x==("__debug__":Str))=false:=by decide)
  (hs:starEach [a,.Name x p'] X.env=(false,eval a X.env)::starEach [.Name x p'] X.env:=by rfl) (hs2:starEach [.Name x p'] X.env=(false,eval (.Name x p') X.env)::starEach [] X.env:=by rfl) (hpl:(backTo pos (starEach [.Name x p'] X.env)).any (·.1)=false:=by rfl):
  VE X (.Call (.Name "isinstance" p) [a,.Name x p'] [] pos) (aTv n F):=
 let⟨_,q,f⟩:=ha;⟨_,gW vO hg hm boot_isinstance (aL q (aL (aGu (v:= .ty n.nm) hg2 hm2 hv rfl h1 h2) aX hs2) hs) (by decide) (by decide) hs hpl,fun e h q=>f e h fun s v H1 ⟨t,ht,h1⟩ w r=>
  ⟨_,_,_,_,rfl,aTk (K:=X.K) (e.to w).eb (r.db e.eb) ht,aQb hn,q _ _ _ h1 w ⟨rfl,rfl⟩⟩⟩
end
def gIn (neg:Bool):U->U->(Sl->Prop)->Prop
 |u,.ls l,R=>u.dt 40/\U.dts 40 l/\R (.sh (.b (if neg then !(l.any fun e=>e.eq u)else l.any fun e=>e.eq u)))
 |u,.tp l,R=>u.dt 40/\U.dts 40 l/\R (.sh (.b (if neg then !(l.any fun e=>e.eq u)else l.any fun e=>e.eq u)))
 |_,_,_=>False
theorem aEm (u:U):∀l:List U,((U.ds l).any fun e=>e.eq u.d)=l.any fun e=>e.eq u
 | []=>rfl
 |a::l=>by rw [U.ds,List.any_cons,List.any_cons,aEm u l];rfl
theorem aOc {K:PySem.W.Frag} {neg:Bool}:O2 (aQv K neg) (gIn neg):=fun{W B H u v x y R Q} e d1 d2 h q=>by
 unfold gIn at h
 split at h
 ·obtain⟨t1,t2,h⟩:=h
  obtain⟨p,xs,rfl,_,hp,ds⟩:=d2.ls e
  have h1:=U.dep 40 u t1
  have h2:=U.deps 40 _ t2
  exact⟨u.d,p,xs,_,d1.den t1,rfl,.inl (SqL.of hp),DUs.dens 40 _ t2 ds,by omega,by rw [aEm];exact q _ _ _ h e.refl ⟨rfl,rfl⟩⟩
 ·obtain⟨t1,t2,h⟩:=h
  obtain⟨p,xs,rfl,_,hp,ds⟩:=d2.tp
  have h1:=U.dep 40 u t1
  have h2:=U.deps 40 _ t2
  exact⟨u.d,p,xs,_,d1.den t1,rfl,.inr (SqT.of hp),DUs.dens 40 _ t2 ds,by omega,by rw [aEm];exact q _ _ _ h e.refl ⟨rfl,rfl⟩⟩
 ·exact h.elim
def aT0:List U->(Sl->Prop)->Prop:=fun us R=>∃ns:List Int,us=[.ls (ns.map U.n)]/\ns.length<=1000/\(∀n∈ns,0<=n/\n<=1000)/\R (.sh (.n ns.sum))
theorem aPb {K:PySem.W.Frag}:CB (aS0 K) aT0:=fun{W B H us vs R Q} e d ⟨ns,eu,hl,hn,h⟩ q=>by
 subst eu
 obtain⟨x,rfl,dd⟩:=DBs.one d
 obtain⟨p,xs,rfl,_,hp,ds⟩:=dd.ls e
 rw [ds.ints]at hp
 exact⟨p,ns,rfl,SqL.of hp,hl,hn,q _ _ _ h e.refl ⟨rfl,rfl⟩⟩
def gII (f:Int->Int->Int):List U->(Sl->Prop)->Prop
 | [.v (.int i),.v (.int j)],R=>R (.sh (.n (f i j)))
 |_,_=>False
theorem aTi {f:Int->Int->Int}:CB (fun xs H Q=>∃i j,xs=[.int i,.int j]/\Q (.int (f i j)) H) (gII f):=fun{W B H us vs R Q} e d h q=>by
 unfold gII at h
 split at h
 ·obtain⟨x,y,rfl,d1,d2⟩:=DBs.two d
  exact⟨_,_,by rw [d1.int,d2.int],q _ _ _ h e.refl ⟨rfl,rfl⟩⟩
 ·exact h.elim
section
variable {X:Cx}
def aS8 (F:TVa) (D:TV):TV:=fun ρ R=>F ρ fun us=>D ρ fun s=>∃ns:List Int,us=[.ls (ns.map U.n)]/\match s.rd with
 | .v (.int d)=>(ns=[]->R (.sh (.n d)))/\∀m:Int,m∈ns->(∀a∈ns,a<=m)->R (.sh (.n m))
 |_=>False
theorem aBa {a:Expr} {k:Expr} {kp:Pos} {F:TVa} {D:TV} {p pos:Pos} (hc:X.calm=true) (hm:X.mg "max"=none) (ha:VB X [a] F) (hk:VE X k D) (hg:Gl X "max":=by rfl)
  (hkw:∀{tk:TE},PE X k tk->PK X [⟨some "default",k,kp⟩] (aMk tk aNt):=by exact fun h=>aMt h aRe)
  (hall:(backToKw pos (keywordEach [⟨some "default",k,kp⟩] X.env)).all (·.1.isSome)=true:=by rfl) (hks:(backToKw pos (keywordEach [⟨some "default",k,kp⟩] X.env)).filterMap (·.1)=[("default":Str)]:=by rfl)
  (he:starEach [a] X.env=(false,eval a X.env)::starEach [] X.env:=by rfl) (hpl:(backTo pos (starEach [a] X.env)).any (·.1)=false:=by rfl) (hpk:(backToKw pos (keywordEach [⟨some "default",k,kp⟩] X.env)).any (·.1.isNone)=false:=by rfl):
  VE X (.Call (.Name "max" p) [a] [⟨some "default",k,kp⟩] pos) (aS8 F D):=
 let⟨_,q1,f1⟩:=ha;let⟨_,q2,f2⟩:=hk;⟨_,aHh (aH3 hc) hg hm boot_max q1 (hkw q2) hall hks (by decide) (by decide) he hpl hpk,fun e h q=>f1 e h fun us vs H1 h1 w1 d1=>f2 (e.to w1) h1 fun s v H2 h2 w2 r2=>by
  obtain⟨ns,eu,h2⟩:=h2
  subst eu
  have e2:=(e.to w1).to w2
  obtain⟨x,rfl,d⟩:=DBs.one (DBs.to (e.to w1).eb w2 d1)
  obtain⟨p,xs,rfl,_,hp,ds⟩:=d.ls e2.eb
  rw [ds.ints]at hp
  have dd:=r2.db (e.to w1).eb
  revert h2 dd
  generalize s.rd=u
  intro h2 dd
  split at h2
  ·rw [dd.int]
   exact⟨p,ns,_,rfl,rfl,SqL.of hp,fun z=>q _ _ _ (h2.1 z) (w1.trans w2) ⟨rfl,rfl⟩,fun m hm ha=>q _ _ _ (h2.2 m hm ha) (w1.trans w2) ⟨rfl,rfl⟩⟩
  ·exact h2.elim⟩
end
theorem huD {A:Around} {k:Nat} (hr:eY k A):A.units+101<cLine:=by have:=hr.un;omega
theorem Rbl {R:Sl->Prop} {c d:Bool} (q:R (.sh (.b d))) (h:c=d):R (.sh (.b c)):=h▸q
theorem gG {g:TVg} {b:TVS} {E:aC4} (I:List U->EV->Prop) (hn:∀ρ,I [] ρ->E.nx ρ) (hc:∀u r ρ,I (u::r) ρ->(∀ρ',I r ρ'->sY g b E r ρ')->sY g b E (u::r) ρ):∀{l ρ},I l ρ->sY g b E l ρ
 | [],ρ,h=>hn ρ h
 |u::r,ρ,h=>hc u r ρ h fun _ h'=>gG I hn hc h'
theorem iI {f:U->(Option U->Prop)->Prop} {R:List U->Prop} {h:U->U}:∀{l acc:List U},(∀u∈l,∀k,k (some (h u))->f u k)->R (acc++l.map h)->eO f l acc R
 | [],acc,_,r=>by rw [List.map_nil,List.append_nil]at r;exact r
 |u::l,acc,hf,r=>hf u List.mem_cons_self _ (iI (fun x hx=>hf x (List.mem_cons_of_mem _ hx)) (by rw [List.append_assoc];exact r))
theorem pU {f:U->(Option U->Prop)->Prop} {R:List U->Prop} {h:U->Option U}:∀{l acc:List U},(∀u∈l,∀k,k (h u)->f u k)->R (acc++l.filterMap h)->eO f l acc R
 | [],acc,_,r=>by rw [List.filterMap_nil,List.append_nil]at r;exact r
 |u::l,acc,hf,r=>by
  refine hf u List.mem_cons_self _ ?_
  have hf':=fun x (hx:x∈l)=>hf x (List.mem_cons_of_mem _ hx)
  cases e:h u with
  |none=>
   rw [List.filterMap_cons_none e]at r
   exact pU hf' r
  |some x=>
   rw [List.filterMap_cons_some e]at r
   exact pU hf' (by rw [List.append_assoc];exact r)
abbrev Tke:Type:=Int×List Int
def tkU (x:Tke):U:= .tp [.n x.1,.tp (x.2.map U.n)]
theorem DUs.mapInts {W B:Addr->Prop} {H:Hp}:∀{ns:List Int},DUs W B H (ns.map U.n) (ns.map V.int)
 | []=>rfl
 |_::_=>⟨_,_,rfl,⟨rfl,rfl⟩,DUs.mapInts⟩
theorem aLk {W B:Addr->Prop} {H:Hp}:∀{xs:List Tke} {zs:List V},DUs W B H (xs.map tkU) zs->∃ps:List (Tke×Addr),zs=ps.map (fun x=>V.ref x.2)/\ps.map (·.1)=xs/\∀x∈ps,PKy H x/\DU W B H (tkU x.1) (.ref x.2)
 | [],_,h=>⟨[],h,rfl,fun _ z=>nomatch z⟩
 |x::xs,_,⟨v,r,e,d,t⟩=>by
  obtain⟨ps,e1,e2,h⟩:=aLk t
  obtain⟨a,ys,rfl,nb,ha,y1,_,rfl,f1,y2,r2,rfl,⟨q,zs,rfl,nq,hq,dz⟩,e3⟩:=id d
  obtain rfl:r2=[]:=e3
  rw [f1.1]at ha
  refine⟨(x,a)::ps,by rw [e,e1];rfl,by rw [List.map_cons,e2],fun z hz=>?_⟩
  rcases List.mem_cons.mp hz with rfl|hz
  ·exact⟨⟨q,ha,by rw [dz.ints]at hq;exact hq⟩,d⟩
  ·exact h z hz
theorem aKi {W B:Addr->Prop} {H:Hp}:∀{ps:List (Tke×Addr)},(∀x∈ps,DU W B H (tkU x.1) (.ref x.2))->DUs W B H ((ps.map (·.1)).map tkU) (ps.map fun x=>V.ref x.2)
 | [],_=>rfl
 |x::ps,h=>⟨_,_,rfl,h x List.mem_cons_self,aKi fun y hy=>h y (List.mem_cons_of_mem _ hy)⟩
def aR6 (F:TVa):TV:=fun ρ R=>F ρ fun us=>∃xs ks:List Tke,us=[.ls (xs.map tkU)]/\xs.length<=60/\ks.length<18/\(∀x∈xs,x∈ks)/\∀ys:List Tke,ys.Pairwise (fun x y=>nG x y=true)->(∀y,y∈ys↔y∈xs)->R (.ow (ys.map tkU))
def aQi (F:TVa):TV:=fun ρ R=>F ρ fun us=>∃ns:List Nat,us=[.ls (ns.map fun k:Nat=>U.n k)]/\(∀n∈ns,n∈[1,2,3])/\∀zs∈fC,(∀z,z∈zs↔z∈ns)->R (.ow (zs.map fun k:Nat=>U.n k))
theorem DUs.nats {W B:Addr->Prop} {H:Hp}:∀{ns:List Nat} {xs:List V},DUs W B H (ns.map fun k:Nat=>U.n k) xs->xs=vJ ns
 | [],_,h=>h
 |_::_,_,⟨x,r,e,d,t⟩=>by rw [e,d.1,DUs.nats t];rfl
theorem DUs.ofNats {W B:Addr->Prop} {H:Hp}:∀{ns:List Nat},DUs W B H (ns.map fun k:Nat=>U.n k) (vJ ns)
 | []=>rfl
 |_::_=>⟨_,_,rfl,⟨rfl,rfl⟩,DUs.ofNats⟩
section
variable {X:Cx}
theorem aGm {k:Nat} {a:Expr} {F:TVa} {p p' pos pos':Pos} (hr:eY k X.A) (hc:X.calm=true) (h1:X.mg "sorted"=none) (h2:X.mg "set"=none) (ha:VB X [a] F) (g1:Gl X "sorted":=by rfl) (g2:Gl X "set":=by rfl) (hs:starEach [a] X.env=(false,eval a X.env)::starEach [] X.env:=by rfl) (hpl:(backTo pos' (starEach [] X.env)).any (·.1)=false:=by rfl)
  (hs':starEach [.Call (.Name "set" p') [a] [] pos'] X.env=(false,eval (.Call (.Name "set" p') [a] [] pos') X.env)::starEach [] X.env:=by rfl) (hpl':(backTo pos (starEach [] X.env)).any (·.1)=false:=by rfl):VE X (.Call (.Name "sorted" p) [.Call (.Name "set" p') [a] [] pos'] [] pos) (aR6 F):=
 let⟨_,q,f⟩:=ha;⟨_,gW (aBn (by have:=hr.un;omega) hc) g1 h1 boot_sorted (aL (mJ (aIu (by have:=hr.un;omega) hc) g2 h2 boot_set q (by decide) (by decide) hs hpl) aX hs') (by decide) (by decide) hs' hpl',fun{W B ρ σ H R Q} e h q=>f e h fun us vs H1 ⟨xs,ks,eu,xl,kl,km,h1⟩ w1 d=>by
  subst eu
  have e1:=e.to w1
  obtain⟨x,rfl,dd⟩:=DBs.one d
  obtain⟨p,zs,rfl,_,hp,ds⟩:=dd.ls e1.eb
  obtain⟨ps,rfl,rfl,hk⟩:=aLk ds
  rw [List.length_map]at xl
  refine⟨p,ps,rfl,SqL.of hp,fun x hx=>(hk x hx).1,by omega,⟨ks,kl,fun x hx=>km _ (List.mem_map.mpr ⟨x,hx,rfl⟩)⟩,fun l zs nl nd sub all zl=>?_⟩
  have w2:=e1.eb.new (o:= .ext (jO X.prog X.w l zs)) nl
  have k2:∀x∈zs,PKy (upd H1 l (.ext (jO X.prog X.w l zs))) x/\DU W B (upd H1 l (.ext (jO X.prog X.w l zs))) (tkU x.1) (.ref x.2):=fun x hx=>by
   obtain⟨⟨q,a1,a2⟩,a3⟩:=hk x (sub x hx)
   exact⟨⟨q,(aQ (aU a1 nl)).trans a1,(aQ (aU a2 nl)).trans a2⟩,DU.mono (e1.eb.keep w2) _ a3⟩
  have e2:=e1.to w2
  refine⟨l,zs,rfl,aJ,fun x hx=>(k2 x hx).1,by omega,fun m ys nm pm pw=>?_⟩
  have w3:=e2.eb.new (o:= .lst (ys.map fun x=>V.ref x.2)) nm
  refine q (.ow ((ys.map (·.1)).map tkU)) _ _ (h1 _ ?_ fun y=>?_) ((w1.trans w2).trans w3) (RO.back (s:= .ow _) (w1.trans w2) ⟨m,_,rfl,nm,aJ,aKi fun x hx=>?_⟩)
  ·rw [List.pairwise_map];exact pw
  ·constructor
   ·intro hy
    obtain⟨x,hx,rfl⟩:=List.mem_map.mp hy
    exact List.mem_map.mpr ⟨x,sub x (pm.mem_iff.mp hx),rfl⟩
   ·intro hy
    obtain⟨x,hx,rfl⟩:=List.mem_map.mp hy
    obtain⟨z,hz,e⟩:=all x hx
    exact List.mem_map.mpr ⟨z,pm.mem_iff.mpr hz,e⟩
  ·exact DU.mono (fun b o nb h=>⟨fun z=>z.elim nb (aU h nm),(e2.eb.keep w3 b o nb h).2⟩) _ (k2 x (pm.mem_iff.mp hx)).2⟩
theorem aKp {a:Expr} {F:TVa} {p p' pos pos':Pos} (hc:X.calm=true) (h1:X.mg "sorted"=none) (h2:X.mg "set"=none) (ha:VB X [a] F) (g1:Gl X "sorted":=by rfl) (g2:Gl X "set":=by rfl) (hs:starEach [a] X.env=(false,eval a X.env)::starEach [] X.env:=by rfl) (hpl:(backTo pos' (starEach [] X.env)).any (·.1)=false:=by rfl)
  (hs':starEach [.Call (.Name "set" p') [a] [] pos'] X.env=(false,eval (.Call (.Name "set" p') [a] [] pos') X.env)::starEach [] X.env:=by rfl) (hpl':(backTo pos (starEach [] X.env)).any (·.1)=false:=by rfl):VE X (.Call (.Name "sorted" p) [.Call (.Name "set" p') [a] [] pos'] [] pos) (aQi F):=
 let⟨_,q,f⟩:=ha;⟨_,gW (aCe hc) g1 h1 boot_sorted (aL (mJ (aIm hc) g2 h2 boot_set q (by decide) (by decide) hs hpl) aX hs') (by decide) (by decide) hs' hpl',fun{W B ρ σ H R Q} e h q=>f e h fun us vs H1 ⟨ns,eu,hn,h1⟩ w1 d=>by
  subst eu
  have e1:=e.to w1
  obtain⟨x,rfl,dd⟩:=DBs.one d
  obtain⟨p,zs,rfl,_,hp,ds⟩:=dd.ls e1.eb
  rw [ds.nats]at hp
  refine⟨p,ns,rfl,SqL.of hp,hn,fun l zs nl sub all=>?_⟩
  have w2:=e1.eb.new (o:= .ext (aAd X.w l zs)) nl
  have e2:=e1.to w2
  refine⟨l,zs,rfl,aJ,fun m nm=>?_⟩
  have w3:=e2.eb.new (o:= .lst (vJ zs)) nm
  exact q (.ow _) _ _ (h1 zs sub all) ((w1.trans w2).trans w3) (RO.back (s:= .ow _) (w1.trans w2) ⟨m,_,rfl,nm,aJ,DUs.ofNats⟩)⟩
end
def spI (C:Addr) (F:List U->(List Str->List U->Prop)->Prop):Sp:=fun vs H Q _=>∃x dx vs' H1 W B us R,vs= .ref x::vs'/\H1 x=none/\H x=some (.ins C dx [])/\dW H1 H/\EB W B H1/\DUs W B H1 us vs'/\F us R/\∀ns ws xs H',R ns ws->Fw W H1 H'->H' x=some (.ins C dx (ns.zip xs))->ns.length=xs.length->DUs W B H' ws xs->Q .non H'
structure MkU (P:Program) (w:World) (K:PySem.W.Frag) (mg:Str->Option Value) (base:Heap) (k:Nat) (C:Addr) (x:Str) (ps:List Str) (F:List U->(List Str->List U->Prop)->Prop):Prop where
 ex:∃f fd,bB P w K mg base CX0 k f fd ps (spI C F)/\Mk K C f/\mg x=some (.ref C)/\Binds K fd ps []
def aSk (C:Addr) (F:List U->(List Str->List U->Prop)->Prop) (a:TVa):TV:=fun ρ R=>a ρ fun us=>F us fun ns ws=>R (.sh (.ob C ns ws))
section
variable {X:Cx}
theorem aGl {k:Nat} {C:Addr} {x:Str} {ps:List Str} {F:List U->(List Str->List U->Prop)->Prop} {a:Expr} {es:List Expr} {G:TVa} {p pos:Pos} (M:MkU X.prog X.w X.K X.mg X.base k C x ps F) (hr:eY (k+1) X.A) (ha:VA X (a::es) G) (hg:Gl X x:=by rfl)
  (hdb:(x==("__debug__":Str))=false:=by decide) (he:starEach (a::es) X.env=(false,eval a X.env)::starEach es X.env:=by rfl) (hpl:(backTo pos (starEach es X.env)).any (·.1)=false:=by rfl):VE X (.Call (.Name x p) (a::es) [] pos) (aSk C F G):=by
 obtain⟨f,fd,Fo,Mk_,hm,hb⟩:=M.ex
 obtain⟨_,p,g⟩:=ha
 refine⟨_,aGv Mk_ Fo hr hg hm hb .nil (E:=E0) bF p hdb he hpl,fun{W B ρ σ H R Q} e h q=>g e h fun us vs H1 h1 _ w d=>fun x dx nx nd ne=>?_⟩
 have e1:=(e.to w).eb
 refine⟨x,dx,vs,H1,W,B,us,_,by rw [List.append_nil],nx,aJ,fun b o hb=>?_,e1,d,h1,fun ns ws xs H' hR fw hx hl ds=>⟨rfl,q (.sh (.ob C ns ws)) _ _ hR (w.trans fw) ⟨x,dx,xs,rfl,e1.nw nx,hx,hl,ds⟩⟩⟩
 rw [aQ (aU hb nx),aQ (aU hb nd)]
 exact hb
end
theorem jJ {F:TV} {σ:St} {H:Hp} {Q:VK} {W B:Addr->Prop} {ρ:EV} {R:Sl->Prop} (e:EE W B H ρ σ) (h:F ρ R) (q:∀s v H',R s->Fw W H H'->RO W B H H' s v->Q v H'):tV F σ H Q:=⟨W,B,ρ,R,e,h,q⟩
theorem xZ {F:TVc} {σ:St} {H:Hp} {Q:Bool->Hp->Prop} {W B:Addr->Prop} {ρ:EV} {R:Bool->Prop} (e:EE W B H ρ σ) (h:F ρ R) (q:∀c H',R c->Fw W H H'->Q c H'):tVc F σ H Q:=⟨W,B,ρ,R,e,h,q⟩
section
variable {W B:Addr->Prop} {H H':Hp}
theorem lL {ρ:EV} {σ:St} {u:U} {v:V} (d:DU W B H u v) (e:EE W B H ρ σ):EE W B H (.sh u::ρ) (some v::σ):=by
 refine⟨e.eb,by rw [List.length_cons,List.length_cons,e.len],fun i u' h=>?_,fun i l h=>?_⟩
 ·cases i with
  |zero=>cases h;exact⟨v,rfl,d⟩
  |succ i=>exact e.sh i u' h
 ·cases i with
  |zero=>rcases h with h|h<;>cases h
  |succ i=>exact e.ow i l h
theorem aJd (e:EB W B H):EE W B H [] []:=⟨e,rfl,nofun,fun _ _ h=>h.elim nofun nofun⟩
theorem nF {ρ:EV} {σ:St} {v:Option V} (e:EE W B H ρ σ):EE W B H (.no::ρ) (v::σ):=by
 refine⟨e.eb,by rw [List.length_cons,List.length_cons,e.len],fun i u' h=>?_,fun i l h=>?_⟩
 ·cases i with
  |zero=>cases h
  |succ i=>exact e.sh i u' h
 ·cases i with
  |zero=>rcases h with h|h<;>cases h
  |succ i=>exact e.ow i l h
mutual
theorem DU.data (k:∀b o,¬B b->H b=some o->(∃xs,o= .tup xs)∨(∃xs,o= .lst xs)->H' b=some o):∀(n:Nat) (u:U) {v:V},u.dt n->DU W B H u v->DU W B H' u v
 |_,.v _,_,_,h=>h
 |n+1,.tp l,_,t,⟨p,xs,e,nb,hp,ds⟩=>⟨p,xs,e,nb,k _ _ nb hp (.inl ⟨_,rfl⟩),DUs.data k n l t ds⟩
 |n+1,.ls l,_,t,⟨p,xs,e,nb,hp,ds⟩=>⟨p,xs,e,nb,k _ _ nb hp (.inr ⟨_,rfl⟩),DUs.data k n l t ds⟩
theorem DUs.data (k:∀b o,¬B b->H b=some o->(∃xs,o= .tup xs)∨(∃xs,o= .lst xs)->H' b=some o):∀(n:Nat) (l:List U) {xs:List V},U.dts n l->DUs W B H l xs->DUs W B H' l xs
 |_,[],_,_,h=>h
 |n,u::l,_,⟨t,t'⟩,⟨x,r,e,h,h'⟩=>⟨x,r,e,DU.data k n u t h,DUs.data k n l t' h'⟩
end
theorem Fw.upd {H1:Hp} {x:Addr} {o:HO} (f:Fw W H1 H) (n:H1 x=none) (nw:¬W x):Fw W H1 (upd H x o):=⟨fun b u w h=>(aQ (aU h n)).trans (f.fr b u w h),fun p hp=>by
 obtain⟨a,b,c,h⟩:=f.wo p hp
 exact⟨a,b,c,(aQ (fun z:p=x=>nw (by rw [<-z];exact hp))).trans h⟩⟩
theorem eX {x C dx:Addr} {fs:List (Str×V)} {o:HO} (h:H x=some (.ins C dx fs)):∀b u,¬B b->H b=some u->(∃xs,u= .tup xs)∨(∃xs,u= .lst xs)->upd H x o b=some u:=fun b u _ hb ht=>by
 refine(aQ (fun z:b=x=>?_)).trans hb
 rw [z,h]at hb
 rcases ht with ⟨xs,rfl⟩|⟨xs,rfl⟩<;>cases hb
end
section
variable {W W' B:Addr->Prop} {H:Hp}
mutual
theorem DU.wm (k:∀p,W p->W' p):∀(u:U) {v:V},DU W B H u v->DU W' B H u v
 | .v _,_,h=>h
 | .tp l,_,⟨p,xs,e,nb,hp,t⟩=>⟨p,xs,e,nb,hp,DUs.wm k l t⟩
 | .ls l,_,⟨p,xs,e,nb,hp,t⟩=>⟨p,xs,e,nb,hp,DUs.wm k l t⟩
 | .ob _ _ us,_,⟨p,dx,xs,e,nb,hp,hl,t⟩=>⟨p,dx,xs,e,nb,hp,hl,DUs.wm k us t⟩
 | .dk _ us,_,⟨p,xs,e,nb,hp,hl,t⟩=>⟨p,xs,e,nb,hp,hl,DUs.wm k us t⟩
 | .op o,_,h=>o.wm k h
 | .wl,_,⟨p,e,h⟩=>⟨p,e,k p h⟩
theorem DUs.wm (k:∀p,W p->W' p):∀(l:List U) {xs:List V},DUs W B H l xs->DUs W' B H l xs
 | [],_,h=>h
 |u::l,_,⟨x,r,e,h,t⟩=>⟨x,r,e,DU.wm k u h,DUs.wm k l t⟩
end
mutual
def Nw:U->Prop
 | .v _=>True
 | .tp l=>Nws l
 | .ls l=>Nws l
 | .ob _ _ us=>Nws us
 | .dk _ us=>Nws us
 |_=>False
def Nws:List U->Prop
 | []=>True
 |u::l=>Nw u/\Nws l
end
mutual
theorem DU.nw:∀(u:U) {v:V},Nw u->DU W B H u v->DU W' B H u v
 | .v _,_,_,h=>h
 | .tp l,_,n,⟨p,xs,e,nb,hp,t⟩=>⟨p,xs,e,nb,hp,DUs.nw l n t⟩
 | .ls l,_,n,⟨p,xs,e,nb,hp,t⟩=>⟨p,xs,e,nb,hp,DUs.nw l n t⟩
 | .ob _ _ us,_,n,⟨p,dx,xs,e,nb,hp,hl,t⟩=>⟨p,dx,xs,e,nb,hp,hl,DUs.nw us n t⟩
 | .dk _ us,_,n,⟨p,xs,e,nb,hp,hl,t⟩=>⟨p,xs,e,nb,hp,hl,DUs.nw us n t⟩
theorem DUs.nw:∀(l:List U) {xs:List V},Nws l->DUs W B H l xs->DUs W' B H l xs
 | [],_,_,h=>h
 |u::l,_,⟨n,n'⟩,⟨x,r,e,h,t⟩=>⟨x,r,e,DU.nw u n h,DUs.nw l n' t⟩
end
end
def Sl.nw:Sl->Prop
 | .sh u=>Nw u
 | .ow l=>Nws l
 |_=>False
def vWl (i:Nat) (G:TVS):TVS:=fun E ρ=>match (ρ[i]? :Option Sl)with
 |some (.ow [.v (.int _),.v (.int _),.v (.int _)])=>G {nx:=fun _=>False,rt:=fun s=>s.nw/\E.rt s} (ρ.set i (.sh .wl))
 |_=>False
open Classical in
theorem aJ1 {X:Cx} {st:List Stmt} {G:TVS} (i:Nat) (h:VSs X st G):VSs X st (vWl i G):=let⟨_,p,f⟩:=h;⟨_,p,fun{W B H0 A ρ σ H E D} o h j=>by
 unfold vWl at h
 split at h
 ·rename_i a b c hi
  obtain⟨q,xs,h1,h2,h3,h4⟩:=o.ow i _ hi
  have ex:xs=[.int a,.int b,.int c]:=DUs.ints (ns:=[a,b,c]) h4
  subst ex
  have nq:H0 q=none:=o.an i q h2
  have nB:¬B q:=o.now nq
  have up:∀{j p},(if j=i then none else A j)=some p->j≠i/\A j=some p:=fun{j p} h=>by
   split at h
   ·cases h
   ·exact⟨by assumption,h⟩
  have bx:∀b,Bx (fun b=>B b∨b=q) (fun j=>if j=i then none else A j) b↔Bx B A b:=fun b=>by
   constructor
   ·rintro((h|rfl)|⟨j,h⟩)
    ·exact .inl h
    ·exact .inr ⟨i,h2⟩
    ·exact .inr ⟨j,(up h).2⟩
   ·rintro(hb|⟨j,hb⟩)
    ·exact .inl (.inl hb)
    ·by_cases e:j=i
     ·rw [e,h2]at hb
      exact .inl (.inr (Option.some.inj hb).symm)
     ·exact .inr ⟨j,(if_neg e).trans hb⟩
  have k:∀b x,¬Bx B A b->H b=some x->¬Bx (fun b=>B b∨b=q) (fun j=>if j=i then none else A j) b/\H b=some x:=fun b x n h=>⟨fun z=>n ((bx b).mp z),h⟩
  have own:∀b,B b->¬ ∃j,j≠i/\A j=some b:=fun b hb ⟨j,_,h⟩=>o.now (o.an j b h) hb
  have ownq:¬ ∃j,j≠i/\A j=some q:=fun⟨j,n,h⟩=>n (o.inj j i q h h2)
  let H2:Hp:=fun b=>if∃j,j≠i/\A j=some b then none else H b
  have hH2:∀b x,H2 b=some x->H b=some x:=fun b x h=>by
   have h:(if∃j,j≠i/\A j=some b then none else H b)=some x:=h
   split at h
   ·cases h
   ·exact h
  have hH:∀b,(¬ ∃j,j≠i/\A j=some b)->H2 b=H b:=fun b n=>if_neg n
  have e0:=o.ee.eb
  have Wl:∀p,(W p∨p=q)->Wll H p:=fun p hp=>hp.elim (o.fw.wo p) fun e=>⟨a,b,c,by rw [e];exact h3⟩
  have wq:∀p,(W p∨p=q)->¬ ∃j,j≠i/\A j=some p:=fun p hp=>hp.elim (fun w=>own p (o.eb.wb p w)) fun e=>by rw [e];exact ownq
  have o2:EO (fun p=>W p∨p=q) (fun b=>B b∨b=q) H2 (fun j=>if j=i then none else A j) (ρ.set i (.sh .wl)) σ H:=by
   refine⟨⟨fun p hp=>?_,fun p hp=>hp.elim (fun w=> .inl (o.eb.wb p w)) .inr,fun p hp=>?_⟩,⟨fun b x _ h=>hH2 b x h,Wl⟩,by rw [List.length_set,o.len],fun j p h=>if_pos ⟨j,up h⟩,fun j p h=>o.aw j p (up h).2,fun j j' p h h'=>o.inj j j' p (up h).2 (up h').2,fun j u h=>?_,fun j l h=>?_,fun j l h=>?_⟩
   ·rcases hp with hp|hp
    ·obtain⟨xs,e⟩:=e0.bl p (.inl hp)
     exact⟨xs,(hH p (own p hp)).trans e⟩
    ·exact⟨_,(hH p (wq p (.inr hp))).trans (by rw [hp];exact h3)⟩
   ·obtain⟨x,y,z,e⟩:=Wl p hp
    exact⟨x,y,z,(hH p (wq p hp)).trans e⟩
   ·rcases cI h with ⟨rfl,e,hl⟩|⟨ne,h⟩
    ·cases e
     exact⟨_,h1,q,rfl,.inr rfl⟩
    ·obtain⟨v',g1,g2⟩:=o.sh j u h
     exact⟨v',g1,DU.wm (fun _=> .inl) u (DU.mono k u g2)⟩
   ·rcases cI h with ⟨rfl,e,hl⟩|⟨ne,h⟩
    ·cases e
    ·obtain⟨p,xs,g1,g2,g3,g4⟩:=o.ow j l h
     exact⟨p,xs,g1,by rw [if_neg ne];exact g2,g3,DUs.wm (fun _=> .inl) l (DUs.mono k l g4)⟩
   ·rcases cI h with ⟨rfl,e,hl⟩|⟨ne,h⟩
    ·cases e
    ·exact o.nb j l h
  have keep:∀b x,H0 b=some x->H b=some x->H2 b=some x:=fun b x h0 h=>(hH b fun⟨j,_,e⟩=>by rw [o.an j b e]at h0;cases h0).trans h
  refine f o2 h ⟨fun _ z=>z.elim,fun _ z=>z.elim,fun _ z=>z.elim,fun{s v Hf} fw r hs=>?_⟩
  have fW:Fw W H0 Hf:=⟨fun b x w h0=>fw.fr b x (fun z=>z.elim w fun e=>by rw [e,nq]at h0;cases h0) (keep b x h0 (o.fw.fr b x w h0)),fun p hp=>fw.wo p (.inl hp)⟩
  have kb:∀b x,¬(B b∨b=q)->Hf b=some x->¬B b/\Hf b=some x:=fun b x n h=>⟨fun z=>n (.inl z),h⟩
  refine j.rt fW ?_ hs.2
  match s,r,hs.1 with
  | .sh u,r,n=>exact DU.nw u n (DU.mono kb u r)
  | .ow l,⟨p',ys,e1,e2,e3,e4⟩,n=>
   refine⟨p',ys,e1,?_,e3,DUs.nw l n (DUs.mono (fun b x n h=>⟨fun z=>n (z.elim (fun z=> .inl (.inl z)) .inr),h⟩) l e4)⟩
   cases z:H0 p' with
   |none=>rfl
   |some x=>
    by_cases w:W p'
    ·obtain⟨_,_,_,y⟩:=o2.eb.wo p' (.inl w)
     rw [y]at e2
     cases e2
    ·rw [keep p' x z (o.fw.fr p' x w z)]at e2
     cases e2
 ·exact h.elim⟩
theorem jZ {f:U->(Option U->Prop)->Prop} {R:List U->Prop} (P:U->Prop):∀{l acc:List U},(∀u∈l,∀k:Option U->Prop,(∀x,P x->k (some x))->f u k)->(∀xs:List U,xs.length=l.length->(∀x∈xs,P x)->R (acc++xs))->eO f l acc R
 | [],acc,_,r=>by
  have:=r [] rfl nofun
  rw [List.append_nil]at this
  exact this
 |u::l,acc,hf,r=>hf u List.mem_cons_self _ fun x hx=>jZ P (fun y hy=>hf y (List.mem_cons_of_mem _ hy)) fun xs el hp=>by
  rw [List.append_assoc]
  exact r (x::xs) (by rw [List.length_cons,List.length_cons,el]) fun y hy=>by
   rcases List.mem_cons.mp hy with rfl|hy
   ·exact hx
   ·exact hp y hy
def aTg:List U->(Sl->Prop)->Prop
 | [.v (.int i)],R=>i.natAbs.log2<1920/\R (.sh (.s (tx (itx i))))
 |_,_=>False
theorem aBc:CB aO4 aTg:=fun{W B H us vs R Q} e d h q=>by
 unfold aTg at h
 split at h
 ·obtain⟨x,rfl,dd⟩:=DBs.one d
  exact⟨_,by rw [dd.int],h.1,q _ _ _ h.2 e.refl ⟨rfl,rfl⟩⟩
 ·exact h.elim
def aAp (ls:List (List Nat)):List U:=ls.map fun l=> .s (tx l)
theorem DUs.strs {W B:Addr->Prop} {H:Hp}:∀{ls:List (List Nat)} {xs:List V},DUs W B H (aAp ls) xs->xs=ls.map fun l=>V.str (tx l)
 | [],_,h=>h
 |_::_,_,⟨x,r,e,d,t⟩=>by rw [e,d.1,DUs.strs t];rfl
def aS7 (a:TV) (b:TVa):TV:=fun ρ R=>a ρ fun s=>∃sep:List Nat,s.rd= .s (tx sep)/\b ρ fun us=>∃ls:List (List Nat),us=[.ls (aAp ls)]/\(ls.map List.length).sum+ls.length*sep.length<=100000/\R (.sh (.s (tx (glu sep ls))))
section
variable {X:Cx}
theorem aNb {o a:Expr} {apos cpos:Pos} {F:TV} {G:TVa} (ho:VE X o F) (ha:VB X [a] G) (hbase:attributeBase o "join" X.env (eval o X.env)=eval o X.env:=by rfl)
  (hfew:((backTo cpos (starEach [a] X.env)).all (fun x=> !x.1) && (backToKw cpos (keywordEach [] X.env)).all (fun x=>x.1.isSome)
   && decide ([a].length+([]:List Keyword).length+(if([]:List Keyword).isEmpty then 0 else 1)<30))=true:=by rfl)
  (hline:(apos.endLine==cpos.line)=true:=by rfl) (hs:starEach [a] X.env=(false,eval a X.env)::starEach [] X.env:=by rfl) (hplain:(backTo cpos (starEach [] X.env)).any (·.1)=false:=by rfl):VE X (.Call (.Attribute o "join" apos) [a] [] cpos) (aS7 F G):=
 let⟨_,p,f⟩:=ho;let⟨_,p',f'⟩:=ha;⟨_,zF PySem.F.plainAttrs_str PySem.F.slot_str_join PySem.F.type_str_join aNw p p' hbase hfew hline hs hplain,fun{W B ρ σ H R Q} e h q=>f e h fun s v H1 h1 w1 r1=>by
  have d1:=r1.db e.eb
  obtain⟨sep,e1,h1⟩:=h1
  rw [e1]at d1
  obtain rfl:=d1.fl.1
  refine⟨rfl,f' (e.to w1) h1 fun us vs H2 ⟨ls,e2,hz,h2⟩ w2 d2=>?_⟩
  subst e2
  obtain⟨x,rfl,dd⟩:=DBs.one d2
  obtain⟨p,zs,rfl,_,hp,ds⟩:=dd.ls ((e.to w1).to w2).eb
  rw [ds.strs]at hp
  exact⟨sep,p,ls,rfl,rfl,hp,hz,q _ _ _ h2 (w1.trans w2) ⟨rfl,rfl⟩⟩⟩
def aR1 (i j:Nat) (F:TV):TVS:=fun E ρ=>match (ρ[j]? :Option Sl)with
 |some (.ow l)=>F ρ fun s=>∃(n:Nat) (u:U),s.rd= .n (n:Int)/\l[n]? =some u/\l.length<10000/\E.nx ((ρ.set j (.ow (l.eraseIdx n))).set i (.sh u))
 |_=>False
theorem DUs.erase {W B:Addr->Prop} {H:Hp}:∀{l:List U} {xs:List V} (n:Nat),DUs W B H l xs->DUs W B H (l.eraseIdx n) (xs.eraseIdx n)
 | [],_,_,h=>by rw [show _=[]from h];exact rfl
 |_::_,_,0,⟨x,r,e,_,t⟩=>by rw [e];exact t
 |_::_,_,n+1,⟨x,r,e,h,t⟩=>by rw [e];exact⟨x,_,rfl,h,DUs.erase n t⟩
theorem aF5 {y x:Str} {a:Expr} {py p' apos cpos pos:Pos} {F:TV} {i:Nat} (j:Nat) (hNd:X.N.Nodup) (ha:VE X a F) (hi:X.N[i]? =some y:=by rfl) (hy:Loc X.env.scope y:=by first|exact Or.inl rfl|exact Or.inr rfl) (hf:X.fn y=true∨X.env.scope.names.lookup y=some .local:=by first|exact .inl rfl|exact .inr rfl|assumption)
  (hN:X.N[j]? =some x:=by rfl) (hv:Vis X.env.scope x:=by first|exact Or.inl rfl|exact Or.inr (Or.inl rfl)|exact Or.inr (Or.inr rfl)) (hd:(x==("__debug__":Str))=false:=by decide) (hcd:(x==("__classdict__":Str))=false:=by decide)
  (hbase:attributeBase (.Name x p') "pop" X.env (eval (.Name x p') X.env)=eval (.Name x p') X.env:=by rfl)
  (hfew:((backTo cpos (starEach [a] X.env)).all (fun x=> !x.1) && (backToKw cpos (keywordEach [] X.env)).all (fun x=>x.1.isSome)
   && decide ([a].length+([]:List Keyword).length+(if([]:List Keyword).isEmpty then 0 else 1)<30))=true:=by rfl)
  (hline:(apos.endLine==cpos.line)=true:=by rfl) (hs:starEach [a] X.env=(false,eval a X.env)::starEach [] X.env:=by rfl) (hplain:(backTo cpos (starEach [] X.env)).any (·.1)=false:=by rfl)
  (hsw:swapsWith (.Call (.Attribute (.Name x p') "pop" apos) [a] [] cpos) (some (.Name y py)) pos.line X.env=pure false:=by rfl):
  VS X (.Assign [.Name y py] (.Call (.Attribute (.Name x p') "pop" apos) [a] [] cpos) pos) (aR1 i j F):=
 let⟨_,p,f⟩:=ha;⟨_,fX hNd hi hy (zF PySem.F.plainAttrs_list PySem.F.slot_list_pop PySem.F.type_list_pop aJ9 (uX hN hv hd hcd) (aL p aX hs) hbase hfew hline hs hplain) hsw hf,fun{W B H0 A ρ σ H E D} o h jj=>by
  unfold aR1 at h
  split at h
  ·rename_i l hl
   obtain⟨q,xs,h1,h2,h3,h4⟩:=o.ow j l hl
   refine⟨_,h1,.inl ⟨rfl,_,SqL.of h3⟩,f o.ee h fun s v H1 h5 w r=>?_⟩
   obtain⟨n,u,e1,e2,e3,h6⟩:=h5
   have d:=r.db o.ee.eb
   rw [e1]at d
   have o1:=o.to w
   obtain⟨q',ys,g1,g2,g3,g4⟩:=o1.ow j l hl
   rw [h2]at g2
   cases g2
   obtain⟨z,hz,dz⟩:=g4.get e2
   have hn:n<ys.length:=(List.getElem?_eq_some_iff.mp hz).1
   have ll:=g4.length
   have o2:=o1.own (l':=l.eraseIdx n) (xs':=ys.eraseIdx n) hl h2 (g4.erase n)
   refine⟨q,ys,n,n,z,rfl,by rw [d.int],g3,by omega,by omega,PySem.StrLaws.seqIndex_nonneg (by omega) (by omega),hz,jj.nx (o2.setSh (i:=i) (DU.mono (fun b x nb h=>⟨nb,(aQ (fun e:b=q=>nb (by rw [e];exact .inr ⟨j,h2⟩))).trans h⟩) u dz)) h6⟩
  ·exact h.elim⟩
def aRf (C:TVc) (b:TVS):TVS:=fun E ρ=>∃I:Nat->EV->Prop,(∃m,I m ρ)/\∀m ρ,I m ρ->C ρ fun c=>(c=true->b {E with nx:=fun ρ'=>∃m',m'<m/\I m' ρ',ct:=fun ρ'=>∃m',m'<m/\I m' ρ',bk:=E.nx} ρ)/\(c=false->E.nx ρ)
theorem aLp {c:Expr} {body:List Stmt} {pos:Pos} {C:TVc} {b:TVS} (hp:PassesOwn (model X.prog X.w) X.A X.env X.xe) (hc:VC X c C) (hb:VSs X body b):VS X (.While c body [] pos) (aRf C b):=
 let⟨_,p,f⟩:=hc;let⟨_,p',f'⟩:=hb;⟨_,uB hp p p',fun{W B H0 A ρ σ H E D} o h j=>by
  obtain⟨I,⟨m0,i0⟩,turn⟩:=h
  refine⟨fun m σ H=>∃A ρ,EO W B H0 A ρ σ H/\I m ρ,⟨m0,A,ρ,o,i0⟩,?_⟩
  rintro m σ H ⟨A,ρ,o,hi⟩
  refine f o.ee (turn m ρ hi) fun c H1 h1 w=>?_
  cases c with
  |true=>exact aGa ⟨fun σ H=>∃m',m'<m/\∃A ρ,EO W B H0 A ρ σ H/\I m' ρ,fun σ' H' z=>z,f' (o.to w) (h1.1 rfl) ⟨fun o2 ⟨m',l,i⟩=>⟨m',l,_,_,o2,i⟩,fun o2 h2=>j.nx o2 h2,fun o2 ⟨m',l,i⟩=>⟨m',l,_,_,o2,i⟩,j.rt⟩⟩
  |false=>exact pL (j.nx (o.to w) (h1.2 rfl))⟩
end
section
variable {X:Cx}
def aOs (K:PySem.W.Frag):List V->Hp->VK->Prop:=fun xs H Q=>∃(p:Addr) (ns:List Int),xs=[.ref p]/\SqL K H p (ns.map V.int)/\ns≠[]/\∀m:Int,m∈ns->(∀a∈ns,a<=m)->Q (.int m) H
theorem aH8 (hc:X.calm=true):dU X (.builtin "max") (aOs X.K):=by
 intro pins s σ H xs us Q I r h
 obtain⟨p,ns,rfl,hq,hne,q⟩:=h
 obtain⟨u,rfl,ru⟩:=vals1 r
 cases ru
 obtain⟨its,rv,pl,hz⟩:=I.list hq
 have hi:IntsAre its ns:=intsAre_of rv
 obtain⟨ys,e⟩:=hi.allInts.items
 have hns:ns=ys.toList.map (·.1):=by
  rw [<-hi.numsOf, <-nums_intItems, <-e]
 have hsz:0<ys.size:=by
  have h3:0<ns.length:=List.length_pos_iff.mpr hne
  rw [hns,List.length_map,Array.length_toList]at h3;exact h3
 have hl:=pl.isList
 rw [e]at hl
 refine max_intList (I.ok.hd hc) hl hsz fun v h' tk hv hk=>?_
 obtain⟨t,rfl⟩:=intItems_at hv
 obtain⟨h1,h2⟩:=argBest_gt (numAt ys) (ys.size-1)
 refine⟨.int _,H,I.kept (t':=tk) hk,⟨t,rfl⟩,q _ ?_ fun a ha=>?_⟩
 ·rw [hns,numAt_eq];exact getD_mem (by rw [List.length_map,Array.length_toList];omega)
 ·rw [hns]at ha
  obtain⟨j,hj,rfl⟩:=mem_getD ha
  rw [List.length_map,Array.length_toList]at hj
  rw [<-numAt_eq];exact h2 j (by omega)
end
def aRr:List U->(Sl->Prop)->Prop:=fun us R=>∃ns:List Int,us=[.ls (ns.map U.n)]/\ns≠[]/\∀m:Int,m∈ns->(∀a∈ns,a<=m)->R (.sh (.n m))
theorem aM7 {K:PySem.W.Frag}:CB (aOs K) aRr:=fun{W B H us vs R Q} e d ⟨ns,eu,hn,h⟩ q=>by
 subst eu
 obtain⟨x,rfl,dd⟩:=DBs.one d
 obtain⟨p,xs,rfl,_,hp,ds⟩:=dd.ls e
 rw [ds.ints]at hp
 exact⟨p,ns,rfl,SqL.of hp,hn,fun m h1 h2=>q _ _ _ (h m h1 h2) e.refl ⟨rfl,rfl⟩⟩
section
variable {W B:Addr->Prop} {H H':Hp} {ρ ρ':EV} {σ:St}
theorem EE.fgt (e:EE W B H ρ σ) (h:∀(i:Nat) (s:Sl),ρ'[i]? =some s->s= .no∨ρ[i]? =some s) (l:ρ'.length=ρ.length):EE W B H ρ' σ:=
 ⟨e.eb,l.trans e.len,fun i u q=>(h i _ q).elim nofun fun z=>e.sh i u z,fun i m q=>q.elim (fun q=>(h i _ q).elim nofun fun z=>e.ow i m (.inl z)) fun q=>(h i _ q).elim nofun fun z=>e.ow i m (.inr z)⟩
theorem EE.at_ (e:EE W B H ρ σ) {i:Nat} {u:U} {v:V} (h:σ[i]? =some (some v)) (d:DU W B H u v):EE W B H (ρ.set i (.sh u)) σ:=by
 have:=e.set (i:=i) d
 have e2:σ.set i (some v)=σ:=by
  refine List.ext_getElem? fun j=>?_
  rw [List.getElem?_set]
  split
  ·rename_i z
   subst z
   rw [h,if_pos (List.getElem?_eq_some_iff.mp h).1]
  ·rfl
 rwa [e2]at this
end
abbrev zk (ns:List Str) (xs:List V):List (Key×V):=(ns.map Sum.inr).zip xs
theorem qL {ns:List Str} {xs:List V} {k:Str} {v:V} (l:ns.length=xs.length) (h:k∉ns):putK (zk ns xs) (Sum.inr k) v=zk (ns++[k]) (xs++[v]):=by
 unfold putK zk
 rw [if_neg,List.map_append,List.zip_append (by rw [List.length_map];exact l)]
 ·rfl
 ·intro z
  obtain⟨x,hx,e⟩:=List.any_eq_true.mp z
  have e:=of_decide_eq_true e
  have h2:=(List.of_mem_zip (show(x.1,x.2)∈_ from hx)).1
  rw [e]at h2
  obtain⟨n,hn,en⟩:=List.mem_map.mp h2
  cases en
  exact h hn
theorem aMm {ns:List Str} {xs:List V} {k:Str} {v v':V} (l:ns.length=xs.length) (h:k∉ns):putK (zk (ns++[k]) (xs++[v])) (Sum.inr k) v'=zk (ns++[k]) (xs++[v']):=by
 unfold putK zk
 rw [List.map_append,List.zip_append (by rw [List.length_map];exact l),List.zip_append (by rw [List.length_map];exact l)]
 have hk:∀x∈(ns.map Sum.inr:List Key).zip xs,¬x.1=Sum.inr k:=fun x hx e=>by
  have h2:=(List.of_mem_zip (show(x.1,x.2)∈_ from hx)).1
  rw [e]at h2
  obtain⟨n,hn,en⟩:=List.mem_map.mp h2
  cases en
  exact h hn
 rw [if_pos]
 ·rw [List.map_append]
  congr 1
  ·refine(List.map_congr_left fun x hx=>?_).trans (List.map_id _)
   rw [if_neg (hk x hx)];rfl
  ·simp
 ·rw [List.any_append]
  simp
theorem aKh {ns:List Str} {xs:List V} {k:Str} {v:V} (l:ns.length=xs.length) (h:k∉ns):tX (zk (ns++[k]) (xs++[v])) (Sum.inr k)=some v:=by
 induction ns generalizing xs with
 |nil=>
  cases xs with
  |nil=>exact pB rfl
  |cons _ _=>cases l
 |cons n ns ih=>
  cases xs with
  |nil=>cases l
  |cons x xs=>
   show tX ((Sum.inr n,x)::zk (ns++[k]) (xs++[v])) _=_
   rw [pO (fun z=>h (by cases z;exact List.mem_cons_self))]
   exact ih (Nat.succ.inj l) fun z=>h (List.mem_cons_of_mem _ z)
structure DS (W B:Addr->Prop) (Hs:Hp) (p:Addr) (ns:List Str) (us:List U) (H:Hp):Prop where
 fw:Fw W Hs H
 eb:EB W B Hs
 new:Hs p=none
 is:∃xs,H p=some (.dK (zk ns xs))/\ns.length=xs.length/\DUs W B H us xs
 dt:U.dts 40 us
theorem tG {n:Nat}:∀{l m:List U},U.dts n l->U.dts n m->U.dts n (l++m)
 | [],_,_,h=>h
 |_::_,_,⟨a,b⟩,h=>⟨a,tG b h⟩
section
variable {W B:Addr->Prop} {Hs H H':Hp} {p:Addr} {ns:List Str} {us:List U}
theorem DS.nB (d:DS W B Hs p ns us H):¬B p:=d.eb.nw d.new
theorem DS.nW (d:DS W B Hs p ns us H):¬W p:=fun z=>d.nB (d.eb.wb p z)
theorem DS.ebn (d:DS W B Hs p ns us H):EB W B H:=d.eb.to d.fw
theorem DS.go (d:DS W B Hs p ns us H) (f:Fw W H H'):DS W B Hs p ns us H':=let⟨xs,h1,h2,h3⟩:=d.is;⟨d.fw.trans f,d.eb,d.new,⟨xs,f.fr _ _ d.nW h1,h2,DUs.mono (d.ebn.keep f) us h3⟩,d.dt⟩
theorem DS.du (d:DS W B Hs p ns us H):DU W B H (.dk ns us) (.ref p):=let⟨xs,h1,h2,h3⟩:=d.is;⟨p,xs,rfl,d.nB,h1,h2,h3⟩
theorem DS.ee {ρ:EV} {σ σ':St} {i:Nat} (d:DS W B Hs p ns us H) (e:EE W B Hs ρ σ) (ρo:∀(i:Nat) (s:Sl),ρ[i]? =some s->s≠Sl.no->σ'[i]? =σ[i]?) (l:σ'.length=σ.length) (h:σ'[i]? =some (some (.ref p))):EE W B H (ρ.set i (.sh (.dk ns us))) σ':=EE.at_ ((e.to d.fw).as ρo l) h d.du
theorem qK {x:Addr} {kvs:List (Key×V)} {o:HO} (h:H x=some (.dK kvs)):∀b u,¬B b->H b=some u->(∃xs,u= .tup xs)∨(∃xs,u= .lst xs)->upd H x o b=some u:=fun b u _ hb ht=>by
 rw [aQ]
 ·exact hb
 ·intro z
  rw [z,h]at hb
  cases hb
  rcases ht with ⟨_,z⟩|⟨_,z⟩<;>cases z
theorem DS.put' (d:DS W B Hs p ns us H) {k:Str} {u:U} {v:V} {Q:Hp->Prop} {xs:List V} (h1:H p=some (.dK (zk ns xs))) (h2:ns.length=xs.length) (h3:DUs W B H us xs) (hv:DU W B H u v) (ht:u.dt 40) (hk:k∉ns) (hl:ns.length<=50) (q:DS W B Hs p (ns++[k]) (us++[u]) (upd H p (.dK (zk (ns++[k]) (xs++[v]))))->Q (upd H p (.dK (zk (ns++[k]) (xs++[v]))))):∃a H4,V.ref p= .ref a/\aBe H a (.str k) v H4/\Q H4:=by
 refine⟨p,_,rfl,aBe.k (k:=Sum.inr k) h1 ?_,?_⟩
 ·have:(zk ns xs).length<=ns.length:=by unfold zk;rw [List.length_zip,List.length_map];omega
  have:(10000:Nat)<=sizeLine:=by decide
  omega
 ·rw [qL h2 hk]
  exact q ⟨d.fw.upd d.new d.nW,d.eb,d.new,⟨xs++[v],aJ,by rw [List.length_append,List.length_append,h2];rfl,(DUs.data (qK h1) 40 us d.dt h3).app (DUs.one (DU.data (qK h1) 40 u ht hv))⟩,tG d.dt ⟨ht,trivial⟩⟩
theorem DS.put (d:DS W B Hs p ns us H) {k:Str} {u:U} {v:V} {Q:Hp->Prop} (hv:DU W B H u v) (ht:u.dt 40) (hk:k∉ns) (hl:ns.length<=50) (q:∀H',DS W B Hs p (ns++[k]) (us++[u]) H'->Q H'):∃a H4,V.ref p= .ref a/\aBe H a (.str k) v H4/\Q H4:=let⟨_,h1,h2,h3⟩:=d.is;d.put' h1 h2 h3 hv ht hk hl (q _)
theorem aNp {l:List U} {u:U} {xs:List V} (h:DUs W B H (l++[u]) xs):∃ys v,xs=ys++[v]/\DUs W B H l ys/\DU W B H u v:=by
 have a:=h.take l.length
 have b:=h.drop l.length
 rw [List.take_left]at a
 rw [List.drop_left]at b
 obtain⟨v,r,e,d,z⟩:=b
 rw [show r=[]from z]at e
 exact⟨_,v,by rw [<-e,List.take_append_drop],a,d⟩
theorem DS.again {k:Str} {u0 u:U} (d:DS W B Hs p (ns++[k]) (us++[u0]) H) {v:V} {Q:Hp->Prop} (hv:DU W B H u v) (ht:u.dt 40) (hk:k∉ns) (hl:ns.length<=50) (hu:us.length=ns.length) (q:∀H',DS W B Hs p (ns++[k]) (us++[u]) H'->Q H'):∃a H4,V.ref p= .ref a/\aBe H a (.str k) v H4/\Q H4:=by
 obtain⟨xs,h1,h2,h3⟩:=d.is
 obtain⟨ys,v0,rfl,g1,g2⟩:=aNp h3
 have h2:ns.length=ys.length:=by rw [<-g1.length,hu]
 refine⟨p,_,rfl,aBe.k (k:=Sum.inr k) h1 ?_,?_⟩
 ·have:(zk (ns++[k]) (ys++[v0])).length<=(ns++[k]).length:=by unfold zk;rw [List.length_zip,List.length_map];omega
  rw [List.length_append]at this
  have:(10000:Nat)<=sizeLine:=by decide
  have:[k].length=1:=rfl
  omega
 ·rw [aMm h2 hk]
  have hd:U.dts 40 us:=by
   have:=d.dt
   clear d h1 h3 g1 q hu
   induction us with
   |nil=>trivial
   |cons a l ih=>exact⟨this.1,ih this.2⟩
  exact q _ ⟨d.fw.upd d.new d.nW,d.eb,d.new,⟨ys++[v],aJ,by rw [List.length_append,List.length_append,h2];rfl,(DUs.data (qK h1) 40 us hd g1).app (DUs.one (DU.data (qK h1) 40 u ht hv))⟩,tG hd ⟨ht,trivial⟩⟩
structure LI (W B:Addr->Prop) (Hs Hb:Hp) (p q:Addr) (ns:List Str) (us:List U) (xs:List V) (k:Str) (l:List U) (H:Hp):Prop where
 bs:DS W B Hs p ns us Hb
 ln:ns.length=xs.length
 ds:DUs W B Hb us xs
 nq:Hb q=none
 fw:Fw W Hs H
 fd:∀b o,¬B b->Hb b=some o->(∃xs,o= .tup xs)∨(∃xs,o= .lst xs)->H b=some o
 hp:H p=some (.dK (zk (ns++[k]) (xs++[.ref q])))
 hq:∃ys,H q=some (.lst ys)/\DUs W (fun b=>B b∨b=q) H l ys
theorem LI.nB {q:Addr} {xs:List V} {k:Str} {l:List U} {Hb:Hp} (i:LI W B Hs Hb p q ns us xs k l H):¬B q:=i.bs.ebn.nw i.nq
theorem LI.nW {q:Addr} {xs:List V} {k:Str} {l:List U} {Hb:Hp} (i:LI W B Hs Hb p q ns us xs k l H):¬W q:=fun z=>i.nB (i.bs.eb.wb q z)
theorem LI.nS {q:Addr} {xs:List V} {k:Str} {l:List U} {Hb:Hp} (i:LI W B Hs Hb p q ns us xs k l H):Hs q=none:=by
 cases e:Hs q with
 |none=>rfl
 |some o=>
  have:=i.bs.fw.fr q o i.nW e
  rw [i.nq]at this
  cases this
theorem LI.dsn {q:Addr} {xs:List V} {k:Str} {l:List U} {Hb:Hp} (i:LI W B Hs Hb p q ns us xs k l H) (t:U.dts 39 l):DS W B Hs p (ns++[k]) (us++[.ls l]) H:=by
 obtain⟨ys,h1,h2⟩:=i.hq
 exact⟨i.fw,i.bs.eb,i.bs.new,⟨_,i.hp,by rw [List.length_append,List.length_append,i.ln];rfl,(DUs.data i.fd 40 us i.bs.dt i.ds).app (DUs.one ⟨q,ys,rfl,i.nB,h1,h2.less⟩)⟩,tG i.bs.dt ⟨t,trivial⟩⟩
theorem LI.go {q:Addr} {xs:List V} {k:Str} {l:List U} {Hb:Hp} (i:LI W B Hs Hb p q ns us xs k l H) (f:Fw W H H'):LI W B Hs Hb p q ns us xs k l H':=by
 obtain⟨ys,h1,h2⟩:=i.hq
 have nw:∀b,¬B b->¬W b:=fun b n z=>n (i.bs.eb.wb b z)
 exact⟨i.bs,i.ln,i.ds,i.nq,i.fw.trans f,fun b o n h t=>f.fr _ _ (nw b n) (i.fd b o n h t),f.fr _ _ i.bs.nW i.hp,ys,f.fr _ _ i.nW h1,DUs.mono (fun b o n h=>⟨n,f.fr _ _ (nw b fun z=>n (.inl z)) h⟩) l h2⟩
theorem LI.app {q:Addr} {xs:List V} {k:Str} {l:List U} {Hb:Hp} (i:LI W B Hs Hb p q ns us xs k l H) {u:U} {v:V} (d:DU W (fun b=>B b∨b=q) H u v) {ys:List V} (h:H q=some (.lst ys)):LI W B Hs Hb p q ns us xs k (l++[u]) (upd H q (.lst (ys++[v]))):=by
 obtain⟨ys',h1,h2⟩:=i.hq
 rw [h]at h1
 cases h1
 have kp:∀b o,¬(B b∨b=q)->H b=some o->¬(B b∨b=q)/\upd H q (.lst (ys++[v])) b=some o:=fun b o n e=>⟨n,(aQ fun z=>n (.inr z)).trans e⟩
 refine⟨i.bs,i.ln,i.ds,i.nq,i.fw.upd i.nS i.nW,fun b o n e t=>(aQ (aU e i.nq)).trans (i.fd b o n e t),(aQ fun z=>?_).trans i.hp,_,aJ,DUs.mono kp _ (h2.app (DUs.one d))⟩
 rw [<-z,i.hp]at h
 cases h
end
end L2
namespace Q
open PySem PyProof.Rows L2
def top (i:Nat):Stmt:=PySem.Challenge.pw_slanttiles_k33_how_far_takes_reach.main.body.getD i (.Pass ⟨0,0,0,0⟩)
abbrev nM:Stmt:=top 2
abbrev jB:Stmt:=top 3
abbrev rQ:Stmt:=top 11
abbrev pX:Stmt:=top 12
abbrev jU:Stmt:=inClass (top 22) 0
abbrev fL:Stmt:=inClass (top 22) 1
abbrev jR:Stmt:=inClass (top 22) 4
abbrev iB:Stmt:=inClass (top 22) 5
abbrev iJ:Stmt:=inClass (top 22) 6
abbrev dI:Stmt:=inClass (top 23) 1
abbrev fD:Stmt:=inClass (top 24) 1
abbrev jT:Stmt:=inClass (top 24) 4
abbrev iG:Stmt:=inClass (top 25) 1
abbrev jX:Stmt:=inClass (top 31) 1
abbrev fK:Stmt:=inClass (top 31) 2
abbrev gU:Stmt:=inClass (top 32) 1
abbrev lJ:Stmt:=top 33
abbrev oN:Stmt:=top 34
abbrev iZ:Stmt:=top 35
abbrev nC:Stmt:=top 36
abbrev iH:Stmt:=inClass (top 41) 0
abbrev oA:Stmt:=inClass (top 41) 1
abbrev oH:Stmt:=top 42
abbrev sZ:Stmt:=top 43
abbrev xG:Stmt:=top 46
abbrev jM:Stmt:=inClass (top 53) 0
abbrev oF:Stmt:=inClass (top 53) 1
abbrev gQ:Stmt:=inClass (top 53) 2
abbrev mF:Stmt:=top 54
abbrev uU:Stmt:=top 55
abbrev oZ:Stmt:=top 65
abbrev pI:Stmt:=top 67
abbrev nJ:Stmt:=top 68
abbrev nQ:Stmt:=top 69
abbrev pF:Stmt:=top 70
abbrev pC:Stmt:=top 71
abbrev iC:Stmt:=top 72
abbrev lV:Stmt:=top 73
abbrev lK:Stmt:=top 74
abbrev bO:Stmt:=top 75
abbrev rP:Stmt:=top 76
abbrev jY:Stmt:=top 77
abbrev vR:Stmt:=top 78
structure Txt (mg:Str->Option Value):Prop where
 isinstance:mg "isinstance"=none
 int:mg "int"=none
 bool:mg "bool"=none
 str:mg "str"=none
 tuple:mg "tuple"=none
 list:mg "list"=none
 len:mg "len"=none
 range:mg "range"=none
 enumerate:mg "enumerate"=none
 max:mg "max"=none
 min:mg "min"=none
 sorted:mg "sorted"=none
 sum:mg "sum"=none
 set:mg "set"=none
 all:mg "all"=none
 any:mg "any"=none
 zip:mg "zip"=none
 abs:mg "abs"=none
 dict:mg "dict"=none
 c_GREATEST_NUMBER:∃t,mg "GREATEST_NUMBER"=some (.int 1000000000000 t)
 c_GREATEST_DIVISOR:∃t,mg "GREATEST_DIVISOR"=some (.int 1000000000 t)
 c_GREATEST_BACK:∃t,mg "GREATEST_BACK"=some (.int 3 t)
 c_GREATEST_STEP:∃t,mg "GREATEST_STEP"=some (.int 9 t)
 c_MOST_STEPS_terms:∃t,mg "MOST_STEPS_terms"=some (.int 3 t)
 c_MOST_DEPTH:∃t,mg "MOST_DEPTH"=some (.int 12 t)
 c_MOST_PARTS:∃t,mg "MOST_PARTS"=some (.int 60 t)
 c_MOST_TAKES:∃t,mg "MOST_TAKES"=some (.int 6 t)
 c_GREATEST_MODULUS:∃t,mg "GREATEST_MODULUS"=some (.int 1000000000 t)
 c_MOST_ROUNDS:∃t,mg "MOST_ROUNDS"=some (.int 12 t)
 c_MOST_SPOTS:∃t,mg "MOST_SPOTS"=some (.int 120 t)
 c_GREATEST_FIXED:∃t,mg "GREATEST_FIXED"=some (.int 1000000000 t)
 c_MOST_LINES:∃t,mg "MOST_LINES"=some (.int 3 t)
 c_GREATEST_SIZE:∃t,mg "GREATEST_SIZE"=some (.int 9 t)
 c_MOST_PLACES:∃t,mg "MOST_PLACES"=some (.int 40 t)
 c_MOST_FIGURES:∃t,mg "MOST_FIGURES"=some (.int 13 t)
 c_MOST_STEPS_term_texts:∃t,mg "MOST_STEPS_term_texts"=some (.int 3 t)
 c_MOST_WITHIN:∃t,mg "MOST_WITHIN"=some (.int 12 t)
end Q
namespace Q
open PySem PyProof.Rows L2
section
variable {P:Program} {w:World} {K:PySem.W.Frag} {mg:Str->Option Value} {base:Heap} {f:Addr} {fd:FuncData}
abbrev Fv:=List U->(Sl->Prop)->Prop
def aTz:U->Bool
 | .v (.int _)=>true
 |_=>false
def aJ2:Fv:=fun us R=>∃u t,us=[u]/\tyU u=some t/\R (.sh (.b (aTz u)))
theorem aC5:aM ["thing"] ["thing"] (aC rQ):=⟨rfl,rfl,rfl,by decide+kernel,rfl,by decide+kernel,by decide+kernel⟩
theorem aKf (F:Fun K "is_whole" "is_whole" rQ f fd) (T:Txt mg):bB P w K mg base CX0 1 f fd ["thing"] (spV aJ2):=by
 refine vfn F aC5 (fun cdv A outer s H E hr=>(aK (aZ (aBz (nO .int nofun T.isinstance T.int boot_int (aB 0)) (aB2 (aRc (nO .bl nofun T.isinstance T.bool boot_bool (aB 0)))))))) ?_
 rintro _ R ⟨u,t,rfl,ht,q⟩
 unfold tyU at ht
 split at ht<;>cases ht<;>first|exact⟨rfl,_,rfl,fun _=>⟨_,rfl,q⟩,nofun⟩|exact⟨rfl,_,rfl,nofun,fun _=>q⟩
def isIn (u:U) (a b:Int):Bool:=match u with
 | .v (.int i)=>decide (a<=i) && decide (i<=b)
 |_=>false
def jA:Fv:=fun us R=>∃u t a b,us=[u,.n a,.n b]/\tyU u=some t/\R (.sh (.b (isIn u a b)))
theorem aB8:aM ["thing","least","most"] ["thing","least","most"] (aC pX):=⟨rfl,rfl,rfl,by decide+kernel,rfl,by decide+kernel,by decide+kernel⟩
theorem aI0 (F:Fun K "is_within" "is_within" pX f fd) (c_is_whole:Cal P w K mg base CX0 1 "is_whole" ["thing"] (spV aJ2)):bB P w K mg base CX0 2 f fd ["thing","least","most"] (spV jA):=by
 refine vfn F aB8 (fun cdv A outer s H E hr=>(aK (aZ (aBz (aO c_is_whole (hr.mono (by omega)) rfl (aA (aB 0) aG)) (aB2 (aI5 aAx aAx dO dO (aB 1) (aB 0) (aB 2))))))) ?_
 rintro _ R ⟨u,t,a,b,rfl,ht,q⟩
 refine⟨rfl,u,t,rfl,ht,?_⟩
 match u,q with
 | .v (.int i),q=>exact⟨fun _=>⟨fun h=>by simp only [isIn,h,Bool.true_and]at q;exact q,fun h=>by simp only [isIn,h,Bool.false_and]at q;exact q⟩,nofun⟩
 | .v .non,q=>exact⟨nofun,fun _=>q⟩
 | .v (.bl _),q=>exact⟨nofun,fun _=>q⟩
 | .v (.str _),q=>exact⟨nofun,fun _=>q⟩
 | .tp _,q=>exact⟨nofun,fun _=>q⟩
 | .ls _,q=>exact⟨nofun,fun _=>q⟩
 | .dk _ _,q=>exact⟨nofun,fun _=>q⟩
inductive Rim where
 |fixed (v:Int)
 |mirror
 |round
def Rim.u:Rim->U
 | .fixed v=> .tp [.s "fixed",.n v]
 | .mirror=> .tp [.s "mirror"]
 | .round=> .tp [.s "round"]
def Rim.ok:Rim->Prop
 | .fixed v=>0<=v/\v<=1000000000
 |_=>True
def aJ7:Fv:=fun us R=>∃r:Rim,us=[r.u]/\r.ok/\R (.sh (.b true))
abbrev PW3:List Str:=["thing","least","most"]
theorem aI3:aM ["thing"] ["thing"] (aC xG):=⟨rfl,rfl,rfl,by decide+kernel,rfl,by decide+kernel,by decide+kernel⟩
theorem aMc (F:Fun K "is_rim" "is_rim" xG f fd) (c_is_within:Cal P w K mg base CX0 2 "is_within" PW3 (spV jA)) (T:Txt mg):bB P w K mg base CX0 3 f fd ["thing"] (spV aJ7):=by
 obtain⟨_,g_GREATEST_FIXED⟩:=T.c_GREATEST_FIXED
 refine vfn F aI3 (fun cdv A outer s H E hr=>(aH (fO (sS (rJ (gO (fV (nO .tp nofun T.isinstance T.tuple boot_tuple (aB 0)))) (oG (dC (uZ (huD hr)) pH (bD aR cZ T.len boot_len (aN (aB 0) aV)) aF)))) (aK (aZ zJ)) cB) (aH (fO (gO (fV (nO .str nofun T.isinstance T.str boot_str (dG cC dH (aB 0) aF)))) (aK (aZ zJ)) cB) (aH (fO (dC (uZ (huD hr)) pH (dG cC dH (aB 0) aF) cF) (aK (aZ (aBz (aCc (uZ (huD hr)) pH (bD aR cZ T.len boot_len (aN (aB 0) aV)) aF) (aB2 (aO c_is_within (hr.mono (by omega)) rfl (aA (dG cC dH (aB 0) aF) (aA aF (aA (cY g_GREATEST_FIXED) aG)))))))) cB) (aK (aZ (aBz (aCc (uZ (huD hr)) pH (bD aR cZ T.len boot_len (aN (aB 0) aV)) aF) (aB2 (aCc (aPt (huD hr)) aOc (dG cC dH (aB 0) aF) (lE (aA cF (aA cF aG)))))))))))) ?_
 rintro _ R ⟨r,rfl,ok,q⟩
 match r,ok with
 | .fixed v,ok=>
  refine⟨rfl,_,rfl,nofun,fun _=>⟨trivial,trivial,nofun,fun _=>?_⟩⟩
  refine⟨_,rfl,_,rfl,nofun,fun _=>?_⟩
  refine⟨_,rfl,trivial,trivial,fun _=>?_,fun h=>absurd h (by decide+kernel)⟩
  refine⟨trivial,trivial,fun _=>⟨_,rfl,_,_,_,_,rfl,rfl,?_⟩,nofun⟩
  simp only [isIn,ok.1,ok.2,decide_true,Bool.true_and]
  exact q
 | .mirror,_=>
  refine⟨rfl,_,rfl,nofun,fun _=>⟨trivial,trivial,nofun,fun _=>?_⟩⟩
  refine⟨_,rfl,_,rfl,nofun,fun _=>?_⟩
  refine⟨_,rfl,trivial,trivial,fun h=>absurd h (by decide+kernel),fun _=>?_⟩
  refine⟨trivial,trivial,fun _=>⟨_,rfl,trivial,⟨trivial,trivial,trivial⟩,?_⟩,fun h=>absurd h (by decide+kernel)⟩
  exact Rbl q (by decide+kernel)
 | .round,_=>
  refine⟨rfl,_,rfl,nofun,fun _=>⟨trivial,trivial,nofun,fun _=>?_⟩⟩
  refine⟨_,rfl,_,rfl,nofun,fun _=>?_⟩
  refine⟨_,rfl,trivial,trivial,fun h=>absurd h (by decide+kernel),fun _=>?_⟩
  refine⟨trivial,trivial,fun _=>⟨_,rfl,trivial,⟨trivial,trivial,trivial⟩,?_⟩,fun h=>absurd h (by decide+kernel)⟩
  exact Rbl q (by decide+kernel)
def rM (ns:List Int):Int:=ns.foldl (fun a n=>a*n) 1
structure aEb (ns:List Int):Prop where
 ok:∀n∈ns,1<=n/\n<=9
 l1:1<=ns.length
 l3:ns.length<=3
 mn:rM ns<=40
def aL8:Fv:=fun us R=>∃ns:List Int,us=[.ls (ns.map U.n)]/\(∀n∈ns,1<=n/\n<=9)/\ns.length<=3/\R (.sh (.n (rM ns)))
theorem nP:aM ["sizes","many","size"] ["sizes"] (aC uU):=⟨rfl,rfl,rfl,by decide+kernel,rfl,by decide+kernel,by decide+kernel⟩
theorem aM5 (F:Fun K "product" "product" uU f fd):bB P w K mg base CX0 1 f fd ["sizes"] (spV aL8):=by
 refine vfn F nP (fun cdv A outer s H E hr=>(aH (cA (i:=1) nP.nd aF) (aH (nZ PassesOwn.never rfl (cU (aB 0)) (lN (i:=2) nP.nd) (aK (cA (i:=1) nP.nd (aY kZ jV (aB 1) (aB 2))))) (aK (wN 1))))) ?_
 rintro _ R ⟨ns,rfl,ok,_,q⟩
 refine⟨rfl,?_⟩
 refine gG (fun l ρ=>∃(ms:List Int) (a:Int) (x y:Sl),l=ms.map U.n/\ρ=[x,.sh (.n a),y]/\(∀n∈ms,1<=n/\n<=9)/\R (.sh (.n (ms.foldl (fun a n=>a*n) a)))) ?_ ?_ ⟨ns,1,_,_,rfl,rfl,ok,q⟩
 ·rintro ρ ⟨ms,a,x,y,e,rfl,_,q⟩
  obtain rfl:=List.map_eq_nil_iff.mp e.symm
  exact q
 ·rintro u r ρ ⟨ms,a,x,y,e,rfl,h,q⟩ ih
  obtain⟨n,ms,rfl,rfl,rfl⟩:=List.map_eq_cons_iff.mp e.symm
  have hn:=h n List.mem_cons_self
  exact⟨.inr ⟨by omega,by omega⟩,ih _ ⟨ms,_,_,_,rfl,rfl,fun m hm=>h m (List.mem_cons_of_mem _ hm),q⟩⟩
def grU (C:Addr) (ns:List Int) (rs:List Rim):U:= .ob C ["sizes","rims"] [.ls (ns.map U.n),.ls (rs.map Rim.u)]
def aLt:Fv:=fun us R=>∃(ns:List Int) (rs:List Rim),us=[.ls (ns.map U.n),.ls (rs.map Rim.u)]/\(∀n∈ns,1<=n/\n<=9)/\1<=ns.length/\ns.length<=3/\rs.length=ns.length/\(∀r∈rs,r.ok)/\R (.sh .no)
theorem kO:aM ["sizes","rims","line","rim"] ["sizes","rims"] (aC mF):=⟨rfl,rfl,rfl,by decide+kernel,rfl,by decide+kernel,by decide+kernel⟩
theorem aMd (F:Fun K "check_lines" "check_lines" mF f fd) (c_is_within:Cal P w K mg base CX0 2 "is_within" PW3 (spV jA)) (c_is_rim:Cal P w K mg base CX0 3 "is_rim" ["thing"] (spV aJ7)) (T:Txt mg):bB P w K mg base CX0 4 f fd ["sizes","rims"] (spV aLt):=by
 obtain⟨_,g_MOST_LINES⟩:=T.c_MOST_LINES
 obtain⟨_,g_GREATEST_SIZE⟩:=T.c_GREATEST_SIZE
 refine vfn F kO (fun cdv A outer s H E hr=>(aH (fO (sS (rJ (gO (aDb aAx aAx dO dO aF (bD aR cZ T.len boot_len (aN (aB 0) aV)) (cY g_MOST_LINES))) (oG (dC (zB (huD hr)) pH (bD aR cZ T.len boot_len (aN (aB 1) aV)) (bD aR cZ T.len boot_len (aN (aB 0) aV)))))) (aK lA) cB) (aK (nZ PassesOwn.never rfl (aNc T.enumerate (aA (aB 1) aG)) (aJi rfl (uG (i:=2) kO.nd (uG (i:=3) kO.nd aGf))) (aK (fO (sS (rJ (gO (fV (aO c_is_within (hr.mono (by omega)) rfl (aA (dG cC dH (aB 0) (aB 2)) (aA aF (aA (cY g_GREATEST_SIZE) aG)))))) (oG (gO (fV (aO c_is_rim (hr.mono (by omega)) rfl (aA (aB 3) aG))))))) (aK lA) cB)))))) ?_
 rintro _ R ⟨ns,rs,rfl,ok,l1,l3,el,rk,q⟩
 refine⟨rfl,?_⟩
 have e1:(ns.map U.n).length=ns.length:=List.length_map ..
 have e2:(rs.map Rim.u).length=ns.length:=by rw [List.length_map,el]
 refine⟨fun _=>⟨fun h=>?_,fun _=>⟨trivial,trivial,fun h=>?_,fun _=>?_⟩⟩,fun h=>?_⟩
 ·simp at h;omega
 ·simp only [U.eq,U.d,D.eq,eqV,Sl.rd]at h
  simp [el]at h
 ·refine gG (fun l ρ=>∃(k:Nat) (ss:List Rim) (x y:Sl),l=(ss.map Rim.u |>.zipIdx k).map (fun x=> .tp [.n (x.2:Nat),x.1])/\ρ=[.sh (.ls (ns.map U.n)),.sh (.ls (rs.map Rim.u)),x,y]/\k+ss.length=ns.length/\∀r∈ss,r.ok) ?_ ?_ ⟨0,rs,_,_,rfl,rfl,by omega,rk⟩
  ·rintro ρ ⟨k,ss,x,y,e,rfl,_⟩
   exact q
  ·rintro u r ρ ⟨k,ss,x,y,e,rfl,hk,ho⟩ ih
   match ss,e,hk,ho with
   |s::ss,e,hk,ho=>
    cases e
    have hl:k<ns.length:=by rw [List.length_cons]at hk;omega
    have hn:=ok _ (List.getElem_mem hl)
    refine⟨rfl,U.n ns[k],wB (by rw [List.getElem?_map,List.getElem?_eq_getElem hl];rfl),_,_,_,_,rfl,rfl,?_⟩
    refine⟨fun h=>?_,fun _=>⟨s,rfl,ho s List.mem_cons_self,nofun,fun _=>ih _ ⟨k+1,ss,_,_,rfl,rfl,by rw [List.length_cons]at hk;omega,fun r hr=>ho r (List.mem_cons_of_mem _ hr)⟩⟩⟩
    simp [isIn,hn.1,hn.2]at h
 ·simp at h;omega
def aEw (C:Addr):Fv:=fun us R=>∃ns rs,us=[grU C ns rs]/\R (.sh (.n ns.length))
theorem zP:aM ["self"] ["self"] (aC oF):=⟨rfl,rfl,rfl,by decide+kernel,rfl,by decide+kernel,by decide+kernel⟩
theorem aK8 {C:Addr} (F:Fun K "lines" "Grid.lines" oF f fd) (cG:Cfl K C ["sizes","rims"]) (T:Txt mg):bB P w K mg base CX0 1 f fd ["self"] (spV (aEw C)):=by
 refine vfn F zP (fun cdv A outer s H E hr=>(aK (aZ (bD aR cZ T.len boot_len (aN (eF cG (aB 0)) aV))))) ?_
 rintro _ R ⟨ns,rs,rfl,q⟩
 refine⟨rfl,rfl,.inl ⟨rfl,?_⟩⟩
 rw [<-List.length_map (f:=U.n)]at q
 exact q
def aOu (C:Addr):Fv:=fun us R=>∃ns rs,us=[grU C ns rs]/\aEb ns/\R (.sh (.n (rM ns)))
theorem qT:aM ["self"] ["self"] (aC gQ):=⟨rfl,rfl,rfl,by decide+kernel,rfl,by decide+kernel,by decide+kernel⟩
theorem aOb {C:Addr} (F:Fun K "places_many" "Grid.places_many" gQ f fd) (cG:Cfl K C ["sizes","rims"]) (c_product:Cal P w K mg base CX0 1 "product" ["sizes"] (spV aL8)):bB P w K mg base CX0 2 f fd ["self"] (spV (aOu C)):=by
 refine vfn F qT (fun cdv A outer s H E hr=>(aK (aZ (aO c_product (hr.mono (by omega)) rfl (aA (eF cG (aB 0)) aG))))) ?_
 rintro _ R ⟨ns,rs,rfl,g,q⟩
 exact⟨rfl,rfl,.inl ⟨rfl,ns,rfl,g.ok,g.l3,q⟩⟩
end
end Q
namespace KR
open PySem PyProof.Rows L2
def top (i:Nat):Stmt:=PySem.Challenge.pw_slanttiles_k33_how_far_takes_reach.main.body.getD i (.Pass ⟨0,0,0,0⟩)
abbrev aJh:Stmt:=top 63
abbrev xW:Stmt:=top 64
abbrev aFc:Stmt:=inClass (top 23) 0
abbrev aFf:Stmt:=inClass (top 24) 0
abbrev aE8:Stmt:=inClass (top 25) 0
abbrev aFs:Stmt:=inClass (top 31) 0
abbrev aEv:Stmt:=inClass (top 32) 0
abbrev aCs:Stmt:=inClass (top 62) 0
abbrev xJ:Stmt:=inClass (top 62) 1
abbrev aCo:Stmt:=inClass (top 62) 2
abbrev aE9:Stmt:=inClass (top 62) 3
abbrev aBk:Stmt:=inClass (top 62) 4
abbrev aFd:Stmt:=inClass (top 62) 5
abbrev aBr:Stmt:=inClass (top 62) 6
abbrev wV:Stmt:=inClass (top 62) 7
abbrev tE:Stmt:=inClass (top 62) 8
abbrev qJ:Stmt:=inClass (top 62) 9
abbrev wR:Stmt:=inClass (top 62) 10
abbrev zL (n:Nat):V:=V.int (n:Int)
def Kp (a:Addr) (H H':Hp):Prop:=∀b o,H b=some o->b≠a->H' b=some o
theorem Kp.trans {a:Addr} {H H1 H2:Hp} (x:Kp a H H1) (y:Kp a H1 H2):Kp a H H2:=fun b o h n=>y b o (x b o h n) n
theorem Kp.same {a:Addr} {H H1 H2:Hp} (x:Kp a H H1) (y:dW H1 H2):Kp a H H2:=fun b o h n=>y b o (x b o h n)
theorem Kp.of {a:Addr} {H H':Hp} (x:dW H H'):Kp a H H':=fun b o h _=>x b o h
theorem sameNew {H:Hp} {p:Addr} {o:HO} (h:H p=none):dW H (upd H p o):=fun b u e=>by
 rw [aQ (aU e h)]
 exact e
theorem jC {H H1:Hp} {p:Addr} {o:HO} (h:H p=none) (s:dW H H1):dW H (upd H1 p o):=fun b u e=>by
 rw [aQ (aU e h)]
 exact s b u e
theorem aO9 {H:Hp} {p:Addr} {o:HO}:Kp p H (upd H p o):=fun b u e n=>by
 rw [aQ n]
 exact e
theorem small {n:Nat} (h:n<=10000):n<sizeLine:=by
 have:(10000:Nat)<sizeLine:=by decide
 omega
theorem aRo {X:Cx} {x:Str} {n:String} {pos:Pos} (hg:Gl X x) (hm:X.mg x=none) (hv:bootBuiltins x=some (.type n)) (hn:x≠"__name__":=by decide) (hd:(x==("__debug__":Str))=false:=by decide):PE X (.Name x pos) (tC (.ty n)):=aGu (v:= .ty n) hg hm hv rfl hn hd
structure Txt (K:PySem.W.Frag) (mg:Str->Option Value):Prop where
 isinstance:mg "isinstance"=none
 int:mg "int"=none
 tuple:mg "tuple"=none
 len:mg "len"=none
 any:mg "any"=none
 str:mg "str"=none
 mfi:∃t,mg "MOST_FIGURES"=some (.int 13 t)
 mst2:∃t,mg "MOST_STEPS_term_texts"=some (.int 3 t)
 mwi:∃t,mg "MOST_WITHIN"=some (.int 12 t)
end KR
namespace KR
open PySem PyProof.Rows L2
inductive Tm where
 |num (n:Int)
 |take (b:Int) (ss:List Int)
 |rest (t:Tm) (y:Int)
 |cho (a b c:Tm)
 |bin (k:Fin 5) (a b:Tm)
abbrev Tk:Type:=Int×List Int
def opn (k:Fin 5):Str:=match k with|0=>"+"|1=>"-"|2=>"*"|3=>"min"|4=>"max"
structure Cn where
 num:Addr
 take:Addr
 rest:Addr
 cho:Addr
 bin:Fin 5->Addr
def cls (N:Cn):Tm->Addr
 | .num _=>N.num
 | .take _ _=>N.take
 | .rest _ _=>N.rest
 | .cho _ _ _=>N.cho
 | .bin k _ _=>N.bin k
def IsC (N:Cn) (C:Addr):Prop:=C=N.num∨C=N.take∨C=N.rest∨C=N.cho∨∃k,C=N.bin k
theorem isC (N:Cn):∀t:Tm,IsC N (cls N t)
 | .num _=> .inl rfl
 | .take _ _=> .inr (.inl rfl)
 | .rest _ _=> .inr (.inr (.inl rfl))
 | .cho _ _ _=> .inr (.inr (.inr (.inl rfl)))
 | .bin k _ _=> .inr (.inr (.inr (.inr ⟨k,rfl⟩)))
def jE (N:Cn) (H:Hp) (fs:List (Str×V)):Tm->Prop
 | .num n=>fs=[(("value":Str),V.int n)]
 | .take b ss=>∃q,fs=[(("back":Str),V.int b),(("steps":Str),V.ref q)]/\H q=some (.tup (ss.map V.int))
 | .rest t y=>∃p dx gs,fs=[(("one":Str),V.ref p),(("by":Str),V.int y)]/\H p=some (.ins (cls N t) dx gs)/\jE N H gs t
 | .cho a b c=>∃p dp ps q dq qs r dr rs,fs=[(("test":Str),V.ref p),(("one":Str),V.ref q),(("other":Str),V.ref r)]/\(H p=some (.ins (cls N a) dp ps)/\jE N H ps a)/\(H q=some (.ins (cls N b) dq qs)/\jE N H qs b)/\H r=some (.ins (cls N c) dr rs)/\jE N H rs c
 | .bin _ a b=>∃p dp ps q dq qs,fs=[(("one":Str),V.ref p),(("other":Str),V.ref q)]/\(H p=some (.ins (cls N a) dp ps)/\jE N H ps a)/\H q=some (.ins (cls N b) dq qs)/\jE N H qs b
def KpN (H H':Hp):Prop:=∀c o,H c=some o->(∀xs,o≠ .lst xs)->H' c=some o
theorem KpN.of {H H':Hp} (s:dW H H'):KpN H H':=fun c o e _=>s c o e
theorem jE.keep {N:Cn} {H H':Hp} (s:KpN H H'):∀{t:Tm} {fs:List (Str×V)},jE N H fs t->jE N H' fs t
 | .num _,_,h=>h
 | .take _ _,_,⟨q,e,h⟩=>⟨q,e,s _ _ h (by intro _ z;cases z)⟩
 | .rest _ _,_,⟨p,dx,gs,e,h,h2⟩=>⟨p,dx,gs,e,s _ _ h (by intro _ z;cases z),h2.keep s⟩
 | .cho _ _ _,_,⟨p,dp,ps,q,dq,qs,r,dr,rs,e,⟨h1,g1⟩,⟨h2,g2⟩,h3,g3⟩=>⟨p,dp,ps,q,dq,qs,r,dr,rs,e,⟨s _ _ h1 (by intro _ z;cases z),g1.keep s⟩,⟨s _ _ h2 (by intro _ z;cases z),g2.keep s⟩,s _ _ h3 (by intro _ z;cases z),g3.keep s⟩
 | .bin _ _ _,_,⟨p,dp,ps,q,dq,qs,e,⟨h1,g1⟩,h2,g2⟩=>⟨p,dp,ps,q,dq,qs,e,⟨s _ _ h1 (by intro _ z;cases z),g1.keep s⟩,s _ _ h2 (by intro _ z;cases z),g2.keep s⟩
theorem jE.same {N:Cn} {H H':Hp} (s:dW H H') {t:Tm} {fs:List (Str×V)} (h:jE N H fs t):jE N H' fs t:=h.keep (KpN.of s)
def jQ (N:Cn) (H:Hp) (t:Tm) (v:V):Prop:=∃p dx fs,v= .ref p/\H p=some (.ins (cls N t) dx fs)/\jE N H fs t
def kids:Tm->List Tm
 | .num _=>[]
 | .take _ _=>[]
 | .rest t _=>[t]
 | .cho a b c=>[a,b,c]
 | .bin _ a b=>[a,b]
def ht:Tm->Nat
 | .num _=>1
 | .take _ _=>1
 | .rest t _=>ht t+1
 | .cho a b c=>max (ht a) (max (ht b) (ht c))+1
 | .bin _ a b=>max (ht a) (ht b)+1
def cV:Tm->Nat
 | .num _=>1
 | .take _ _=>1
 | .rest t _=>1+cV t
 | .cho a b c=>1+(cV a+(cV b+cV c))
 | .bin _ a b=>1+(cV a+cV b)
def raw:Tm->List Tk
 | .num _=>[]
 | .take b ss=>[(b,ss)]
 | .rest t _=>raw t
 | .cho a b c=>raw a++(raw b++raw c)
 | .bin _ a b=>raw a++raw b
theorem nU:∀t,0<ht t
 | .num _=>Nat.one_pos
 | .take _ _=>Nat.one_pos
 | .rest _ _=>Nat.succ_pos _
 | .cho _ _ _=>Nat.succ_pos _
 | .bin _ _ _=>Nat.succ_pos _
theorem yO:∀{t k:Tm},k∈kids t->ht k<ht t
 | .rest t _,k,h=>by rw [List.mem_singleton.mp h,ht];omega
 | .cho a b c,k,h=>by
  simp only [kids,List.mem_cons,List.not_mem_nil,or_false]at h
  rw [ht]
  rcases h with rfl|rfl|rfl<;>omega
 | .bin _ a b,k,h=>by
  simp only [kids,List.mem_cons,List.not_mem_nil,or_false]at h
  rw [ht]
  rcases h with rfl|rfl<;>omega
theorem wW (t:Tm):(kids t).length<=3:=by cases t<;>simp [kids]
theorem aGz:∀{t k:Tm},k∈kids t->∀x∈raw k,x∈raw t
 | .rest t _,k,h,x,hx=>by rw [List.mem_singleton.mp h]at hx;exact hx
 | .cho a b c,k,h,x,hx=>by
  simp only [kids,List.mem_cons,List.not_mem_nil,or_false]at h
  simp only [raw,List.mem_append]
  rcases h with rfl|rfl|rfl
  ·exact .inl hx
  ·exact .inr (.inl hx)
  ·exact .inr (.inr hx)
 | .bin _ a b,k,h,x,hx=>by
  simp only [kids,List.mem_cons,List.not_mem_nil,or_false]at h
  simp only [raw,List.mem_append]
  rcases h with rfl|rfl
  ·exact .inl hx
  ·exact .inr hx
def oY (t:Tm) (l:List Tk):Prop:=l.Pairwise (fun x y=>nG x y=true)/\∀x,x∈l↔x∈raw t
theorem aAg {x y:Tk} (h:nG x y=true):nG y x=false:=by
 unfold nG at h⊢
 by_cases e:x.1=y.1
 ·rw [if_pos e]at h
  rw [if_pos e.symm]
  exact aA1 _ _ h
 ·rw [if_neg e,decide_eq_true_iff]at h
  rw [if_neg (Ne.symm e),decide_eq_false_iff_not]
  omega
theorem aDp:∀{l m:List Tk},l.Pairwise (fun x y=>nG x y=true)->m.Pairwise (fun x y=>nG x y=true)->(∀x,x∈l↔x∈m)->l=m
 | [],[],_,_,_=>rfl
 | [],b::m,_,_,h=>absurd ((h b).mpr List.mem_cons_self) (by simp)
 |a::l,[],_,_,h=>absurd ((h a).mp List.mem_cons_self) (by simp)
 |a::l,b::m,h1,h2,h=>by
  have ha:=List.pairwise_cons.mp h1
  have hb:=List.pairwise_cons.mp h2
  have O:∀x y:Tk,nG x y=true->nG y x=false:=fun x y=>aAg
  have irr:∀x:Tk,nG x x=true->False:=fun x hx=>by have:=O x x hx;rw [hx]at this;cases this
  have e:a=b:=by
   rcases List.mem_cons.mp ((h a).mp List.mem_cons_self)with z|z
   ·exact z
   ·rcases List.mem_cons.mp ((h b).mpr List.mem_cons_self)with y|y
    ·exact y.symm
    ·have:=O _ _ (ha.1 b y)
     rw [hb.1 a z]at this
     cases this
  subst e
  rw [aDp ha.2 hb.2 fun x=>⟨fun hx=>?_,fun hx=>?_⟩]
  ·rcases List.mem_cons.mp ((h x).mp (List.mem_cons_of_mem _ hx))with z|z
   ·exact(irr a (by have:=ha.1 x hx;rw [z]at this;exact this)).elim
   ·exact z
  ·rcases List.mem_cons.mp ((h x).mpr (List.mem_cons_of_mem _ hx))with z|z
   ·exact(irr a (by have:=hb.1 x hx;rw [z]at this;exact this)).elim
   ·exact z
theorem oY.uniq {t:Tm} {l m:List Tk} (h1:oY t l) (h2:oY t m):l=m:=aDp h1.1 h2.1 fun x=>(h1.2 x).trans (h2.2 x).symm
def vP (x:Tk):Prop:=1<=x.1/\x.1<=3/\∀s∈x.2, -9<=s/\s<=9
def Wf:Tm->Prop
 | .num n=> -1000000000000<=n/\n<=1000000000000
 | .take _ _=>True
 | .rest t y=>1<=y/\y<=1000000000/\Wf t
 | .cho a b c=>Wf a/\Wf b/\Wf c
 | .bin _ a b=>Wf a/\Wf b
end KR
namespace KR
open PySem PyProof.Rows L2
structure Cf (K:PySem.W.Frag) (C:Addr) (fs:List Str):Prop where
 cl:Cls K C
 na:∀f∈fs,iU K C f
def aSq (K:PySem.W.Frag) (a:Str):Sp:=fun vs H Q _=>∃(p C dx:Addr) (x:V),vs=[.ref p,x]/\H p=some (.ins C dx [])/\Cf K C [a]/\Q .non (upd H p (.ins C dx [(a,x)]))
def aB7 (K:PySem.W.Frag) (a b:Str):Sp:=fun vs H Q _=>∃(p C dx:Addr) (x y:V),vs=[.ref p,x,y]/\H p=some (.ins C dx [])/\Cf K C [a,b]/\Q .non (upd (upd H p (.ins C dx [(a,x)])) p (.ins C dx [(a,x),(b,y)]))
def aSc (K:PySem.W.Frag) (a b c:Str):Sp:=fun vs H Q _=>∃(p C dx:Addr) (x y z:V),vs=[.ref p,x,y,z]/\H p=some (.ins C dx [])/\Cf K C [a,b,c]/\Q .non (upd (upd (upd H p (.ins C dx [(a,x)])) p (.ins C dx [(a,x),(b,y)])) p (.ins C dx [(a,x),(b,y),(c,z)]))
section
variable {P:Program} {w:World} {K:PySem.W.Frag} {mg:Str->Option Value} {base:Heap}
theorem aNz:aM ["self","value"] ["self","value"] (aC aFc):=⟨rfl,rfl,rfl,by decide+kernel,rfl,by decide+kernel,by decide+kernel⟩
theorem aLa {f:Addr} {fd:FuncData} (F:Fun K "__init__" "Number.__init__" aFc f fd):bB P w K mg base CX0 1 f fd ["self","value"] (aSq K "value"):=by
 refine F.ok aNz (fun vs H Q E h=>?_) (fun cdv A outer s H vs Q E hr h=>?_)
 ·obtain⟨p,C,dx,x,rfl,_⟩:=h
  rfl
 ·obtain⟨p,C,dx,x,rfl,hp,c,q⟩:=h
  refine⟨_,(aP (cW (pv 0) (pv 1) rfl)),?_⟩
  exact⟨_,rfl,_,rfl,p,C,dx,_,rfl,hp,c.cl,c.na _ (by simp),by decide,q⟩
theorem aM0:aM ["self","back","steps"] ["self","back","steps"] (aC aFf):=⟨rfl,rfl,rfl,by decide+kernel,rfl,by decide+kernel,by decide+kernel⟩
theorem aJv {f:Addr} {fd:FuncData} (F:Fun K "__init__" "Take.__init__" aFf f fd):bB P w K mg base CX0 1 f fd ["self","back","steps"] (aB7 K "back" "steps"):=by
 refine F.ok aM0 (fun vs H Q E h=>?_) (fun cdv A outer s H vs Q E hr h=>?_)
 ·obtain⟨p,C,dx,x,y,rfl,_⟩:=h
  rfl
 ·obtain⟨p,C,dx,x,y,rfl,hp,c,q⟩:=h
  refine⟨_,(aD (cW (pv 0) (pv 1) rfl) (aP (cW (pv 0) (pv 2) rfl))),?_⟩
  refine⟨_,rfl,_,rfl,p,C,dx,_,rfl,hp,c.cl,c.na _ (by simp),by decide,?_⟩
  exact⟨_,rfl,_,rfl,p,C,dx,_,rfl,aJ,c.cl,c.na _ (by simp),by show(1:Nat)<1000;decide,q⟩
theorem aNf:aM ["self","one","other"] ["self","one","other"] (aC aE8):=⟨rfl,rfl,rfl,by decide+kernel,rfl,by decide+kernel,by decide+kernel⟩
theorem pK {f:Addr} {fd:FuncData} (F:Fun K "__init__" "Paired.__init__" aE8 f fd):bB P w K mg base CX0 1 f fd ["self","one","other"] (aB7 K "one" "other"):=by
 refine F.ok aNf (fun vs H Q E h=>?_) (fun cdv A outer s H vs Q E hr h=>?_)
 ·obtain⟨p,C,dx,x,y,rfl,_⟩:=h
  rfl
 ·obtain⟨p,C,dx,x,y,rfl,hp,c,q⟩:=h
  refine⟨_,(aD (cW (pv 0) (pv 1) rfl) (aP (cW (pv 0) (pv 2) rfl))),?_⟩
  refine⟨_,rfl,_,rfl,p,C,dx,_,rfl,hp,c.cl,c.na _ (by simp),by decide,?_⟩
  exact⟨_,rfl,_,rfl,p,C,dx,_,rfl,aJ,c.cl,c.na _ (by simp),by show(1:Nat)<1000;decide,q⟩
theorem aNu:aM ["self","one","by"] ["self","one","by"] (aC aFs):=⟨rfl,rfl,rfl,by decide+kernel,rfl,by decide+kernel,by decide+kernel⟩
theorem aKr {f:Addr} {fd:FuncData} (F:Fun K "__init__" "Rest.__init__" aFs f fd):bB P w K mg base CX0 1 f fd ["self","one","by"] (aB7 K "one" "by"):=by
 refine F.ok aNu (fun vs H Q E h=>?_) (fun cdv A outer s H vs Q E hr h=>?_)
 ·obtain⟨p,C,dx,x,y,rfl,_⟩:=h
  rfl
 ·obtain⟨p,C,dx,x,y,rfl,hp,c,q⟩:=h
  refine⟨_,(aD (cW (pv 0) (pv 1) rfl) (aP (cW (pv 0) (pv 2) rfl))),?_⟩
  refine⟨_,rfl,_,rfl,p,C,dx,_,rfl,hp,c.cl,c.na _ (by simp),by decide,?_⟩
  exact⟨_,rfl,_,rfl,p,C,dx,_,rfl,aJ,c.cl,c.na _ (by simp),by show(1:Nat)<1000;decide,q⟩
theorem aM9:aM ["self","test","one","other"] ["self","test","one","other"] (aC aEv):=⟨rfl,rfl,rfl,by decide+kernel,rfl,by decide+kernel,by decide+kernel⟩
theorem aL2 {f:Addr} {fd:FuncData} (F:Fun K "__init__" "Chosen.__init__" aEv f fd):bB P w K mg base CX0 1 f fd ["self","test","one","other"] (aSc K "test" "one" "other"):=by
 refine F.ok aM9 (fun vs H Q E h=>?_) (fun cdv A outer s H vs Q E hr h=>?_)
 ·obtain⟨p,C,dx,x,y,z,rfl,_⟩:=h
  rfl
 ·obtain⟨p,C,dx,x,y,z,rfl,hp,c,q⟩:=h
  refine⟨_,(aD (cW (pv 0) (pv 1) rfl) (aD (cW (pv 0) (pv 2) rfl) (aP (cW (pv 0) (pv 3) rfl)))),?_⟩
  refine⟨_,rfl,_,rfl,p,C,dx,_,rfl,hp,c.cl,c.na _ (by simp),by decide,?_⟩
  refine⟨_,rfl,_,rfl,p,C,dx,_,rfl,aJ,c.cl,c.na _ (by simp),by show(1:Nat)<1000;decide,?_⟩
  exact⟨_,rfl,_,rfl,p,C,dx,_,rfl,aJ,c.cl,c.na _ (by simp),by show(2:Nat)<1000;decide,q⟩
end
end KR
namespace KR
open PySem PyProof.Rows L2
structure Mkr (P:Program) (w:World) (K:PySem.W.Frag) (mg:Str->Option Value) (base:Heap) (C:Addr) (x:Str) (ps:List Str) (sp:Sp):Prop where
 ex:∃f fd,bB P w K mg base CX0 1 f fd ps sp/\Mk K C f/\mg x=some (.ref C)/\Binds K fd ps []
theorem rD {X:Cx} {C:Addr} {x:Str} {ps:List Str} {sp:Sp} {E:XK} {e:Expr} {es:List Expr} {t:TA} {p pos:Pos} (R:Mkr X.prog X.w X.K X.mg X.base C x ps sp) (hr:eY 2 X.A) (hg:Gl X x) (hx:oE CX0 X E) (ha:PA X (e::es) t)
  (hdb:(x==("__debug__":Str))=false:=by decide) (he:starEach (e::es) X.env=(false,eval e X.env)::starEach es X.env:=by rfl) (hpl:(backTo pos (starEach es X.env)).any (·.1)=false:=by rfl):PE X (.Call (.Name x p) (e::es) [] pos) (aOe C sp [] E t):=by
 obtain⟨f,fd,F,M,hm,hb⟩:=R.ex
 exact aGv M F hr hg hm hb .nil hx ha hdb he hpl
theorem sF {a b:Str} (h:a≠b:=by decide+kernel):decide (V.str a=V.str b)=false:=decide_eq_false fun z=>h (V.str.inj z)
def bnm (k:Fin 5):Str:=match k with|0=>"Added"|1=>"Lessened"|2=>"Multiplied"|3=>"Least"|4=>"Most"
theorem aFw {H:Hp} {x dx C:Addr} {fs:List (Str×V)} (nx:H x=none) (nd:H dx=none):dW H (upd (upd (upd H dx (.own x)) x (.ins C dx [])) x (.ins C dx fs)):=jC nx (jC nx (jC nd (dW.refl H)))
theorem pJ {N:Cn} {K:PySem.W.Frag} {H H1:Hp} {k:Fin 5} {t1 t2:Tm} {v1 v2:V} {Q:VK} {E:XK} (c:Cf K (N.bin k) ["one","other"]) (u1:jQ N H1 t1 v1) (u2:jQ N H1 t2 v2) (s:dW H H1) (q:∀(v':V) (H':Hp),dW H H'->jQ N H' (.bin k t1 t2) v'->Q v' H'):
  ∀x dx,H1 x=none->H1 dx=none->dx≠x->aB7 K "one" "other" (.ref x::([v1,v2]++[])) (upd (upd H1 dx (.own x)) x (.ins (N.bin k) dx [])) (fun v H2=>v= .non/\Q (.ref x) H2) E:=by
 intro x dx nx nd ne
 obtain⟨p1,d1,f1,rfl,h1,g1⟩:=u1
 obtain⟨p2,d2,f2,rfl,h2,g2⟩:=u2
 refine⟨x,N.bin k,dx,.ref p1,.ref p2,rfl,aJ,c,rfl,?_⟩
 have sN:dW H1 (upd (upd (upd (upd H1 dx (.own x)) x (.ins (N.bin k) dx [])) x (.ins (N.bin k) dx [("one",.ref p1)])) x (.ins (N.bin k) dx [("one",.ref p1),("other",.ref p2)])):=jC nx (aFw nx nd)
 exact q _ _ (s.trans sN) ⟨x,dx,_,rfl,aJ,p1,d1,f1,p2,d2,f2,rfl,⟨sN _ _ h1,g1.same sN⟩,sN _ _ h2,g2.same sN⟩
theorem aP8:∀{t k:Tm},k∈kids t->Wf t->Wf k
 | .rest t _,k,h,w=>by rw [List.mem_singleton.mp h];exact w.2.2
 | .cho a b c,k,h,w=>by
  simp only [kids,List.mem_cons,List.not_mem_nil,or_false]at h
  rcases h with rfl|rfl|rfl
  ·exact w.1
  ·exact w.2.1
  ·exact w.2.2
 | .bin _ a b,k,h,w=>by
  simp only [kids,List.mem_cons,List.not_mem_nil,or_false]at h
  rcases h with rfl|rfl
  ·exact w.1
  ·exact w.2
theorem aG5 {n:Nat} (h:n<=9000):n<=sizeLine:=by rw [sizeLine_eq];omega
theorem Kp.upd {a q:Addr} {H H':Hp} {o:HO} (k:Kp a H H') (hq:H q=none):Kp a H (upd H' q o):=fun b u e n=>by
 rw [aQ (aU e hq)];exact k b u e n
theorem aQn {i j:Str} {l m:List Nat} {H:Hp} {Q:VK} (h1:i=tx l) (h2:j=tx m) (hz:l.length+m.length<=9000) (q:Q (.str (tx (l++m))) H):aOg (.str i) (.str j) H Q:=by
 subst h1 h2
 exact⟨_,_,rfl,rfl,by rw [fQ,fQ];exact aG5 hz,by rw [fU];exact q⟩
theorem aBp {α:Type} {f:α->V} {l:List α} {i:Nat} {x:V} (h:(l.map f)[i]? =some x):∃n,x=f n/\l[i]? =some n:=by
 rw [List.getElem?_map]at h
 cases g:l[i]? with
 |none=>rw [g]at h;cases h
 |some b=>rw [g]at h;cases h;exact⟨b,rfl,rfl⟩
theorem jN {c:Bool} {a b:Prop} (h:c=true) (x:a):if c=true then a else b:=by rw [if_pos h];exact x
theorem eQ {c:Bool} {a b:Prop} (h:c=false) (x:b):if c=true then a else b:=by rw [if_neg (by rw [h];exact Bool.false_ne_true)];exact x
theorem aCi {X:Cx} {x:Str} {i:Int} {t:Tok} {pos:Pos} (hg:Gl X x) (hm:X.mg x=some (.int i t)) (hd:(x==("__debug__":Str))=false:=by decide):PE X (.Name x pos) (tC (.int i)):=wC (v:= .int i) hg hm ⟨_,rfl⟩ hd
end KR
namespace KR
open PySem PyProof.Rows L2
def dg (m:Nat):List Nat:=(Nat.toDigits 10 m).map Char.toNat
theorem aJm:∀d:Nat,d<10->(Nat.digitChar d).toNat=48+d:=by decide
theorem aCv {m:Nat} (h:m<10):dg m=[48+m]:=by
 unfold dg
 rw [Nat.toDigits_of_lt_base h]
 show [(Nat.digitChar m).toNat]=_
 rw [aJm m h]
theorem aJx {m:Nat} (h:10<=m):dg m=dg (m / 10)++[48+m % 10]:=by
 have hm:m % 10<10:=Nat.mod_lt m (by decide)
 have t:Nat.toDigits 10 (m / 10)++Nat.toDigits 10 (m % 10)=Nat.toDigits 10 (10*(m / 10)+m % 10):=Nat.toDigits_append_toDigits (by decide) (by omega) hm
 rw [Nat.div_add_mod]at t
 unfold dg
 rw [<-t,List.map_append,Nat.toDigits_of_lt_base hm]
 show _++[(Nat.digitChar (m % 10)).toNat]=_
 rw [aJm _ hm]
theorem aPo (m:Nat):NumText.AllDigits (dg m):=by
 induction m using Nat.strongRecOn with
 |_ m ih=>
  by_cases h:m<10
  ·rw [aCv h]
   intro c hc
   rw [List.mem_singleton.mp hc]
   omega
  ·rw [aJx (by omega)]
   intro c hc
   rcases List.mem_append.mp hc with z|z
   ·exact ih (m / 10) (by omega) c z
   ·rw [List.mem_singleton.mp z];omega
theorem aPa (m:Nat):NumText.digitsVal (dg m)=m:=W.KIN.val_back m
theorem tD (m:Nat) (h:0<m):∃c r,dg m=c::r/\49<=c/\c<=57:=by
 induction m using Nat.strongRecOn with
 |_ m ih=>
  by_cases h10:m<10
  ·exact⟨_,_,aCv h10,by omega,by omega⟩
  ·obtain⟨c,r,e,h1,h2⟩:=ih (m / 10) (by omega) (by omega)
   exact⟨c,r++[48+m % 10],by rw [aJx (by omega),e];rfl,h1,h2⟩
theorem aBg:∀(k m:Nat),m<10 ^ (k+1)->(dg m).length<=k+1
 |0,m,h=>by rw [aCv (by simpa using h)];exact Nat.le_refl _
 |k+1,m,h=>by
  by_cases h10:m<10
  ·rw [aCv h10];show 1<=_;omega
  ·rw [aJx (by omega),List.length_append]
   have:=aBg k (m / 10) (by rw [Nat.pow_succ]at h;omega)
   show _+1<=_
   omega
theorem wI:dg 0=[48]:=aCv (by decide)
theorem wA (m:Nat):itx (m:Int)=dg m:=W.KIN.signs_num m
theorem aCk (m:Nat):itx (Int.negSucc m)=45::dg (m+1):=by
 have e:=W.KIN.signs_num (m+1)
 have h:toString (Int.negSucc m)="-"++toString (((m+1:Nat):Int)):=rfl
 unfold itx
 rw [h]
 have:∀a b:String,(Str.ofString (a++b)).cps.toList=(Str.ofString a).cps.toList++(Str.ofString b).cps.toList:=fun a b=>by
  rw [signs_ofString,signs_ofString,signs_ofString,String.toList_append,List.map_append]
 rw [this,e]
 rfl
theorem qN {n:Int} (h:n.natAbs<10 ^ 13):(itx n).length<=14:=by
 cases n with
 |ofNat m=>rw [show Int.ofNat m=(m:Int)from rfl,wA];have:=aBg 12 m h;omega
 |negSucc m=>rw [aCk,List.length_cons];have:=aBg 12 (m+1) (by simpa using h);omega
theorem uI {n:Int} (h:n.natAbs<10 ^ 13):n.natAbs.log2<1920:=by
 by_cases z:n.natAbs=0
 ·rw [z];decide
 ·exact(Nat.log2_lt z).mpr (Nat.lt_trans h (by
   have:(10:Nat) ^ 13<2 ^ 50:=by decide
   exact Nat.lt_of_lt_of_le this (Nat.pow_le_pow_right (by decide) (by decide))))
def sgn (x:Str):List Nat:=x.cps.toList
def txt:Tm->List Nat
 | .num n=>itx n
 | .take b ss=>91::(glu [32] (itx b::ss.map itx)++[93])
 | .rest t y=>40::(txt t++([32,114,101,115,116,32]++(itx y++[41])))
 | .cho a b c=>40::(txt a++([32,63,32]++(txt b++([32,58,32]++(txt c++[41])))))
 | .bin k a b=>40::(txt a++(32::(sgn (opn k)++(32::(txt b++[41])))))
def jL (t:Tm):Prop:=Wf t/\∀x∈raw t,vP x/\1<=x.2.length/\x.2.length<=3
theorem bL {x:String} (l:List Nat) (h:(Str.ofString x).cps.toList=l):Str.ofString x=tx l:=by rw [aEg (Str.ofString x),h]
theorem aGw (k:Fin 5):(sgn (opn k)).length<=3:=by
 match k with
 |0=>decide
 |1=>decide
 |2=>decide
 |3=>decide
 |4=>decide
theorem aCb (sep:List Nat):∀(ls:List (List Nat)) (m:Nat),(∀l∈ls,l.length<=m)->(glu sep ls).length<=ls.length*(m+sep.length)
 | [],_,_=>Nat.zero_le _
 | [x],m,h=>by
  have:=h x List.mem_cons_self
  show x.length<=1*(m+sep.length)
  omega
 |x::y::r,m,h=>by
  have h1:=h x List.mem_cons_self
  have h2:=aCb sep (y::r) m fun l hl=>h l (List.mem_cons_of_mem _ hl)
  rw [glu,List.length_append,List.length_append,List.length_cons,Nat.succ_mul]
  omega
theorem rW {s:Int} (h: -9<=s/\s<=9):s.natAbs<10 ^ 13:=by omega
theorem lU:∀{t:Tm},jL t->(txt t).length<=70*cV t
 | .num n,h=>by
  have h1:=h.1
  have:=qN (n:=n) (by simp only [Wf]at h1;omega)
  show(itx n).length<=70*1
  omega
 | .take b ss,h=>by
  obtain⟨⟨h1,h2,h3⟩,h4,h5⟩:=h.2 (b,ss) List.mem_cons_self
  have:(glu [32] (itx b::ss.map itx)).length<=(itx b::ss.map itx).length*(14+1):=aCb [32] _ 14 fun l hl=>by
   rcases List.mem_cons.mp hl with rfl|hl
   ·exact qN (by simp only at h1 h2;omega)
   ·obtain⟨s,hs,rfl⟩:=List.mem_map.mp hl
    exact qN (rW (h3 s hs))
  rw [List.length_cons,List.length_map]at this
  show(glu [32] (itx b::ss.map itx)++[93]).length+1<=70*1
  rw [List.length_append]
  simp only at h4 h5
  show _+1+1<=_
  omega
 | .rest t y,h=>by
  have h1:=h.1
  have i1:=lU (t:=t) ⟨h1.2.2,h.2⟩
  have:=qN (n:=y) (by have:=h1.1;have:=h1.2.1;omega)
  simp only [txt,cV,List.length_cons,List.length_append,List.length_nil]
  omega
 | .cho a b c,h=>by
  have h1:=h.1
  have i1:=lU (t:=a) ⟨h1.1,fun x hx=>h.2 x (by simp [raw,hx])⟩
  have i2:=lU (t:=b) ⟨h1.2.1,fun x hx=>h.2 x (by simp [raw,hx])⟩
  have i3:=lU (t:=c) ⟨h1.2.2,fun x hx=>h.2 x (by simp [raw,hx])⟩
  simp only [txt,cV,List.length_cons,List.length_append,List.length_nil]
  omega
 | .bin k a b,h=>by
  have h1:=h.1
  have i1:=lU (t:=a) ⟨h1.1,fun x hx=>h.2 x (by simp [raw,hx])⟩
  have i2:=lU (t:=b) ⟨h1.2,fun x hx=>h.2 x (by simp [raw,hx])⟩
  have:=aGw k
  simp only [txt,cV,List.length_cons,List.length_append,List.length_nil]
  omega
theorem jL.kid {t k:Tm} (h:k∈kids t) (a:jL t):jL k:=⟨aP8 h a.1,fun x hx=>a.2 x (aGz h x hx)⟩
end KR
namespace KR
open PySem PyProof.Rows L2
theorem aM1 {X:Cx} {x z:Str} {t:Tok} {pos:Pos} (hg:Gl X x) (hm:X.mg x=some (.str z t)) (hd:(x==("__debug__":Str))=false:=by decide):PE X (.Name x pos) (tC (.str z)):=wC (v:= .str z) hg hm ⟨_,rfl⟩ hd
theorem aGt {X:Cx} {x:Str} {a:Addr} {pos:Pos} (hg:Gl X x) (hm:X.mg x=some (.ref a)) (hd:(x==("__debug__":Str))=false:=by decide):PE X (.Name x pos) (tC (.ref a)):=wC (v:= .ref a) hg hm rfl hd
def gA (CR:Addr) (H:Hp) (rd:Addr) (z:List Nat) (g:Nat):Prop:=∃dx,H rd=some (.ins CR dx [(("text":Str),V.str (tx z)),(("gone":Str),zL g)])
theorem gA.same {CR:Addr} {H H':Hp} {rd:Addr} {z:List Nat} {g:Nat} (s:dW H H') (h:gA CR H rd z g):gA CR H' rd z g:=let⟨dx,e⟩:=h;⟨dx,s _ _ e⟩
def dig (c:Nat):Bool:=decide (48<=c/\c<=57)
def pZ (z:List Nat) (g:Nat):Bool:=match z[g]? with|some c=>dig c|none=>false
def jW (CR:Addr):Sp:=fun vs H Q _=>∃(rd:Addr) (z:List Nat) (g:Nat),vs=[.ref rd]/\gA CR H rd z g/\z.length<=9000/\Q (.str (tx ((z.drop g).take 1))) H
def pR (CR:Addr):Sp:=fun vs H Q _=>∃(rd:Addr) (z w:List Nat) (g:Nat) (r:List Nat),vs=[.ref rd,.str (tx w)]/\gA CR H rd z g/\z.length<=9000/\(∀c∈w,c<128)/\z.drop g=w++r/\∀H',Kp rd H H'->gA CR H' rd z (g+w.length)->Q .non H'
def aOf (CR:Addr):Sp:=fun vs H Q _=>∃(rd:Addr) (z:List Nat) (g:Nat),vs=[.ref rd]/\gA CR H rd z g/\z.length<=9000/\Q (.bl (pZ z g)) H
def NoD (r:List Nat):Prop:=∀c s,r=c::s->dig c=false
def aCd (CR:Addr):Sp:=fun vs H Q _=>∃(rd:Addr) (z:List Nat) (g m:Nat) (r:List Nat),vs=[.ref rd]/\gA CR H rd z g/\z.length<=9000/\z.drop g=dg m++r/\NoD r/\m<10 ^ 13/\∀H',Kp rd H H'->gA CR H' rd z (g+(dg m).length)->Q (zL m) H'
def aCf (CR:Addr):Sp:=fun vs H Q _=>∃(rd:Addr) (z:List Nat) (g:Nat) (n:Int) (r:List Nat),vs=[.ref rd]/\gA CR H rd z g/\z.length<=9000/\z.drop g=itx n++r/\NoD r/\n.natAbs<10 ^ 13/\∀H',Kp rd H H'->gA CR H' rd z (g+(itx n).length)->Q (.int n) H'
theorem take1 {z:List Nat} {g c:Nat} {r:List Nat} (h:z.drop g=c::r):(z.drop g).take 1=[c]:=by rw [h];rfl
theorem wK {z:List Nat} {g c:Nat} {r:List Nat} (h:z.drop g=c::r):z[g]? =some c:=by
 have:=List.getElem?_drop (xs:=z) (i:=g) (j:=0)
 rw [h]at this
 simpa using this.symm
theorem bZ {z:List Nat} {g:Nat} {w r:List Nat} (h:z.drop g=w++r):z.drop (g+w.length)=r:=by
 rw [<-List.drop_drop,h,List.drop_left]
theorem aLw:∀c:Nat,c∈sgn "0123456789"↔dig c=true:=by
 intro c
 unfold dig
 rw [decide_eq_true_iff,show sgn "0123456789"=[48,49,50,51,52,53,54,55,56,57]from rfl]
 simp only [List.mem_cons,List.not_mem_nil,or_false]
 omega
theorem yZ {rd:Addr} {x:String} {l:List Nat} (h:(Str.ofString x).cps.toList=l):[V.ref rd,V.str (Str.ofString x)]=[V.ref rd,V.str (tx l)]:=by rw [bL l h]
abbrev FR:List Str:=["text","gone"]
abbrev DR (P:Program) (w:World) (K:PySem.W.Frag) (mg:Str->Option Value) (base:Heap) (k:Nat) (CR:Addr) (m:Str) (ps:List Str) (sp:Sp):Prop:=Dis P w K mg base CX0 k (·=CR) m ps (fun _=>sp)
section
variable {P:Program} {w:World} {K:PySem.W.Frag} {mg:Str->Option Value} {base:Heap} {CR:Addr}
theorem aHp:aM ["self"] ["self"] (aC xJ):=⟨rfl,rfl,rfl,by decide+kernel,rfl,by decide+kernel,by decide+kernel⟩
theorem aMp {f:Addr} {fd:FuncData} (F:Fun K "ahead" "TermReader.ahead" xJ f fd) (c:Cf K CR FR):bB P w K mg base CX0 1 f fd ["self"] (jW CR):=by
 refine F.ok aHp (fun vs H Q E h=>?_) (fun cdv A outer s H vs Q E hr h=>?_)
 ·obtain⟨rd,z,g,rfl,_⟩:=h
  rfl
 ·obtain⟨rd,z,g,rfl,⟨dx,hp⟩,zl,q⟩:=h
  refine⟨_,(aP (bU (aEk aLi (lC (pv 0) rfl) (wD (lC (pv 0) rfl)) (wD (oV sH (lC (pv 0) rfl) dF))))),?_⟩
  have q':Q (.str (tx ((z.drop g).take (g+1-g)))) H:=by rw [show g+1-g=1 by omega];exact q
  exact⟨_,rfl,rd,CR,dx,_,_,rfl,hp,c.cl,c.na _ (by simp),rfl,_,rfl,rd,CR,dx,_,_,rfl,hp,c.cl,c.na _ (by simp),rfl,(g:Int),rfl,_,rfl,rd,CR,dx,_,_,rfl,hp,c.cl,c.na _ (by simp),rfl,_,_,rfl,rfl,((g+1:Nat):Int),rfl,z,g,g+1,rfl,rfl,rfl,by omega,aG5 zl,q'⟩
theorem aEe:aM ["self","signs","sign"] ["self","signs"] (aC aCo):=⟨rfl,rfl,rfl,by decide+kernel,rfl,by decide+kernel,by decide+kernel⟩
theorem aNa {f:Addr} {fd:FuncData} (F:Fun K "pass_by" "TermReader.pass_by" aCo f fd) (c:Cf K CR FR) (D_ahead:DR P w K mg base 1 CR "ahead" ["self"] (jW CR)):bB P w K mg base CX0 2 f fd ["self","signs"] (pR CR):=by
 refine F.ok aEe (fun vs H Q E h=>?_) (fun cdv A outer s H vs Q E hr h=>?_)
 ·obtain⟨rd,z,w',g,r,rfl,_⟩:=h
  rfl
 ·obtain⟨rd,z,w',g,r,rfl,R,zl,asc,hz,q⟩:=h
  refine⟨_,(aP (aBw PassesOwn.never rfl (aQg (pv 1)) (bJ (i:=2) aEe.nd rfl (Or.inl rfl)) (aD (dX (bV aHd (bH (pv 0) D_ahead (hr.mono (by omega)) bF) (pv 2) (cR _)) (aP dB) bQ) (aP (cW (pv 0) (oV sH (lC (pv 0) rfl) dF) rfl))))),?_⟩
  refine⟨_,rfl,w',rfl,asc,?_⟩
  refine aNe (z:=w') (fun i σ H2=>∃v2,σ=[some (.ref rd),some (.str (tx w')),v2]/\Kp rd H H2/\gA CR H2 rd z (g+i)) ⟨_,rfl,Kp.of (dW.refl H),R⟩ ?_ ?_
  ·rintro i ch σ H2 hi ⟨v2,rfl,k2,dx,hp⟩
   have hd:z.drop (g+i)=ch::(w'.drop (i+1)++r):=by
    obtain⟨hlt,e⟩:=List.getElem?_eq_some_iff.mp hi
    rw [<-List.drop_drop,hz,List.drop_append_of_le_length (Nat.le_of_lt hlt),List.drop_eq_getElem_cons hlt,e]
    rfl
   refine⟨_,rfl,rd,CR,dx,_,rfl,hp,rfl,rfl,rd,z,g+i,rfl,⟨dx,hp⟩,zl,_,rfl,rfl,_,rfl,?_⟩
   rw [take1 hd]
   refine aK4 rfl ?_
   refine⟨_,rfl,rd,CR,dx,_,_,rfl,hp,c.cl,c.na _ (by simp),rfl,_,_,rfl,rfl,_,rfl,rd,CR,dx,_,rfl,hp,c.cl,c.na _ (by simp),by show(2:Nat)<1000;decide,?_⟩
   exact⟨_,rfl,k2.trans aO9,dx,aJ⟩
  ·rintro σ H2 ⟨v2,rfl,k2,R2⟩
   exact q H2 k2 R2
theorem aNr:aM ["self"] ["self"] (aC aE9):=⟨rfl,rfl,rfl,by decide+kernel,rfl,by decide+kernel,by decide+kernel⟩
theorem aPi {f:Addr} {fd:FuncData} {t0:Tok} (F:Fun K "figure_is_ahead" "TermReader.figure_is_ahead" aE9 f fd) (D_ahead:DR P w K mg base 1 CR "ahead" ["self"] (jW CR)) (g_FIGURES:mg "FIGURES"=some (.str "0123456789" t0)):bB P w K mg base CX0 2 f fd ["self"] (aOf CR):=by
 refine F.ok aNr (fun vs H Q E h=>?_) (fun cdv A outer s H vs Q E hr h=>?_)
 ·obtain⟨rd,z,g,rfl,_⟩:=h
  rfl
 ·obtain⟨rd,z,g,rfl,R,zl,q⟩:=h
  have R':=R
  obtain⟨dx,hp⟩:=R'
  refine⟨_,(aP (bU (aLm (aBo aHd (bH (pv 0) D_ahead (hr.mono (by omega)) bF) bK (cR _)) (aJs (aBo aIq (bH (pv 0) D_ahead (hr.mono (by omega)) bF) (aM1 rfl g_FIGURES) rfl))))),?_⟩
  refine⟨_,rfl,rd,CR,dx,_,rfl,hp,rfl,rfl,rd,z,g,rfl,R,zl,rfl,_,rfl,?_⟩
  cases hd:z.drop g with
  |nil=>
   have e:pZ z g=false:=by
    unfold pZ
    rw [show z[g]? =none from List.getElem?_eq_none (List.drop_eq_nil_iff.mp hd)]
   rw [e]at q
   exact pL q
  |cons ch r=>
   have e:pZ z g=dig ch:=by unfold pZ;rw [wK hd]
   rw [e]at q
   refine jN (by rw [decide_eq_false fun z=>by have:=iR ((V.str.inj z).trans (bL [] rfl));cases this];rfl) ?_
   refine⟨_,rfl,rd,CR,dx,_,rfl,hp,rfl,rfl,rd,z,g,rfl,R,zl,_,_,rfl,rfl,?_⟩
   rw [take1 hd]
   have f1:=StrLaws.found_one (Str.ofString "0123456789") ch
   have f2:(!(Builtin.Str.occurrences (Str.ofString "0123456789") (tx [ch]) 0 (Str.ofString "0123456789").length 1).isEmpty)=dig ch:=by
    refine f1.trans ?_
    rw [Bool.eq_iff_iff,decide_eq_true_iff]
    exact aLw ch
   rw [f2]
   exact q
theorem aDv:aM ["self","begin"] ["self"] (aC aBk):=⟨rfl,rfl,rfl,by decide+kernel,rfl,by decide+kernel,by decide+kernel⟩
theorem aMs {f:Addr} {fd:FuncData} (F:Fun K "read_figures" "TermReader.read_figures" aBk f fd) (c:Cf K CR FR) (D_ahead:DR P w K mg base 1 CR "ahead" ["self"] (jW CR)) (D_pass_by:DR P w K mg base 2 CR "pass_by" ["self","signs"] (pR CR)) (D_figure_is_ahead:DR P w K mg base 2 CR "figure_is_ahead" ["self"] (aOf CR)) (T:Txt K mg):bB P w K mg base CX0 3 f fd ["self"] (aCd CR):=by
 refine F.ok aDv (fun vs H Q E h=>?_) (fun cdv A outer s H vs Q E hr h=>?_)
 ·obtain⟨rd,z,g,m,r,rfl,_⟩:=h
  rfl
 ·obtain⟨rd,z,g,m,r,rfl,R,zl,hz,nd,hm,q⟩:=h
  obtain⟨dx,hp⟩:=R
  obtain⟨_,g_MOST_FIGURES⟩:=T.mfi
  refine⟨_,(aD (fX (i:=1) aDv.nd rfl (Or.inl rfl) (lC (pv 0) rfl)) (aD (dX (aBi (xU (bH (pv 0) D_figure_is_ahead (hr.mono (by omega)) bF))) (aP dB) bQ) (aD (dX (bV mV (bH (pv 0) D_ahead (hr.mono (by omega)) bF) bK (cR _)) (aD (cL (bY (pv 0) D_pass_by (hr.mono (by omega)) bF (aL bK aX))) (aP (bU dF))) bQ) (aD (uB PassesOwn.never (PW.pt (aLy (xU (bH (pv 0) D_figure_is_ahead (hr.mono (by omega)) bF)) (aG1 (bV aG6 (oV oM (lC (pv 0) rfl) (pv 1)) (aCi rfl g_MOST_FIGURES) (cR _))))) (aP (cW (pv 0) (oV sH (lC (pv 0) rfl) dF) rfl))) (aP (bU (mJ aIk rfl T.int boot_int (aL (aEk aLi (lC (pv 0) rfl) (wD (pv 1)) (wD (lC (pv 0) rfl))) aX)))))))),?_⟩
  have al:=aPo m
  have ln:=aBg 12 m hm
  obtain⟨ch,rs,ec⟩:∃c rs,dg m=c::rs:=by
   rcases Nat.eq_zero_or_pos m with h0|h0
   ·exact⟨48,[],by rw [h0,wI]⟩
   ·obtain⟨c,r,e,_⟩:=tD m h0
    exact⟨c,r,e⟩
  have hd:z.drop g=ch::(rs++r):=by rw [hz,ec];rfl
  have dch:pZ z g=true:=by unfold pZ;rw [wK hd];exact decide_eq_true (al ch (by rw [ec];exact List.mem_cons_self))
  refine⟨_,rfl,rd,CR,dx,_,_,rfl,hp,c.cl,c.na _ (by simp),rfl,?_⟩
  refine⟨_,rfl,rd,CR,dx,_,rfl,hp,rfl,rfl,rd,z,g,rfl,⟨dx,hp⟩,zl,_,rfl,?_⟩
  rw [dch]
  refine pL ?_
  refine⟨_,rfl,rd,CR,dx,_,rfl,hp,rfl,rfl,rd,z,g,rfl,⟨dx,hp⟩,zl,rfl,_,rfl,?_⟩
  rw [take1 hd]
  rcases Nat.eq_zero_or_pos m with h0|h0
  ·subst h0
   rw [wI]at ec hz q
   cases ec
   refine jN (decide_eq_true (congrArg V.str (bL [48] rfl).symm)) ?_
   refine⟨_,rfl,rd,CR,dx,_,rfl,hp,rfl,rfl,rd,z,[48],g,r,yZ rfl,⟨dx,hp⟩,zl,by decide,hz,fun H1 k1 R1=>?_⟩
   exact q H1 k1 R1
  ·obtain⟨c',r',e',h49,h57⟩:=tD m h0
   rw [ec]at e'
   obtain⟨rfl,rfl⟩:=List.cons.inj e'
   refine eQ (decide_eq_false fun x=>by have:=iR ((V.str.inj x).trans (bL [48] rfl));injection this with h1;omega) ?_
   refine⟨fun k σ H1=>∃i,k=(dg m).length-i/\i<=(dg m).length/\σ=[some (.ref rd),some (zL g)]/\Kp rd H H1/\gA CR H1 rd z (g+i),⟨_,0,rfl,Nat.zero_le _,rfl,Kp.of (dW.refl H),dx,hp⟩,?_⟩
   rintro k σ H1 ⟨i,rfl,hi,rfl,k1,dx1,hp1⟩
   refine⟨_,rfl,rd,CR,dx1,_,rfl,hp1,rfl,rfl,rd,z,g+i,rfl,⟨dx1,hp1⟩,zl,_,rfl,?_⟩
   have dr:z.drop (g+i)=(dg m).drop i++r:=by rw [<-List.drop_drop,hz,List.drop_append_of_le_length hi]
   by_cases lt:i<(dg m).length
   ·have hc:z[g+i]? =some (dg m)[i]:=wK (r:=(dg m).drop (i+1)++r) (by rw [dr,List.drop_eq_getElem_cons lt];rfl)
    have dd:pZ z (g+i)=true:=by unfold pZ;rw [hc];exact decide_eq_true (al _ (List.getElem_mem lt))
    rw [dd]
    refine aGa ?_
    refine⟨_,rfl,rd,CR,dx1,_,_,rfl,hp1,c.cl,c.na _ (by simp),rfl,_,rfl,_,_,rfl,rfl,_,_,rfl,rfl,_,rfl,?_⟩
    refine jN (decide_eq_true (by show((g+i:Nat):Int)-(g:Int)<13;omega)) ?_
    refine⟨fun σ' H'=>∃m',m'<(dg m).length-i/\_,fun _ _ z=>z,?_⟩
    refine⟨_,rfl,rd,CR,dx1,_,_,rfl,hp1,c.cl,c.na _ (by simp),rfl,_,_,rfl,rfl,_,rfl,rd,CR,dx1,_,rfl,hp1,c.cl,c.na _ (by simp),by show(2:Nat)<1000;decide,?_⟩
    exact⟨(dg m).length-(i+1),by omega,i+1,rfl,lt,rfl,k1.trans aO9,dx1,aJ⟩
   ·have ei:i=(dg m).length:=by omega
    subst ei
    have dd:pZ z (g+(dg m).length)=false:=by
     rw [List.drop_of_length_le (Nat.le_refl _),List.nil_append]at dr
     unfold pZ
     cases r with
     |nil=>rw [show z[g+(dg m).length]? =none from List.getElem?_eq_none (List.drop_eq_nil_iff.mp dr)]
     |cons x y=>rw [wK dr];exact nd x y rfl
    rw [dd]
    refine pL ?_
    have ct:(z.drop g).take (g+(dg m).length-g)=dg m:=by rw [show g+(dg m).length-g=(dg m).length by omega,hz,List.take_left]
    refine⟨_,rfl,rd,CR,dx1,_,_,rfl,hp1,c.cl,c.na _ (by simp),rfl,_,rfl,(g:Int),rfl,_,rfl,rd,CR,dx1,_,_,rfl,hp1,c.cl,c.na _ (by simp),rfl,((g+(dg m).length:Nat):Int),rfl,z,g,g+(dg m).length,rfl,rfl,rfl,by omega,aG5 zl,?_⟩
    rw [ct]
    refine⟨dg m,rfl,by rw [ec];simp,al,by omega,?_⟩
    rw [aPa]
    exact q H1 k1 ⟨dx1,hp1⟩
theorem aNs:aM ["self"] ["self"] (aC aFd):=⟨rfl,rfl,rfl,by decide+kernel,rfl,by decide+kernel,by decide+kernel⟩
theorem aQ1 {f:Addr} {fd:FuncData} (F:Fun K "read_number" "TermReader.read_number" aFd f fd) (D_ahead:DR P w K mg base 1 CR "ahead" ["self"] (jW CR)) (D_pass_by:DR P w K mg base 2 CR "pass_by" ["self","signs"] (pR CR)) (D_read_figures:DR P w K mg base 3 CR "read_figures" ["self"] (aCd CR)):bB P w K mg base CX0 4 f fd ["self"] (aCf CR):=by
 refine F.ok aNs (fun vs H Q E h=>?_) (fun cdv A outer s H vs Q E hr h=>?_)
 ·obtain⟨rd,z,g,n,r,rfl,_⟩:=h
  rfl
 ·obtain⟨rd,z,g,n,r,rfl,⟨dx,hp⟩,zl,hz,nd,hn,q⟩:=h
  refine⟨_,(aD (dX (bV aHd (bH (pv 0) D_ahead (hr.mono (by omega)) bF) bK (cR _)) (aP (bU (bH (pv 0) D_read_figures (hr.mono (by omega)) bF))) bQ) (aD (cL (bY (pv 0) D_pass_by (hr.mono (by omega)) bF (aL bK aX))) (aD (dX (bV mV (bH (pv 0) D_ahead (hr.mono (by omega)) bF) bK (cR _)) (aP dB) bQ) (aP (bU (aOy aJj (bH (pv 0) D_read_figures (hr.mono (by omega)) bF))))))),?_⟩
  refine⟨_,rfl,rd,CR,dx,_,rfl,hp,rfl,rfl,rd,z,g,rfl,⟨dx,hp⟩,zl,rfl,_,rfl,?_⟩
  cases n with
  |ofNat m=>
   rw [show Int.ofNat m=(m:Int)from rfl,wA]at hz q
   obtain⟨ch,rs,ec,hc⟩:∃c rs,dg m=c::rs/\48<=c:=by
    rcases Nat.eq_zero_or_pos m with h0|h0
    ·exact⟨48,[],by rw [h0,wI],by omega⟩
    ·obtain⟨c,r,e,h1,_⟩:=tD m h0
     exact⟨c,r,e,by omega⟩
   rw [take1 (c:=ch) (r:=rs++r) (by rw [hz,ec];rfl)]
   refine jN (by rw [decide_eq_false fun x=>by have:=iR ((V.str.inj x).trans (bL [45] rfl));injection this with h1;omega];rfl) ?_
   exact⟨_,rfl,rd,CR,dx,_,rfl,hp,rfl,rfl,rd,z,g,m,r,rfl,⟨dx,hp⟩,zl,hz,nd,hn,fun H1 k1 R1=>q H1 k1 R1⟩
  |negSucc m=>
   rw [aCk]at hz q
   rw [take1 (c:=45) (r:=dg (m+1)++r) (by rw [hz];rfl)]
   refine aK4 (congrArg V.str (bL [45] rfl).symm) ?_
   refine⟨_,rfl,rd,CR,dx,_,rfl,hp,rfl,rfl,rd,z,[45],g,dg (m+1)++r,yZ rfl,⟨dx,hp⟩,zl,by decide,hz,fun H1 k1 R1=>?_⟩
   obtain⟨dx1,hp1⟩:=R1
   have h2:z.drop (g+1)=dg (m+1)++r:=bZ (w:=[45]) hz
   obtain⟨c',r',e',h49,h57⟩:=tD (m+1) (by omega)
   refine⟨_,rfl,rd,CR,dx1,_,rfl,hp1,rfl,rfl,rd,z,g+1,rfl,⟨dx1,hp1⟩,zl,rfl,_,rfl,?_⟩
   rw [take1 (c:=c') (r:=r'++r) (by rw [h2,e'];rfl)]
   refine eQ (decide_eq_false fun x=>by have:=iR ((V.str.inj x).trans (bL [48] rfl));injection this with h1;omega) ?_
   refine⟨_,rfl,rd,CR,dx1,_,rfl,hp1,rfl,rfl,rd,z,g+1,m+1,r,rfl,⟨dx1,hp1⟩,zl,h2,nd,by simpa using hn,fun H2 k2 R2=>?_⟩
   refine⟨_,rfl,?_⟩
   refine q H2 (k1.trans k2) ?_
   rw [List.length_cons,show g+((dg (m+1)).length+1)=g+1+(dg (m+1)).length by omega]
   exact R2
end
end KR
namespace KR
open PySem PyProof.Rows L2
def tl:List Int->List Nat
 | []=>[]
 |s::r=>32::(itx s++tl r)
theorem aMa:∀(b:Int) (ss:List Int),glu [32] (itx b::ss.map itx)=itx b++tl ss
 |b,[]=>by simp [glu,tl]
 |b,s::r=>by rw [List.map_cons,glu,aMa s r];rfl
theorem zH (b:Int) (ss:List Int):txt (.take b ss)=91::(itx b++(tl ss++[93])):=by rw [txt,aMa,List.append_assoc]
theorem kY {c:Nat} {r:List Nat} (h:dig c=false):NoD (c::r):=fun x s e=>by cases e;exact h
theorem aFl {ss:List Int} {r:List Nat}:NoD (tl ss++93::r):=by
 cases ss with
 |nil=>exact kY rfl
 |cons s r=>exact kY rfl
theorem Kp.freeR {CR:Addr} {a q:Addr} {H H':Hp} {z:List Nat} {g:Nat} (k:Kp a H H') (R:gA CR H' a z g) (hq:H' q=none):H q=none:=by
 obtain⟨dx,e⟩:=R
 cases h:H q with
 |none=>rfl
 |some o=>
  have:q≠a:=fun z=>by rw [z,e]at hq;cases hq
  rw [k q o h this]at hq
  cases hq
theorem aOk {CR:Addr} {H:Hp} {rd q:Addr} {z:List Nat} {g:Nat} {o:HO} (R:gA CR H rd z g) (h:H q=some o) (no:∀dx fs,o≠ .ins CR dx fs):q≠rd:=fun e=>by
 obtain⟨dx,e2⟩:=R
 rw [e,e2]at h
 cases h
 exact no _ _ rfl
theorem gA.new {CR:Addr} {H:Hp} {rd q:Addr} {z:List Nat} {g:Nat} {o:HO} (R:gA CR H rd z g) (h:q≠rd):gA CR (upd H q o) rd z g:=let⟨dx,e⟩:=R;⟨dx,by rw [aQ (Ne.symm h)];exact e⟩
def aBs (N:Cn) (CR:Addr):Sp:=fun vs H Q _=>∃(rd:Addr) (z:List Nat) (g:Nat) (b:Int) (ss:List Int) (r:List Nat),vs=[.ref rd]/\gA CR H rd z g/\z.length<=9000/\z.drop g=txt (.take b ss)++r/\vP (b,ss)/\1<=ss.length/\ss.length<=3/\∀(v':V) (H':Hp),Kp rd H H'->gA CR H' rd z (g+(txt (.take b ss)).length)->jQ N H' (.take b ss) v'->Q v' H'
section
variable {P:Program} {w:World} {K:PySem.W.Frag} {mg:Str->Option Value} {base:Heap} {CR:Addr} {N:Cn}
theorem xP:aM ["self","back","steps"] ["self"] (aC aBr):=⟨rfl,rfl,rfl,by decide+kernel,rfl,by decide+kernel,by decide+kernel⟩
theorem aKx {f:Addr} {fd:FuncData} (F:Fun K "read_take" "TermReader.read_take" aBr f fd) (D_ahead:DR P w K mg base 1 CR "ahead" ["self"] (jW CR)) (D_pass_by:DR P w K mg base 2 CR "pass_by" ["self","signs"] (pR CR)) (D_read_number:DR P w K mg base 4 CR "read_number" ["self"] (aCf CR)) (R_take:Mkr P w K mg base N.take "Take" ["self","back","steps"] (aB7 K "back" "steps")) (c2:Cf K N.take ["back","steps"]) (T:Txt K mg):bB P w K mg base CX0 5 f fd ["self"] (aBs N CR):=by
 refine F.ok xP (fun vs H Q E h=>?_) (fun cdv A outer s H vs Q E hr h=>?_)
 ·obtain⟨rd,z,g,b,ss,r,rfl,_⟩:=h
  rfl
 ·obtain⟨rd,z,g,b,ss,r,rfl,R,zl,hz,⟨b1,b3,bd⟩,l1,l3,q⟩:=h
  obtain⟨_,g_MOST_STEPS_term_texts⟩:=T.mst2
  simp only at b1 b3 bd
  refine⟨_,(aD (cL (bY (pv 0) D_pass_by (hr.mono (by omega)) bF (aL bK aX))) (aD (fX (i:=1) xP.nd rfl (Or.inl rfl) (bH (pv 0) D_read_number (hr.mono (by omega)) bF)) (aD (cL (bY (pv 0) D_pass_by (hr.mono (by omega)) bF (aL bK aX))) (aD (fX (i:=2) xP.nd rfl (Or.inl rfl) (aKt (aL (bH (pv 0) D_read_number (hr.mono (by omega)) bF) aX))) (aD (uB PassesOwn.never (PW.pt (aLy (bV mV (bH (pv 0) D_ahead (hr.mono (by omega)) bF) bK (cR _)) (aG1 (bV aG6 (gW aR (by rfl) T.len PySem.boot_len (aL (pv 2) aX)) (aCi rfl g_MOST_STEPS_term_texts) (cR _))))) (aD (cL (bY (pv 0) D_pass_by (hr.mono (by omega)) bF (aL bK aX))) (aP (cL (zF PySem.F.plainAttrs_list PySem.F.slot_list_append PySem.F.type_list_append mU (pv 2) (aL (bH (pv 0) D_read_number (hr.mono (by omega)) bF) aX)))))) (aD (cL (bY (pv 0) D_pass_by (hr.mono (by omega)) bF (aL bK aX))) (aP (bU (rD R_take (hr.mono (by omega)) rfl bF (aL (pv 1) (aL (mJ rF rfl T.tuple boot_tuple (aL (pv 2) aX)) aX))))))))))),?_⟩
  obtain⟨s0,sr,rfl⟩:∃s0 sr,ss=s0::sr:=by
   cases ss with
   |nil=>simp at l1
   |cons a b=>exact⟨a,b,rfl⟩
  rw [zH]at hz q
  have R':=R
  obtain⟨dx,hp⟩:=R'
  have z0:z.drop g=[91]++(itx b++(tl (s0::sr)++(93::r))):=by rw [hz];simp
  refine⟨_,rfl,rd,CR,dx,_,rfl,hp,rfl,rfl,rd,z,[91],g,_,yZ rfl,R,zl,by decide,z0,fun H1 k1 R1=>?_⟩
  have z1:=bZ z0
  obtain⟨dx1,hp1⟩:=id R1
  refine⟨_,rfl,rd,CR,dx1,_,rfl,hp1,rfl,rfl,rd,z,_,b,_,rfl,R1,zl,z1,aFl,by omega,fun H2 k2 R2=>?_⟩
  have z2:=bZ z1
  obtain⟨dx2,hp2⟩:=id R2
  refine⟨_,rfl,rd,CR,dx2,_,rfl,hp2,rfl,rfl,rd,z,[32],_,itx s0++(tl sr++93::r),yZ rfl,R2,zl,by decide,by rw [z2];simp [tl],fun H3 k3 R3=>?_⟩
  have z3:z.drop (g+ [91].length+(itx b).length+ [32].length)=itx s0++(tl sr++93::r):=bZ (w:=[32]) (by rw [z2];simp [tl])
  obtain⟨dx3,hp3⟩:=id R3
  have hs0:=rW (bd s0 List.mem_cons_self)
  refine⟨_,rfl,rd,CR,dx3,_,rfl,hp3,rfl,rfl,rd,z,_,s0,_,rfl,R3,zl,z3,aFl,hs0,fun H4 k4 R4=>?_⟩
  have z4:=bZ z3
  have k04:=((k1.trans k2).trans k3).trans k4
  refine⟨by show 1<=sizeLine;decide,fun D nD=>?_⟩
  have Dr:D≠rd:=fun e=>by obtain⟨_,e4⟩:=id R4;rw [e,e4]at nD;cases nD
  have nH:=k04.freeR R4 nD
  refine⟨fun k σ H5=>∃(i p:Nat),k=sr.length-i/\i<=sr.length/\σ=[some (.ref rd),some (.int b),some (.ref D)]/\Kp rd H H5/\gA CR H5 rd z p/\H5 D=some (.lst ((s0::sr.take i).map V.int))/\z.drop p=tl (sr.drop i)++93::r/\p+(tl (sr.drop i)).length=g+1+(itx b).length+(tl (s0::sr)).length,⟨_,0,_,rfl,Nat.zero_le _,rfl,k04.upd nH,R4.new Dr,aJ,z4,?_⟩,?_⟩
  ·simp only [List.drop_zero,tl,List.length_cons,List.length_append,List.length_nil]
   omega
  rintro k σ H5 ⟨i,p,rfl,hi,rfl,k5,R5,hD,z5,hl⟩
  obtain⟨dx5,hp5⟩:=id R5
  refine⟨_,rfl,rd,CR,dx5,_,rfl,hp5,rfl,rfl,rd,z,p,rfl,R5,zl,rfl,_,rfl,?_⟩
  by_cases lt:i<sr.length
  ·have ed:sr.drop i=sr[i]::sr.drop (i+1):=List.drop_eq_getElem_cons lt
   rw [ed,tl]at z5 hl
   rw [take1 (c:=32) z5]
   refine jN (decide_eq_true (congrArg V.str (bL [32] rfl).symm)) ?_
   have hs:=rW (bd sr[i] (List.mem_cons_of_mem _ (List.getElem_mem lt)))
   rw [List.length_cons]at l3
   refine⟨_,rfl,D,_,rfl,.inl (SqL.of hD),_,_,rfl,rfl,_,rfl,?_⟩
   refine jN (decide_eq_true (by rw [List.length_map,List.length_cons,List.length_take];show((min i sr.length+1:Nat):Int)<3;omega)) ?_
   refine⟨fun σ' H'=>∃m',m'<sr.length-i/\_,fun _ _ z=>z,?_⟩
   have z5':z.drop p=[32]++(itx sr[i]++(tl (sr.drop (i+1))++93::r)):=by rw [z5];simp
   refine⟨_,rfl,rd,CR,dx5,_,rfl,hp5,rfl,rfl,rd,z,[32],p,_,yZ rfl,R5,zl,by decide,z5',fun H6 k6 R6=>?_⟩
   have z6:=bZ z5'
   obtain⟨dx6,hp6⟩:=id R6
   have hD6:H6 D=some (.lst ((s0::sr.take i).map V.int)):=k6 _ _ hD Dr
   refine⟨_,rfl,.inl ⟨rfl,_,SqL.of hD6⟩,_,rfl,rd,CR,dx6,_,rfl,hp6,rfl,rfl,rd,z,_,sr[i],_,rfl,R6,zl,z6,aFl,hs,fun H7 k7 R7=>?_⟩
   have z7:=bZ z6
   have hD7:H7 D=some (.lst ((s0::sr.take i).map V.int)):=k7 _ _ (k6 _ _ hD Dr) Dr
   refine⟨D,_,_,rfl,rfl,hD7,small (by rw [List.length_map,List.length_cons,List.length_take];omega),?_⟩
   refine⟨sr.length-(i+1),by omega,i+1,_,rfl,lt,rfl,((k5.trans k6).trans k7).upd nH,R7.new Dr,?_,z7,?_⟩
   ·rw [aJ]
    show some (HO.lst ((s0::sr.take i).map V.int++[V.int sr[i]]))=_
    rw [List.take_succ,List.getElem?_eq_getElem lt, <-List.cons_append,List.map_append]
    rfl
   ·simp only [List.length_cons,List.length_append,List.length_nil]at hl⊢
    omega
  ·have ei:i=sr.length:=by omega
   subst ei
   rw [List.drop_of_length_le (Nat.le_refl _)]at z5 hl
   rw [take1 (c:=93) z5]
   refine eQ (decide_eq_false fun x=>by have:=iR ((V.str.inj x).trans (bL [32] rfl));injection this with h1;omega) ?_
   have z5':z.drop p=[93]++r:=z5
   refine⟨_,rfl,rd,CR,dx5,_,rfl,hp5,rfl,rfl,rd,z,[93],p,_,yZ rfl,R5,zl,by decide,z5',fun H6 k6 R6=>?_⟩
   have hD6:H6 D=some (.lst ((s0::sr).map V.int)):=by have:=k6 _ _ hD Dr;rw [List.take_length]at this;exact this
   refine⟨_,rfl,_,rfl,D,_,rfl,.inl ⟨SqL.of hD6,fun u nu=>?_⟩⟩
   generalize e:upd H6 u _=H7
   obtain⟨s7,e7⟩:=aQk nu e
   refine fun x dx nx nd ne=>⟨x,N.take,dx,.int b,.ref u,rfl,aJ,c2,rfl,?_⟩
   have sN:dW H7 (upd (upd (upd (upd H7 dx (.own x)) x (.ins N.take dx [])) x (.ins N.take dx [("back",.int b)])) x (.ins N.take dx [("back",.int b),("steps",.ref u)])):=jC nx (aFw nx nd)
   refine q _ _ (((k5.trans k6).same s7).same sN) ?_ ⟨x,dx,_,rfl,aJ,u,rfl,sN _ _ e7⟩
   have:p+ [93].length=g+(91::(itx b++(tl (s0::sr)++[93]))).length:=by
    simp only [List.length_cons,List.length_append,List.length_nil,tl]at hl⊢
    omega
   rw [<-this]
   exact(R6.same s7).same sN
theorem aPh {X:Cx} {K:PySem.W.Frag} {o e:Expr} {es:List Expr} {to:TE} {t:TA} {name:Str} {apos cpos:Pos} {T id:String} {r:V->List V->Hp->VK->Prop} (h:X.K=K) (pa:PlainAttrs T) (slot:Slot T name id) (hty:typeOf (.builtin id)=pure (.type "method_descriptor")) (hm:MtR X id r) (ho:PE X o to) (ha:PA X (e::es) t)
  (hbase:attributeBase o name X.env (eval o X.env)=eval o X.env:=by rfl)
  (hfew:((backTo cpos (starEach (e::es) X.env)).all (fun x=> !x.1) && (backToKw cpos (keywordEach [] X.env)).all (fun x=>x.1.isSome)
   && decide ((e::es).length+([]:List Keyword).length+(if([]:List Keyword).isEmpty then 0 else 1)<30))=true:=by rfl)
  (hline:(apos.endLine==cpos.line)=true:=by rfl) (hs:starEach (e::es) X.env=(false,eval e X.env)::starEach es X.env:=by rfl) (hplain:(backTo cpos (starEach es X.env)).any (·.1)=false:=by rfl):PE X (.Call (.Attribute o name apos) (e::es) [] cpos) (tBM K T r to t):=by
 subst h
 exact zF pa slot hty hm ho ha hbase hfew hline hs hplain
def wl:List (List Nat):=[[43],[45],[42],[109,105,110],[109,97,120],[114,101,115,116],[63]]
def Words (K:PySem.W.Frag) (aW:Addr):Prop:=∀H:Hp,SqT K H aW (wl.map fun l=>V.str (tx l))
def aFg (CR:Addr):Sp:=fun vs H Q _=>∃(rd:Addr) (z:List Nat) (g:Nat) (x r:List Nat),vs=[.ref rd]/\gA CR H rd z g/\z.length<=9000/\x∈wl/\z.drop g=x++r/\∀H',Kp rd H H'->gA CR H' rd z (g+x.length)->Q (.str (tx x)) H'
theorem aQ7 (x:List Nat) (ls:List (List Nat)):inV (.str (tx x)) (ls.map fun l=>V.str (tx l))=decide (x∈ls):=by
 rw [Bool.eq_iff_iff,decide_eq_true_iff]
 unfold inV
 rw [List.any_eq_true]
 constructor
 ·rintro⟨y,hy,e⟩
  obtain⟨l,hl,rfl⟩:=List.mem_map.mp hy
  have:tx l=tx x:=by simpa [eqV]using e
  rw [<-iR this]
  exact hl
 ·intro h
  exact⟨_,List.mem_map.mpr ⟨x,h,rfl⟩,by simp [eqV]⟩
theorem aQ6:∀x∈wl,∀k:Nat,k<x.length->x.take k∉wl:=by decide
theorem aQ5:∀x∈wl,∀c∈x,c<128:=by decide
theorem aQr:∀x∈wl,x.length<=4:=by decide
abbrev aN4:List Str:=["self","begun","longer"]
theorem tZ:aM ["self","begun","longer"] ["self"] (aC wV):=⟨rfl,rfl,rfl,by decide+kernel,rfl,by decide+kernel,by decide+kernel⟩
theorem aMw {f aW:Addr} {fd:FuncData} (F:Fun K "read_word" "TermReader.read_word" wV f fd) (D_ahead:DR P w K mg base 1 CR "ahead" ["self"] (jW CR)) (D_pass_by:DR P w K mg base 2 CR "pass_by" ["self","signs"] (pR CR)) (g_WORDS:mg "WORDS"=some (.ref aW)) (W_:Words K aW) (T:Txt K mg):bB P w K mg base CX0 3 f fd ["self"] (aFg CR):=by
 refine F.ok tZ (fun vs H Q E h=>?_) (fun cdv A outer s H vs Q E hr h=>?_)
 ·obtain⟨rd,z,g,x,r,rfl,_⟩:=h
  rfl
 ·obtain⟨rd,z,g,x,r,rfl,R,zl,hx,hz,q⟩:=h
  refine⟨_,(aD (fX (i:=1) tZ.nd rfl (Or.inl rfl) bK) (aD (uB PassesOwn.never (bV aBm (pv 1) (aGt rfl g_WORDS) rfl) (aD (fX (i:=2) tZ.nd rfl (Or.inr rfl) (oV aN9 (pv 1) (bH (pv 0) D_ahead (hr.mono (by omega)) bF))) (aD (dX (PW.pt (aO5 (bV mV (pv 2) (pv 1) (cR _)) (aKe (aBi (xU (gW aMg rfl T.any boot_any (aL (aOx (own:=["word"]) (cap:=[("longer",2)]) (g:=oX 0) (aC wV) aN4 rfl rfl (fun x h=>bM h) (by decide+kernel) rfl (aMn (aGt rfl g_WORDS)) (fun cl C s2 H2 fp=>(bJ (i:=0) (show(["word","longer"]:List Str).Nodup by decide+kernel) rfl (Or.inl rfl) (Or.inr rfl))) (fun cl C s2 H2 fp=>(aPh (K:=K) rfl PySem.F.plainAttrs_str PySem.F.slot_str_startswith PySem.F.type_str_startswith aHz (pv 0) (aL (pv 1) aX)))) aX))))))) (aP dB) bQ) (aD (cL (bY (pv 0) D_pass_by (hr.mono (by omega)) bF (aL (bH (pv 0) D_ahead (hr.mono (by omega)) bF) aX))) (aP (fX (i:=1) tZ.nd rfl (Or.inl rfl) (pv 2))))))) (aP (bU (pv 1))))),?_⟩
  have xl:=aQr x hx
  refine⟨fun k σ H1=>∃i v2,k=x.length-i/\i<=x.length/\σ=[some (.ref rd),some (.str (tx (x.take i))),v2]/\Kp rd H H1/\gA CR H1 rd z (g+i),⟨_,0,_,rfl,Nat.zero_le _,by rw [show Str.ofString ""=tx []from bL [] rfl];rfl,Kp.of (dW.refl H),R⟩,?_⟩
  rintro k σ H1 ⟨i,v2,rfl,hi,rfl,k1,R1⟩
  obtain⟨dx1,hp1⟩:=id R1
  refine⟨_,rfl,aW,_,rfl,.inr (W_ H1),rfl,rfl,_,rfl,?_⟩
  rw [aQ7]
  rcases Nat.lt_or_ge i x.length with lt|ge
  ·refine jN (by rw [decide_eq_false (aQ6 x hx i lt)];rfl) ?_
   refine⟨fun σ' H'=>∃m',m'<x.length-i/\_,fun _ _ z=>z,?_⟩
   have hd:z.drop (g+i)=[x[i]]++(x.drop (i+1)++r):=by rw [<-List.drop_drop,hz,List.drop_append_of_le_length hi,List.drop_eq_getElem_cons lt];rfl
   have hc:=aQ5 x hx _ (List.getElem_mem lt)
   have e1:x.take i++[x[i]]=x.take (i+1):=by rw [List.take_succ,List.getElem?_eq_getElem lt];rfl
   refine⟨_,rfl,_,rfl,rd,CR,dx1,_,rfl,hp1,rfl,rfl,rd,z,g+i,rfl,R1,zl,?_⟩
   rw [take1 hd]
   refine aQn rfl rfl (by rw [List.length_take];show _+1<=9000;omega) ?_
   rw [e1]
   refine⟨_,rfl,_,rfl,rfl,_,rfl,?_⟩
   refine eQ (decide_eq_false fun e=>?_) ?_
   ·have:=congrArg List.length (iR (V.str.inj e))
    rw [List.length_take,List.length_take]at this
    omega
   have xt:(x.take (i+1)).length=i+1:=by rw [List.length_take];omega
   generalize ey:x.take (i+1)=y
   rw [ey]at xt
   refine⟨aW,rfl,⟨_,W_ H1⟩,fun D hD=>?_⟩
   refine aL4 (K:=K) (a:=aW) (xs:=wl.map fun l=>V.str (tx l)) (fun j acc σ H3=>(∃v0,σ=[v0,some (.str (tx y))])/\dW H1 H3/\H3 D=some (.lst acc)/\acc=((wl.take j).map fun l=>decide (l.take y.length=y)).map V.bl) ⟨⟨_,rfl⟩,sameNew hD,aJ,rfl⟩ (fun j acc σ H3 _ _=>W_ H3) ?_ ?_
   ·rintro j v acc σ H3 hj hv ⟨⟨v0,rfl⟩,s3,hD3,rfl⟩
    obtain⟨l,rfl,hl⟩:=aBp hv
    refine⟨_,rfl,rfl,_,rfl,l,y,rfl,rfl,?_⟩
    refine aR5 hD3 (small (by rw [List.length_map,List.length_map,List.length_take];have:wl.length=7:=rfl;omega)) hj ⟨⟨_,rfl⟩,jC hD s3,aJ,?_⟩
    rw [List.take_succ,hl,List.map_append,List.map_append]
    rfl
   ·rintro acc σ H3 ⟨_,s3,hD3,rfl⟩
    rw [List.length_map,List.take_length]at hD3
    refine⟨D,_,rfl,SqL.of hD3,rfl,?_⟩
    have an:(wl.map fun l=>decide (l.take y.length=y)).any id=true:=by
     rw [List.any_eq_true]
     exact⟨_,List.mem_map.mpr ⟨x,hx,rfl⟩,by rw [xt,ey];simp⟩
    rw [an]
    refine⟨_,rfl,?_⟩
    refine pL ?_
    have R3:=R1.same s3
    obtain⟨dx3,hp3⟩:=id R3
    refine⟨_,rfl,rd,CR,dx3,_,rfl,hp3,rfl,rfl,_,rfl,rd,CR,dx3,_,rfl,hp3,rfl,rfl,rd,z,g+i,rfl,R3,zl,?_⟩
    rw [take1 hd]
    refine⟨rd,z,[x[i]],g+i,_,rfl,R3,zl,fun c hc'=>by rw [List.mem_singleton.mp hc'];exact hc,hd,fun H4 k4 R4=>?_⟩
    refine⟨_,rfl,x.length-(i+1),by omega,i+1,some (.str (tx y)),rfl,lt,?_,(k1.same s3).trans k4,R4⟩
    rw [ey]
    rfl
  ·have ei:i=x.length:=by omega
   subst ei
   rw [List.take_length]
   refine eQ (by rw [decide_eq_true hx];rfl) ?_
   exact⟨_,rfl,q H1 k1 R1⟩
end
end KR
namespace KR
open PySem PyProof.Rows L2
def spl:Tm->Option (Tm×List Nat×List Nat)
 | .rest t y=>some (t,[114,101,115,116],itx y)
 | .cho a b c=>some (a,[63],txt b++([32,58,32]++txt c))
 | .bin k a b=>some (a,sgn (opn k),txt b)
 |_=>none
theorem aGs:∀{t a:Tm} {x y:List Nat},spl t=some (a,x,y)->txt t=40::(txt a++(32::(x++(32::(y++[41])))))
 | .rest t y,_,_,_,h=>by cases h;simp [txt]
 | .cho a b c,_,_,_,h=>by cases h;simp [txt]
 | .bin k a b,_,_,_,h=>by cases h;simp [txt]
theorem aJ4 (k:Fin 5):sgn (opn k)∈wl/\sgn (opn k)≠[114,101,115,116]/\sgn (opn k)≠[63]:=by
 match k with
 |0=>decide
 |1=>decide
 |2=>decide
 |3=>decide
 |4=>decide
theorem aQ2:∀{t a:Tm} {x y:List Nat},spl t=some (a,x,y)->x∈wl/\a∈kids t
 | .rest t y,_,_,_,h=>by cases h;exact⟨by decide,by simp [kids]⟩
 | .cho a b c,_,_,_,h=>by cases h;exact⟨by decide,by simp [kids]⟩
 | .bin k a b,_,_,_,h=>by cases h;exact⟨(aJ4 k).1,by simp [kids]⟩
def aC6 (N:Cn) (CR:Addr):Prop:=∀t:Tm,cls N t≠CR
theorem rT {N:Cn} {CR:Addr} {H H':Hp} {rd p dx:Addr} {z:List Nat} {g:Nat} {t:Tm} {fs:List (Str×V)} (n:aC6 N CR) (R:gA CR H rd z g) (k:Kp rd H H') (h:H p=some (.ins (cls N t) dx fs)):H' p=some (.ins (cls N t) dx fs):=k _ _ h (aOk R h fun _ _ e=>by injection e with e1;exact n t e1)
theorem jE.kp {N:Cn} {CR:Addr} {H H':Hp} {rd:Addr} {z:List Nat} {g:Nat} (n:aC6 N CR) (R:gA CR H rd z g) (s:Kp rd H H'):∀{t:Tm} {fs:List (Str×V)},jE N H fs t->jE N H' fs t
 | .num _,_,h=>h
 | .take _ _,_,⟨q,e,h⟩=>⟨q,e,s _ _ h (aOk R h fun _ _ e=>by cases e)⟩
 | .rest _ _,_,⟨p,dx,gs,e,h,h2⟩=>⟨p,dx,gs,e,rT n R s h,h2.kp n R s⟩
 | .cho _ _ _,_,⟨p,dp,ps,q,dq,qs,r,dr,rs,e,⟨h1,g1⟩,⟨h2,g2⟩,h3,g3⟩=>⟨p,dp,ps,q,dq,qs,r,dr,rs,e,⟨rT n R s h1,g1.kp n R s⟩,⟨rT n R s h2,g2.kp n R s⟩,rT n R s h3,g3.kp n R s⟩
 | .bin _ _ _,_,⟨p,dp,ps,q,dq,qs,e,⟨h1,g1⟩,h2,g2⟩=>⟨p,dp,ps,q,dq,qs,e,⟨rT n R s h1,g1.kp n R s⟩,rT n R s h2,g2.kp n R s⟩
theorem jQ.kp {N:Cn} {CR:Addr} {H H':Hp} {rd:Addr} {z:List Nat} {g:Nat} (n:aC6 N CR) (R:gA CR H rd z g) (s:Kp rd H H') {t:Tm} {v:V} (h:jQ N H t v):jQ N H' t v:=let⟨p,dx,fs,e,h1,h2⟩:=h;⟨p,dx,fs,e,rT n R s h1,h2.kp n R s⟩
def xX (N:Cn):Sp:=fun vs H Q _=>∃(k:Fin 5) (a b:Tm) (va vb:V),vs=[.str (opn k),va,vb]/\jQ N H a va/\jQ N H b vb/\∀(v':V) (H':Hp),dW H H'->jQ N H' (.bin k a b) v'->Q v' H'
def aDa (N:Cn) (CR:Addr) (d:Nat):Sp:=fun vs H Q _=>∃(rd:Addr) (z:List Nat) (g:Nat) (t a:Tm) (x y r:List Nat) (va:V) (wi:Nat),vs=[.ref rd,va,.str (tx x),zL wi]/\gA CR H rd z g/\z.length<=9000/\spl t=some (a,x,y)/\z.drop g=y++(41::r)/\jQ N H a va/\ht t<=d+1/\wi+d<=12/\jL t/\∀(v':V) (H':Hp),Kp rd H H'->gA CR H' rd z (g+y.length)->jQ N H' t v'->Q v' H'
def zE (N:Cn) (CR:Addr) (d:Nat):Sp:=fun vs H Q _=>∃(rd:Addr) (z:List Nat) (g:Nat) (t:Tm) (r:List Nat) (wi:Nat),vs=[.ref rd,zL wi]/\gA CR H rd z g/\z.length<=9000/\z.drop g=txt t++r/\NoD r/\ht t<=d/\wi+d<=12/\jL t/\∀(v':V) (H':Hp),Kp rd H H'->gA CR H' rd z (g+(txt t).length)->jQ N H' t v'->Q v' H'
def aAf (N:Cn) (CR:Addr) (d:Nat):Sp:=fun vs H Q _=>∃(rd:Addr) (z:List Nat) (g:Nat) (t a:Tm) (x y r:List Nat) (wi:Nat),vs=[.ref rd,zL wi]/\gA CR H rd z g/\z.length<=9000/\spl t=some (a,x,y)/\z.drop g=txt t++r/\ht t<=d+1/\wi+d+1<=12/\jL t/\∀(v':V) (H':Hp),Kp rd H H'->gA CR H' rd z (g+(txt t).length)->jQ N H' t v'->Q v' H'
structure aDn (P:Program) (w:World) (K:PySem.W.Frag) (mg:Str->Option Value) (base:Heap) (N:Cn):Prop where
 num:Mkr P w K mg base N.num "Number" ["self","value"] (aSq K "value")
 take:Mkr P w K mg base N.take "Take" ["self","back","steps"] (aB7 K "back" "steps")
 rest:Mkr P w K mg base N.rest "Rest" ["self","one","by"] (aB7 K "one" "by")
 cho:Mkr P w K mg base N.cho "Chosen" ["self","test","one","other"] (aSc K "test" "one" "other")
 bin:∀k,Mkr P w K mg base (N.bin k) (bnm k) ["self","one","other"] (aB7 K "one" "other")
 c1:Cf K N.num ["value"]
 c2:Cf K N.take ["back","steps"]
 c3:Cf K N.rest ["one","by"]
 c4:Cf K N.cho ["test","one","other"]
 c5:∀k,Cf K (N.bin k) ["one","other"]
section
variable {P:Program} {w:World} {K:PySem.W.Frag} {mg:Str->Option Value} {base:Heap} {CR:Addr} {N:Cn}
theorem aQo:aM ["word","one","other"] ["word","one","other"] (aC aJh):=⟨rfl,rfl,rfl,by decide+kernel,rfl,by decide+kernel,by decide+kernel⟩
theorem aIw {f:Addr} {fd:FuncData} (F:Fun K "pair_by" "pair_by" aJh f fd) (M:aDn P w K mg base N):bB P w K mg base CX0 3 f fd ["word","one","other"] (xX N):=by
 refine F.ok aQo (fun vs H Q E h=>?_) (fun cdv A outer s H vs Q E hr h=>?_)
 ·obtain⟨k,a,b,va,vb,rfl,_⟩:=h
  rfl
 ·obtain⟨k,a,b,va,vb,rfl,ta,tb,q⟩:=h
  have R_bin:=M.bin
  refine⟨_,(aD (dX (bV mV (pv 0) bK (cR _)) (aP (bU (rD (R_bin 0) (hr.mono (by omega)) rfl bF (aL (pv 1) (aL (pv 2) aX))))) bQ) (aD (dX (bV mV (pv 0) bK (cR _)) (aP (bU (rD (R_bin 1) (hr.mono (by omega)) rfl bF (aL (pv 1) (aL (pv 2) aX))))) bQ) (aD (dX (bV mV (pv 0) bK (cR _)) (aP (bU (rD (R_bin 2) (hr.mono (by omega)) rfl bF (aL (pv 1) (aL (pv 2) aX))))) bQ) (aD (dX (bV mV (pv 0) bK (cR _)) (aP (bU (rD (R_bin 3) (hr.mono (by omega)) rfl bF (aL (pv 1) (aL (pv 2) aX))))) bQ) (aP (bU (rD (R_bin 4) (hr.mono (by omega)) rfl bF (aL (pv 1) (aL (pv 2) aX))))))))),?_⟩
  match k,q with
  |0,q=>
   refine⟨_,rfl,rfl,_,rfl,jN (decide_eq_true rfl) ?_⟩
   exact⟨_,rfl,_,rfl,pJ (M.c5 0) ta tb (dW.refl H) q⟩
  |1,q=>
   refine⟨_,rfl,rfl,_,rfl,eQ sF ?_⟩
   refine⟨_,rfl,rfl,_,rfl,jN (decide_eq_true rfl) ?_⟩
   exact⟨_,rfl,_,rfl,pJ (M.c5 1) ta tb (dW.refl H) q⟩
  |2,q=>
   refine⟨_,rfl,rfl,_,rfl,eQ sF ?_⟩
   refine⟨_,rfl,rfl,_,rfl,eQ sF ?_⟩
   refine⟨_,rfl,rfl,_,rfl,jN (decide_eq_true rfl) ?_⟩
   exact⟨_,rfl,_,rfl,pJ (M.c5 2) ta tb (dW.refl H) q⟩
  |3,q=>
   refine⟨_,rfl,rfl,_,rfl,eQ sF ?_⟩
   refine⟨_,rfl,rfl,_,rfl,eQ sF ?_⟩
   refine⟨_,rfl,rfl,_,rfl,eQ sF ?_⟩
   refine⟨_,rfl,rfl,_,rfl,jN (decide_eq_true rfl) ?_⟩
   exact⟨_,rfl,_,rfl,pJ (M.c5 3) ta tb (dW.refl H) q⟩
  |4,q=>
   refine⟨_,rfl,rfl,_,rfl,eQ sF ?_⟩
   refine⟨_,rfl,rfl,_,rfl,eQ sF ?_⟩
   refine⟨_,rfl,rfl,_,rfl,eQ sF ?_⟩
   refine⟨_,rfl,rfl,_,rfl,eQ sF ?_⟩
   exact⟨_,rfl,_,rfl,pJ (M.c5 4) ta tb (dW.refl H) q⟩
theorem yI:aM ["self","one","word","within","other"] ["self","one","word","within"] (aC qJ):=⟨rfl,rfl,rfl,by decide+kernel,rfl,by decide+kernel,by decide+kernel⟩
theorem aIn {f:Addr} {fd:FuncData} {d:Nat} (F:Fun K "read_behind" "TermReader.read_behind" qJ f fd) (n:aC6 N CR) (M:aDn P w K mg base N) (D_pass_by:DR P w K mg base 2 CR "pass_by" ["self","signs"] (pR CR)) (D_read_figures:DR P w K mg base 3 CR "read_figures" ["self"] (aCd CR)) (D_read_part:DR P w K mg base (3*d+3) CR "read_part" ["self","within"] (zE N CR d)) (c_pairBy:Cal P w K mg base CX0 3 "pair_by" ["word","one","other"] (xX N)):bB P w K mg base CX0 (3*d+4) f fd ["self","one","word","within"] (aDa N CR d):=by
 refine F.ok yI (fun vs H Q E h=>?_) (fun cdv A outer s H vs Q E hr h=>?_)
 ·obtain⟨rd,z,g,t,a,x,y,r,va,wi,rfl,_⟩:=h
  rfl
 ·obtain⟨rd,z,g,t,a,x,y,r,va,wi,rfl,R,zl,sp,hz,ta,hd,hw,ok,q⟩:=h
  have R_rest:=M.rest
  have R_cho:=M.cho
  obtain⟨dx,hp⟩:=id R
  refine⟨_,(aD (dX (bV mV (pv 2) bK (cR _)) (aP (bU (rD R_rest (hr.mono (by omega)) rfl bF (aL (pv 1) (aL (bH (pv 0) D_read_figures (hr.mono (by omega)) bF) aX))))) bQ) (aD (fX (i:=4) yI.nd rfl (Or.inl rfl) (bY (pv 0) D_read_part (hr.mono (by omega)) bF (aL (pv 3) aX))) (aD (dX (bV mV (pv 2) bK (cR _)) (aD (cL (bY (pv 0) D_pass_by (hr.mono (by omega)) bF (aL bK aX))) (aP (bU (rD R_cho (hr.mono (by omega)) rfl bF (aL (pv 1) (aL (pv 4) (aL (bY (pv 0) D_read_part (hr.mono (by omega)) bF (aL (pv 3) aX)) aX))))))) bQ) (aP (bU (aRn c_pairBy (hr.mono (by omega)) rfl bF (aL (pv 2) (aL (pv 1) (aL (pv 4) aX))))))))),?_⟩
  cases t with
  |num _=>cases sp
  |take _ _=>cases sp
  |rest t1 yy=>
   cases sp
   refine⟨_,rfl,rfl,_,rfl,jN (decide_eq_true (congrArg V.str (bL [114,101,115,116] rfl).symm)) ?_⟩
   have y1:=ok.1.1
   have y2:=ok.1.2.1
   obtain⟨m,rfl⟩:∃m:Nat,yy=(m:Int):=⟨yy.toNat,by omega⟩
   rw [wA]at hz q
   refine⟨_,rfl,_,rfl,rd,CR,dx,_,rfl,hp,rfl,rfl,rd,z,g,m,_,rfl,R,zl,hz,kY rfl,by omega,fun H1 k1 R1=>?_⟩
   obtain⟨p1,d1,f1,rfl,h1,g1⟩:=ta.kp n R k1
   refine fun x dx nx nd ne=>⟨x,N.rest,dx,.ref p1,_,rfl,aJ,M.c3,rfl,?_⟩
   have sN:dW H1 (upd (upd (upd (upd H1 dx (.own x)) x (.ins N.rest dx [])) x (.ins N.rest dx [("one",.ref p1)])) x (.ins N.rest dx [("one",.ref p1),("by",.int (m:Int))])):=jC nx (aFw nx nd)
   exact q _ _ (k1.same sN) (R1.same sN) ⟨x,dx,_,rfl,aJ,p1,d1,f1,rfl,sN _ _ h1,g1.same sN⟩
  |cho t1 t2 t3=>
   cases sp
   have h2':ht t2+1<=ht (.cho a t2 t3):=Nat.succ_le_of_lt (yO (by simp [kids]))
   have h3':ht t3+1<=ht (.cho a t2 t3):=Nat.succ_le_of_lt (yO (by simp [kids]))
   have o2:jL t2:=ok.kid (t:= .cho a t2 t3) (by simp [kids])
   have o3:jL t3:=ok.kid (t:= .cho a t2 t3) (by simp [kids])
   refine⟨_,rfl,rfl,_,rfl,eQ (decide_eq_false fun e=>by have:=iR ((V.str.inj e).trans (bL [114,101,115,116] rfl));cases this) ?_⟩
   have hz0:z.drop g=txt t2++(32::(58::(32::(txt t3++41::r)))):=by rw [hz];simp
   refine⟨_,rfl,rd,CR,dx,_,rfl,hp,rfl,rfl,_,rfl,rd,z,g,t2,_,wi,rfl,R,zl,hz0,kY rfl,by omega,hw,o2,fun v2 H2 k2 R2 u2=>?_⟩
   have hz1:z.drop (g+(txt t2).length)=[32,58,32]++(txt t3++41::r):=bZ hz0
   have hz2:=bZ hz1
   obtain⟨dx2,hp2⟩:=id R2
   refine⟨_,rfl,rfl,_,rfl,jN (decide_eq_true (congrArg V.str (bL [63] rfl).symm)) ?_⟩
   refine⟨_,rfl,rd,CR,dx2,_,rfl,hp2,rfl,rfl,rd,z,[32,58,32],_,_,yZ rfl,R2,zl,by decide,hz1,fun H3 k3 R3=>?_⟩
   obtain⟨dx3,hp3⟩:=id R3
   refine⟨_,rfl,_,rfl,_,rfl,rd,CR,dx3,_,rfl,hp3,rfl,rfl,_,rfl,rd,z,_,t3,_,wi,rfl,R3,zl,hz2,kY rfl,by omega,hw,o3,fun v3 H4 k4 R4 u3=>?_⟩
   obtain⟨p1,d1,f1,rfl,h1,g1⟩:=((ta.kp n R k2).kp n R2 k3).kp n R3 k4
   obtain⟨p2,d2,f2,rfl,h2,g2⟩:=(u2.kp n R2 k3).kp n R3 k4
   obtain⟨p3,d3,f3,rfl,h3,g3⟩:=u3
   refine fun x dx nx nd ne=>⟨x,N.cho,dx,.ref p1,.ref p2,.ref p3,rfl,aJ,M.c4,rfl,?_⟩
   have sN:dW H4 (upd (upd (upd (upd (upd H4 dx (.own x)) x (.ins N.cho dx [])) x (.ins N.cho dx [("test",.ref p1)])) x (.ins N.cho dx [("test",.ref p1),("one",.ref p2)])) x (.ins N.cho dx [("test",.ref p1),("one",.ref p2),("other",.ref p3)])):=jC nx (jC nx (aFw nx nd))
   refine q _ _ (((k2.trans k3).trans k4).same sN) ?_ ⟨x,dx,_,rfl,aJ,p1,d1,f1,p2,d2,f2,p3,d3,f3,rfl,⟨sN _ _ h1,g1.same sN⟩,⟨sN _ _ h2,g2.same sN⟩,sN _ _ h3,g3.same sN⟩
   have e2:g+(txt t2++(([32,58,32]:List Nat)++txt t3)).length=g+(txt t2).length+([32,58,32]:List Nat).length+(txt t3).length:=by simp only [List.length_append];omega
   rw [e2]
   exact R4.same sN
  |bin k t1 t2=>
   cases sp
   have h2':ht t2+1<=ht (.bin k a t2):=Nat.succ_le_of_lt (yO (by simp [kids]))
   have o2:jL t2:=ok.kid (t:= .bin k a t2) (by simp [kids])
   obtain⟨_,n1,n2⟩:=aJ4 k
   refine⟨_,rfl,rfl,_,rfl,eQ (decide_eq_false fun e=>n1 (iR ((V.str.inj e).trans (bL [114,101,115,116] rfl)))) ?_⟩
   refine⟨_,rfl,rd,CR,dx,_,rfl,hp,rfl,rfl,_,rfl,rd,z,g,t2,_,wi,rfl,R,zl,hz,kY rfl,by omega,hw,o2,fun v2 H2 k2 R2 u2=>?_⟩
   refine⟨_,rfl,rfl,_,rfl,eQ (decide_eq_false fun e=>n2 (iR ((V.str.inj e).trans (bL [63] rfl)))) ?_⟩
   refine⟨_,rfl,_,rfl,_,rfl,k,a,t2,va,v2,congrArg (fun s=>[V.str s,va,v2]) (aEg (opn k)).symm,ta.kp n R k2,u2,fun v' H' s' u'=>?_⟩
   exact q v' H' (k2.same s') (R2.same s') u'
theorem qH:aM ["self","within","one","word","term"] ["self","within"] (aC tE):=⟨rfl,rfl,rfl,by decide+kernel,rfl,by decide+kernel,by decide+kernel⟩
theorem aJg {f:Addr} {fd:FuncData} {d:Nat} (F:Fun K "read_bracket" "TermReader.read_bracket" tE f fd) (n:aC6 N CR) (D_pass_by:DR P w K mg base 2 CR "pass_by" ["self","signs"] (pR CR)) (D_read_word:DR P w K mg base 3 CR "read_word" ["self"] (aFg CR)) (D_read_part:DR P w K mg base (3*d+3) CR "read_part" ["self","within"] (zE N CR d)) (D_read_behind:DR P w K mg base (3*d+4) CR "read_behind" ["self","one","word","within"] (aDa N CR d)) (T:Txt K mg):bB P w K mg base CX0 (3*d+5) f fd ["self","within"] (aAf N CR d):=by
 refine F.ok qH (fun vs H Q E h=>?_) (fun cdv A outer s H vs Q E hr h=>?_)
 ·obtain⟨rd,z,g,t,a,x,y,r,wi,rfl,_⟩:=h
  rfl
 ·obtain⟨rd,z,g,t,a,x,y,r,wi,rfl,R,zl,sp,hz,hd,hw,ok,q⟩:=h
  obtain⟨dx,hp⟩:=id R
  obtain⟨_,g_MOST_WITHIN⟩:=T.mwi
  have tt:=aGs sp
  obtain⟨xw,ak⟩:=aQ2 sp
  have ha:=yO ak
  have oa:=ok.kid ak
  refine⟨_,(aD (dX (bV mV (pv 1) (aCi rfl g_MOST_WITHIN) (cR _)) (aP dB) bQ) (aD (cL (bY (pv 0) D_pass_by (hr.mono (by omega)) bF (aL bK aX))) (aD (fX (i:=2) qH.nd rfl (Or.inl rfl) (bY (pv 0) D_read_part (hr.mono (by omega)) bF (aL (oV sH (pv 1) dF) aX))) (aD (cL (bY (pv 0) D_pass_by (hr.mono (by omega)) bF (aL bK aX))) (aD (fX (i:=3) qH.nd rfl (Or.inl rfl) (bH (pv 0) D_read_word (hr.mono (by omega)) bF)) (aD (cL (bY (pv 0) D_pass_by (hr.mono (by omega)) bF (aL bK aX))) (aD (fX (i:=4) qH.nd rfl (Or.inl rfl) (bY (pv 0) D_read_behind (hr.mono (by omega)) bF (aL (pv 2) (aL (pv 3) (aL (oV sH (pv 1) dF) aX))))) (aD (cL (bY (pv 0) D_pass_by (hr.mono (by omega)) bF (aL bK aX))) (aP (bU (pv 4))))))))))),?_⟩
  refine⟨_,rfl,rfl,_,rfl,eQ (decide_eq_false fun e=>by have:(wi:Int)=12:=V.int.inj e;omega) ?_⟩
  have z0:z.drop g=[40]++(txt a++(32::(x++(32::(y++41::r))))):=by rw [hz,tt];simp
  refine⟨_,rfl,rd,CR,dx,_,rfl,hp,rfl,rfl,rd,z,[40],g,_,yZ rfl,R,zl,by decide,z0,fun H1 k1 R1=>?_⟩
  have z1:=bZ z0
  obtain⟨dx1,hp1⟩:=id R1
  refine⟨_,rfl,rd,CR,dx1,_,rfl,hp1,rfl,rfl,_,rfl,_,_,rfl,rfl,rd,z,_,a,_,wi+1,rfl,R1,zl,z1,kY rfl,by omega,by omega,oa,fun va H2 k2 R2 u2=>?_⟩
  have z2:z.drop (g+ [40].length+(txt a).length)=[32]++(x++(32::(y++41::r))):=bZ z1
  obtain⟨dx2,hp2⟩:=id R2
  refine⟨_,rfl,rd,CR,dx2,_,rfl,hp2,rfl,rfl,rd,z,[32],_,_,yZ rfl,R2,zl,by decide,z2,fun H3 k3 R3=>?_⟩
  have z3:=bZ z2
  obtain⟨dx3,hp3⟩:=id R3
  refine⟨_,rfl,rd,CR,dx3,_,rfl,hp3,rfl,rfl,rd,z,_,x,_,rfl,R3,zl,xw,z3,fun H4 k4 R4=>?_⟩
  have z4:=bZ z3
  have z4:z.drop (g+ [40].length+(txt a).length+ [32].length+x.length)=[32]++(y++41::r):=z4
  obtain⟨dx4,hp4⟩:=id R4
  refine⟨_,rfl,rd,CR,dx4,_,rfl,hp4,rfl,rfl,rd,z,[32],_,_,yZ rfl,R4,zl,by decide,z4,fun H5 k5 R5=>?_⟩
  have z5:=bZ z4
  obtain⟨dx5,hp5⟩:=id R5
  have u5:=((u2.kp n R2 k3).kp n R3 k4).kp n R4 k5
  refine⟨_,rfl,rd,CR,dx5,_,rfl,hp5,rfl,rfl,_,rfl,_,rfl,_,rfl,_,_,rfl,rfl,rd,z,_,t,a,x,y,r,va,wi+1,rfl,R5,zl,sp,z5,u5,hd,by omega,ok,fun v' H6 k6 R6 u6=>?_⟩
  have z6:z.drop (g+ [40].length+(txt a).length+ [32].length+x.length+ [32].length+y.length)=[41]++r:=bZ z5
  obtain⟨dx6,hp6⟩:=id R6
  refine⟨_,rfl,rd,CR,dx6,_,rfl,hp6,rfl,rfl,rd,z,[41],_,_,yZ rfl,R6,zl,by decide,z6,fun H7 k7 R7=>?_⟩
  refine⟨_,rfl,?_⟩
  refine q v' H7 ((((((k1.trans k2).trans k3).trans k4).trans k5).trans k6).trans k7) ?_ (u6.kp n R6 k7)
  have e:g+(txt t).length=g+([40]:List Nat).length+(txt a).length+([32]:List Nat).length+x.length+([32]:List Nat).length+y.length+([41]:List Nat).length:=by
   rw [tt]
   simp only [List.length_cons,List.length_append,List.length_nil]
   omega
  rw [e]
  exact R7
theorem aJz:aM ["self","within"] ["self","within"] (aC wR):=⟨rfl,rfl,rfl,by decide+kernel,rfl,by decide+kernel,by decide+kernel⟩
theorem aMv {f:Addr} {fd:FuncData} {d:Nat} (F:Fun K "read_part" "TermReader.read_part" wR f fd) (M:aDn P w K mg base N) (D_ahead:DR P w K mg base 1 CR "ahead" ["self"] (jW CR)) (D_read_number:DR P w K mg base 4 CR "read_number" ["self"] (aCf CR)) (D_read_take:DR P w K mg base 5 CR "read_take" ["self"] (aBs N CR)) (D_read_bracket:DR P w K mg base (3*d+5) CR "read_bracket" ["self","within"] (aAf N CR d)):bB P w K mg base CX0 (3*d+6) f fd ["self","within"] (zE N CR (d+1)):=by
 refine F.ok aJz (fun vs H Q E h=>?_) (fun cdv A outer s H vs Q E hr h=>?_)
 ·obtain⟨rd,z,g,t,r,wi,rfl,_⟩:=h
  rfl
 ·obtain⟨rd,z,g,t,r,wi,rfl,R,zl,hz,nd,hd,hw,ok,q⟩:=h
  obtain⟨dx,hp⟩:=id R
  have R_num:=M.num
  refine⟨_,(aD (dX (bV mV (bH (pv 0) D_ahead (hr.mono (by omega)) bF) bK (cR _)) (aP (bU (bY (pv 0) D_read_bracket (hr.mono (by omega)) bF (aL (pv 1) aX)))) bQ) (aD (dX (bV mV (bH (pv 0) D_ahead (hr.mono (by omega)) bF) bK (cR _)) (aP (bU (bH (pv 0) D_read_take (hr.mono (by omega)) bF))) bQ) (aP (bU (rD R_num (hr.mono (by omega)) rfl bF (aL (bH (pv 0) D_read_number (hr.mono (by omega)) bF) aX)))))),?_⟩
  refine⟨_,rfl,rd,CR,dx,_,rfl,hp,rfl,rfl,rd,z,g,rfl,R,zl,rfl,_,rfl,?_⟩
  cases hs:spl t with
  |some w3=>
   obtain⟨a,x,y⟩:=w3
   rw [take1 (c:=40) (r:=txt a++(32::(x++(32::(y++41::r))))) (by rw [hz,aGs hs];simp)]
   refine jN (decide_eq_true (congrArg V.str (bL [40] rfl).symm)) ?_
   exact⟨_,rfl,rd,CR,dx,_,rfl,hp,rfl,rfl,_,rfl,rd,z,g,t,a,x,y,r,wi,rfl,R,zl,hs,hz,hd,hw,ok,fun v' H1 k1 R1 u1=>q v' H1 k1 R1 u1⟩
  |none=>
   cases t with
   |rest _ _=>cases hs
   |cho _ _ _=>cases hs
   |bin _ _ _=>cases hs
   |take b ss=>
    obtain⟨g1,l1,l3⟩:=ok.2 (b,ss) List.mem_cons_self
    rw [take1 (c:=91) (r:=itx b++(tl ss++93::r)) (by rw [hz,zH];simp)]
    refine eQ (decide_eq_false fun x=>by have:=iR ((V.str.inj x).trans (bL [40] rfl));injection this with h1;omega) ?_
    refine⟨_,rfl,rd,CR,dx,_,rfl,hp,rfl,rfl,rd,z,g,rfl,R,zl,rfl,_,rfl,?_⟩
    rw [take1 (c:=91) (r:=itx b++(tl ss++93::r)) (by rw [hz,zH];simp)]
    refine jN (decide_eq_true (congrArg V.str (bL [91] rfl).symm)) ?_
    exact⟨_,rfl,rd,CR,dx,_,rfl,hp,rfl,rfl,rd,z,g,b,ss,r,rfl,R,zl,hz,g1,l1,l3,fun v' H1 k1 R1 u1=>q v' H1 k1 R1 u1⟩
   |num m=>
    have h1:=ok.1
    have hz:z.drop g=itx m++r:=hz
    obtain⟨ch,rs,ec,hc⟩:∃c rs,itx m=c::rs/\c≠40/\c≠91:=by
     cases m with
     |ofNat k=>
      rw [show Int.ofNat k=(k:Int)from rfl,wA]
      rcases Nat.eq_zero_or_pos k with h0|h0
      ·exact⟨48,[],by rw [h0,wI],by omega,by omega⟩
      ·obtain⟨c,r,e,h1,h2⟩:=tD k h0
       exact⟨c,r,e,by omega,by omega⟩
     |negSucc k=>exact⟨45,_,aCk k,by omega,by omega⟩
    rw [take1 (c:=ch) (r:=rs++r) (by rw [hz,ec];rfl)]
    refine eQ (decide_eq_false fun x=>by have:=iR ((V.str.inj x).trans (bL [40] rfl));injection this with h1;exact hc.1 h1) ?_
    refine⟨_,rfl,rd,CR,dx,_,rfl,hp,rfl,rfl,rd,z,g,rfl,R,zl,rfl,_,rfl,?_⟩
    rw [take1 (c:=ch) (r:=rs++r) (by rw [hz,ec];rfl)]
    refine eQ (decide_eq_false fun x=>by have:=iR ((V.str.inj x).trans (bL [91] rfl));injection this with h1;exact hc.2 h1) ?_
    refine⟨_,rfl,rd,CR,dx,_,rfl,hp,rfl,rfl,rd,z,g,m,r,rfl,R,zl,hz,nd,by simp only [Wf]at h1;omega,fun H1 k1 R1=>?_⟩
    refine fun x dx nx nd ne=>⟨x,N.num,dx,.int m,rfl,aJ,M.c1,rfl,?_⟩
    exact q _ _ (k1.same (aFw nx nd)) (R1.same (aFw nx nd)) ⟨x,dx,_,rfl,aJ,rfl⟩
end
end KR
namespace KR
open PySem PyProof.Rows L2
def aPj (K:PySem.W.Frag):Sp:=fun vs H Q _=>∃(p C dx:Addr) (x:V),vs=[.ref p,x]/\H p=some (.ins C dx [])/\Cf K C FR/\Q .non (upd (upd H p (.ins C dx [("text",x)])) p (.ins C dx [("text",x),("gone",zL 0)]))
def aAb (N:Cn):Sp:=fun vs H Q _=>∃t:Tm,vs=[.str (tx (txt t))]/\ht t<=8/\jL t/\cV t<=40/\∀(v':V) (H':Hp),dW H H'->jQ N H' t v'->Q v' H'
section
variable {P:Program} {w:World} {K:PySem.W.Frag} {mg:Str->Option Value} {base:Heap} {CR:Addr} {N:Cn}
theorem aJk:aM ["self","text"] ["self","text"] (aC aCs):=⟨rfl,rfl,rfl,by decide+kernel,rfl,by decide+kernel,by decide+kernel⟩
theorem aHt {f:Addr} {fd:FuncData} (F:Fun K "__init__" "TermReader.__init__" aCs f fd):bB P w K mg base CX0 1 f fd ["self","text"] (aPj K):=by
 refine F.ok aJk (fun vs H Q E h=>?_) (fun cdv A outer s H vs Q E hr h=>?_)
 ·obtain⟨p,C,dx,x,rfl,_⟩:=h
  rfl
 ·obtain⟨p,C,dx,x,rfl,hp,c,q⟩:=h
  refine⟨_,(aD (cW (pv 0) (pv 1) rfl) (aP (cW (pv 0) dF rfl))),?_⟩
  refine⟨_,rfl,_,rfl,p,C,dx,_,rfl,hp,c.cl,c.na _ (by simp),by decide,?_⟩
  exact⟨_,rfl,p,C,dx,_,rfl,aJ,c.cl,c.na _ (by simp),by show(1:Nat)<1000;decide,q⟩
theorem uT:aM ["text","reader","term"] ["text"] (aC xW):=⟨rfl,rfl,rfl,by decide+kernel,rfl,by decide+kernel,by decide+kernel⟩
theorem aF2 {f:Addr} {fd:FuncData} (F:Fun K "read_written" "read_written" xW f fd) (R_rd:Mkr P w K mg base CR "TermReader" ["self","text"] (aPj K)) (c:Cf K CR FR) (n:aC6 N CR) (D_read_part:DR P w K mg base 27 CR "read_part" ["self","within"] (zE N CR 8)) (T:Txt K mg):bB P w K mg base CX0 28 f fd ["text"] (aAb N):=by
 refine F.ok uT (fun vs H Q E h=>?_) (fun cdv A outer s H vs Q E hr h=>?_)
 ·obtain⟨t,rfl,_⟩:=h
  rfl
 ·obtain⟨t,rfl,hd,ok,pr,q⟩:=h
  have tl:=lU ok
  refine⟨_,(aD (dX (aBi (xU (gW vO rfl T.isinstance boot_isinstance (aL (pv 0) (aL (aRo rfl T.str boot_str) aX))))) (aP dB) bQ) (aD (fX (i:=1) uT.nd rfl (Or.inl rfl) (rD R_rd (hr.mono (by omega)) rfl bF (aL (pv 0) aX))) (aD (fX (i:=2) uT.nd rfl (Or.inl rfl) (bY (pv 1) D_read_part (hr.mono (by omega)) bF (aL dF aX))) (aD (dX (bV aHd (lC (pv 1) rfl) (gW aCm (by rfl) T.len PySem.boot_len (aL (pv 0) aX)) (cR _)) (aP dB) bQ) (aP (bU (pv 2))))))),?_⟩
  refine⟨_,rfl,_,"str",_,true,rfl,.str _,rfl,_,rfl,?_⟩
  refine pL ?_
  refine⟨_,rfl,fun x dx nx nd ne=>⟨x,CR,dx,_,rfl,aJ,c,rfl,?_⟩⟩
  have sN:dW H (upd (upd (upd (upd H dx (.own x)) x (.ins CR dx [])) x (.ins CR dx [("text",.str (tx (txt t)))])) x (.ins CR dx [("text",.str (tx (txt t))),("gone",zL 0)])):=jC nx (aFw nx nd)
  revert sN
  generalize eH:upd (upd (upd (upd H dx (.own x)) x (.ins CR dx [])) x (.ins CR dx [("text",.str (tx (txt t)))])) x (.ins CR dx [("text",.str (tx (txt t))),("gone",zL 0)])=H1
  intro sN
  have hp1:H1 x=some (.ins CR dx [("text",.str (tx (txt t))),("gone",zL 0)]):=by rw [<-eH];exact aJ
  refine⟨_,rfl,x,CR,dx,_,rfl,hp1,rfl,rfl,x,txt t,0,t,[],0,rfl,⟨dx,hp1⟩,by omega,by simp,(fun _ _ e=>by cases e),hd,by omega,ok,fun v' H2 k2 R2 u2=>?_⟩
  obtain⟨dx2,hp2⟩:=id R2
  have s02:dW H H2:=fun b o e=>k2 b o (sN b o e) fun z=>by rw [z,nx]at e;cases e
  refine⟨_,rfl,x,CR,dx2,_,_,rfl,hp2,c.cl,c.na _ (by simp),rfl,_,rfl,_,rfl,aG5 (by rw [fQ];omega),?_⟩
  refine⟨rfl,_,rfl,?_⟩
  rw [fQ,Nat.zero_add]
  refine aK4 rfl ?_
  exact⟨_,rfl,q v' H2 s02 u2⟩
end
end KR
namespace Q
open PySem PyProof.Rows L2 KR
def enc (N:Cn):Tm->U
 | .num n=> .ob N.num ["value"] [.n n]
 | .take b ss=> .ob N.take ["back","steps"] [.n b,.tp (ss.map U.n)]
 | .rest t y=> .ob N.rest ["one","by"] [enc N t,.n y]
 | .cho a b c=> .ob N.cho ["test","one","other"] [enc N a,enc N b,enc N c]
 | .bin k a b=> .ob (N.bin k) ["one","other"] [enc N a,enc N b]
theorem aAz {W B:Addr->Prop} {H:Hp} {p:Addr} {o:HO} (e:EB W B H) (h:H p=some o) (n:∀xs,o≠ .lst xs):¬B p:=fun z=>by
 obtain⟨xs,q⟩:=e.bl p z
 rw [h]at q
 cases q
 exact n xs rfl
theorem rN {W B:Addr->Prop} {H:Hp} {N:Cn} (e:EB W B H):∀{t:Tm} {p dx:Addr} {fs:List (Str×V)},H p=some (.ins (cls N t) dx fs)->jE N H fs t->DU W B H (enc N t) (.ref p)
 | .num n,p,dx,fs,h,hf=>by
  obtain rfl:=hf
  exact⟨p,dx,[.int n],rfl,aAz e h nofun,h,rfl,_,_,rfl,⟨rfl,rfl⟩,rfl⟩
 | .take b ss,p,dx,fs,h,hf=>by
  obtain⟨q,rfl,hq⟩:=hf
  exact⟨p,dx,[.int b,.ref q],rfl,aAz e h nofun,h,rfl,_,_,rfl,⟨rfl,rfl⟩,_,_,rfl,⟨q,_,rfl,aAz e hq nofun,hq,DUs.mapInts⟩,rfl⟩
 | .rest t y,p,dx,fs,h,hf=>by
  obtain⟨q,dq,gs,rfl,hq,f⟩:=hf
  exact⟨p,dx,[.ref q,.int y],rfl,aAz e h nofun,h,rfl,_,_,rfl,rN e hq f,_,_,rfl,⟨rfl,rfl⟩,rfl⟩
 | .cho a b c,p,dx,fs,h,hf=>by
  obtain⟨q1,d1,g1,q2,d2,g2,q3,d3,g3,rfl,⟨h1,f1⟩,⟨h2,f2⟩,h3,f3⟩:=hf
  exact⟨p,dx,[.ref q1,.ref q2,.ref q3],rfl,aAz e h nofun,h,rfl,_,_,rfl,rN e h1 f1,_,_,rfl,rN e h2 f2,_,_,rfl,rN e h3 f3,rfl⟩
 | .bin k a b,p,dx,fs,h,hf=>by
  obtain⟨q1,d1,g1,q2,d2,g2,rfl,⟨h1,f1⟩,h2,f2⟩:=hf
  exact⟨p,dx,[.ref q1,.ref q2],rfl,aAz e h nofun,h,rfl,_,_,rfl,rN e h1 f1,_,_,rfl,rN e h2 f2,rfl⟩
theorem aQc {W B:Addr->Prop} {H:Hp} {N:Cn} {t:Tm} {v:V} (e:EB W B H) (h:jQ N H t v):DU W B H (enc N t) v:=by
 obtain⟨p,dx,fs,rfl,h1,h2⟩:=h
 exact rN e h1 h2
theorem dZ {N:Cn} {m:Str} {F:Addr->Fv} {G:TVa} {ρ:EV} {R:Sl->Prop} (t:Tm) (h1:(["value","back","steps","one","by","test","other"]:List Str).elem m=false) (h:G ρ fun vs=>F (cls N t) (enc N t::vs) R):mOb (IsC N) m F G ρ R (enc N t):=by
 have hc:=isC N t
 have k:∀ns:List Str,(∀x∈ns,x∈(["value","back","steps","one","by","test","other"]:List Str))->ns.elem m=false:=fun ns hn=>by
  cases q:ns.elem m with
  |false=>rfl
  |true=>
   have:=hn m (List.elem_iff.mp q)
   rw [List.elem_iff.mpr this]at h1
   cases h1
 cases t with
 |num n=>exact⟨hc,k _ (by simp),h⟩
 |take b ss=>exact⟨hc,k _ (by simp),h⟩
 |rest t y=>exact⟨hc,k _ (by simp),h⟩
 |cho a b c=>exact⟨hc,k _ (by simp),h⟩
 |bin j a b=>exact⟨hc,k _ (by simp),h⟩
def gY (N:Cn) (C:Addr):Fv:=fun us R=>∃t,us=[enc N t]/\cls N t=C/\R (.ow ((kids t).map (enc N)))
section
variable {P:Program} {w:World} {K:PySem.W.Frag} {mg:Str->Option Value} {base:Heap} {f C:Addr} {fd:FuncData} {N:Cn}
theorem zN:aM ["self"] ["self"] (aC jU):=⟨rfl,rfl,rfl,by decide+kernel,rfl,by decide+kernel,by decide+kernel⟩
theorem aAc (F:Fun K "inner" "Term.inner" jU f fd) (hC:∀t,cls N t=C->kids t=[]):bB P w K mg base CX0 1 f fd ["self"] (spV (gY N C)):=by
 refine vfn F zN (fun cdv A outer s H E hr=>(aK (aZ (cD aG)))) ?_
 rintro _ R ⟨t,rfl,e,q⟩
 rw [hC t e]at q
 exact⟨rfl,q⟩
theorem vX:aM ["self"] ["self"] (aC iG):=⟨rfl,rfl,rfl,by decide+kernel,rfl,by decide+kernel,by decide+kernel⟩
theorem aIv {k:Fin 5} (F:Fun K "inner" "Paired.inner" iG f fd) (cP:Cfl K (N.bin k) ["one","other"]) (hC:∀t,cls N t=N.bin k->∃a b,t= .bin k a b):bB P w K mg base CX0 1 f fd ["self"] (spV (gY N (N.bin k))):=by
 refine vfn F vX (fun cdv A outer s H E hr=>(aK (aZ (cD (aA (eF cP (aB 0)) (aA (eF cP (aB 0)) aG)))))) ?_
 rintro _ R ⟨t,rfl,e,q⟩
 obtain⟨a,b,rfl⟩:=hC t e
 exact⟨rfl,rfl,.inl ⟨rfl,rfl,.inr ⟨by decide+kernel,.inl ⟨rfl,q⟩⟩⟩⟩
theorem zR:aM ["self"] ["self"] (aC jX):=⟨rfl,rfl,rfl,by decide+kernel,rfl,by decide+kernel,by decide+kernel⟩
theorem aIs (F:Fun K "inner" "Rest.inner" jX f fd) (cP:Cfl K N.rest ["one","by"]) (hC:∀t,cls N t=N.rest->∃a y,t= .rest a y):bB P w K mg base CX0 1 f fd ["self"] (spV (gY N N.rest)):=by
 refine vfn F zR (fun cdv A outer s H E hr=>(aK (aZ (cD (aA (eF cP (aB 0)) aG))))) ?_
 rintro _ R ⟨t,rfl,e,q⟩
 obtain⟨a,b,rfl⟩:=hC t e
 exact⟨rfl,rfl,.inl ⟨rfl,q⟩⟩
theorem vV:aM ["self"] ["self"] (aC gU):=⟨rfl,rfl,rfl,by decide+kernel,rfl,by decide+kernel,by decide+kernel⟩
theorem aIf (F:Fun K "inner" "Chosen.inner" gU f fd) (cP:Cfl K N.cho ["test","one","other"]) (hC:∀t,cls N t=N.cho->∃a b c,t= .cho a b c):bB P w K mg base CX0 1 f fd ["self"] (spV (gY N N.cho)):=by
 refine vfn F vV (fun cdv A outer s H E hr=>(aK (aZ (cD (aA (eF cP (aB 0)) (aA (eF cP (aB 0)) (aA (eF cP (aB 0)) aG))))))) ?_
 rintro _ R ⟨t,rfl,e,q⟩
 obtain⟨a,b,c,rfl⟩:=hC t e
 exact⟨rfl,rfl,.inl ⟨rfl,rfl,.inr ⟨by decide+kernel,.inl ⟨rfl,rfl,.inr ⟨by decide+kernel,.inr ⟨by decide+kernel,.inl ⟨rfl,q⟩⟩⟩⟩⟩⟩⟩
end
end Q
namespace Q
open PySem PyProof.Rows L2 KR
theorem aA3 {l:List Tk} (h:l.Pairwise fun x y=>nG x y=true):l.Nodup:=h.imp fun{x y} h z=>by
 subst z
 rw [aAg h]at h
 cases h
def Few (t:Tm):Prop:=∃ks:List Tk,ks.length<18/\∀x∈raw t,x∈ks
theorem wQ {t:Tm} {l:List Tk} (f:Few t) (h:oY t l):l.length<=17:=by
 obtain⟨ks,kl,km⟩:=f
 have:=(aA3 h.1).length_le_of_subset (l₂:=ks) fun x hx=>km x ((h.2 x).mp hx)
 omega
theorem aKz:∀{t:Tm},(∀b ss,t≠ .take b ss)->∀x,x∈raw t↔ ∃k∈kids t,x∈raw k
 | .num _,_,x=>by simp [raw,kids]
 | .take b ss,h,x=>(h b ss rfl).elim
 | .rest t _,_,x=>by simp [raw,kids]
 | .cho a b c,_,x=>by simp [raw,kids]
 | .bin _ a b,_,x=>by simp [raw,kids]
theorem wX (t:Tm) {d:Nat} (h:ht t<=d+1):∀k∈kids t,ht k<=d:=fun k hk=>by have:=yO hk;omega
def mY (N:Cn) (d:Nat) (C:Addr):Fv:=fun us R=>∃t,us=[enc N t]/\cls N t=C/\ht t<=d/\Few t/\∀ys,oY t ys->R (.ow (ys.map tkU))
abbrev jG (P:Program) (w:World) (K:PySem.W.Frag) (mg:Str->Option Value) (base:Heap) (N:Cn) (k:Nat) (m:Str) (F:Addr->Fv):Prop:=Dis P w K mg base CX0 k (IsC N) m ["self"] fun C=>spV (F C)
section
variable {P:Program} {w:World} {K:PySem.W.Frag} {mg:Str->Option Value} {base:Heap} {f C:Addr} {fd:FuncData} {N:Cn} {d:Nat}
theorem lZ:aM ["self","pairs","part"] ["self"] (aC jR):=⟨rfl,rfl,rfl,by decide+kernel,rfl,by decide+kernel,by decide+kernel⟩
theorem aHy (F:Fun K "takes" "Term.takes" jR f fd) (hC:∀t,cls N t=C->∀b ss,t≠ .take b ss) (D_inner:jG P w K mg base N 1 "inner" (gY N)) (D_takes:jG P w K mg base N (d+1) "takes" (mY N d)) (T:Txt mg):bB P w K mg base CX0 (d+2) f fd ["self"] (spV (mY N (d+1) C)):=by
 refine vfn F lZ (fun cdv A outer s H E hr=>(aH (cA (i:=1) lZ.nd (cD aG)) (aH (nZ PassesOwn.never rfl (cU (bT (aB 0) D_inner (hr.mono (by omega)))) (lN (i:=2) lZ.nd) (aK (aQ8 1 (bT (aB 2) D_takes (hr.mono (by omega)))))) (aK (aZ (aGm hr rfl T.sorted T.set (aN (aB 1) aV))))))) ?_
 rintro _ R ⟨t,rfl,e,hd,fw,q⟩
 refine⟨rfl,dZ t (by decide+kernel) ⟨t,rfl,rfl,?_⟩⟩
 refine gG (fun l ρ=>∃(ks js:List Tm) (ps:List Tk) (x:Sl),l=ks.map (enc N)/\js++ks=kids t/\ρ=[.sh (enc N t),.ow (ps.map tkU),x]/\ps.length<=17*js.length/\∀y,y∈ps↔ ∃k∈js,y∈raw k) ?_ ?_ ⟨kids t,[],[],_,rfl,rfl,rfl,Nat.le_refl _,by simp⟩
 ·rintro ρ ⟨ks,js,ps,x,el,ej,rfl,pl,pm⟩
  obtain rfl:=List.map_eq_nil_iff.mp el.symm
  rw [List.append_nil]at ej
  subst ej
  have kl:=wW t
  obtain⟨zs,zl,zm⟩:=fw
  have rk:=aKz (hC t e)
  exact⟨ps,zs,rfl,by omega,zl,fun y hy=>zm y ((rk y).mpr ((pm y).mp hy)),fun ys pw ym=>q ys ⟨pw,fun y=>(ym y).trans ((pm y).trans (rk y).symm)⟩⟩
 ·rintro u r ρ ⟨ks,js,ps,x,el,ej,rfl,pl,pm⟩ ih
  obtain⟨k,ks,rfl,rfl,rfl⟩:=List.map_eq_cons_iff.mp el.symm
  have hk:k∈kids t:=by rw [<-ej];simp
  have fk:Few k:=let⟨zs,zl,zm⟩:=fw;⟨zs,zl,fun y hy=>zm y (aGz hk y hy)⟩
  refine dZ k (by decide+kernel) ⟨k,rfl,rfl,wX t hd k hk,fk,fun ys ik=>?_⟩
  have yl:=wQ fk ik
  have kl:=wW t
  have jl:js.length+(ks.length+1)<=3:=by rw [<-ej,List.length_append,List.length_cons]at kl;exact kl
  refine⟨by rw [List.length_map,List.length_map];omega,ih _ ⟨ks,js++[k],ps++ys,_,rfl,by rw [List.append_assoc];exact ej,by rw [List.map_append];rfl,by rw [List.length_append,List.length_append];show _<=17*(js.length+1);omega,fun y=>?_⟩⟩
  rw [List.mem_append,pm y,ik.2 y]
  constructor
  ·rintro(⟨j,hj,hy⟩|hy)
   ·exact⟨j,List.mem_append_left _ hj,hy⟩
   ·exact⟨k,by simp,hy⟩
  ·rintro⟨j,hj,hy⟩
   rcases List.mem_append.mp hj with hj|hj
   ·exact .inl ⟨j,hj,hy⟩
   ·rw [List.mem_singleton.mp hj]at hy
    exact .inr hy
theorem zU:aM ["self"] ["self"] (aC jT):=⟨rfl,rfl,rfl,by decide+kernel,rfl,by decide+kernel,by decide+kernel⟩
theorem aH7 (F:Fun K "takes" "Take.takes" jT f fd) (cK:Cfl K N.take ["back","steps"]) (hC:∀t,cls N t=N.take->∃b ss,t= .take b ss):bB P w K mg base CX0 (d+2) f fd ["self"] (spV (mY N (d+1) N.take)):=by
 refine vfn F zU (fun cdv A outer s H E hr=>(aK (aZ (cD (aA (lE (aA (eF cK (aB 0)) (aA (eF cK (aB 0)) aG))) aG))))) ?_
 rintro _ R ⟨t,rfl,e,hd,fw,q⟩
 obtain⟨b,ss,rfl⟩:=hC t e
 exact⟨rfl,rfl,.inl ⟨rfl,rfl,.inr ⟨by decide+kernel,.inl ⟨rfl,q [(b,ss)] ⟨List.pairwise_singleton ..,fun _=>Iff.rfl⟩⟩⟩⟩⟩
def aCz (N:Cn) (g:Tm->Nat) (d:Nat) (C:Addr):Fv:=fun us R=>∃t,us=[enc N t]/\cls N t=C/\ht t<=d/\cV t<=200/\R (.sh (.n (g t)))
theorem yE:∀{t k:Tm},k∈kids t->cV k<=cV t
 | .rest t _,k,h=>by rw [List.mem_singleton.mp h,cV];omega
 | .cho a b c,k,h=>by
  simp only [kids,List.mem_cons,List.not_mem_nil,or_false]at h
  rw [cV]
  rcases h with rfl|rfl|rfl<;>omega
 | .bin _ a b,k,h=>by
  simp only [kids,List.mem_cons,List.not_mem_nil,or_false]at h
  rw [cV]
  rcases h with rfl|rfl<;>omega
theorem aKk (t:Tm):∀m:Int,(kids t=[]/\m=0)∨(m∈(kids t).map (fun k=>(ht k:Int))/\∀a∈(kids t).map (fun k=>(ht k:Int)),a<=m)->1+m=(ht t:Int):=by
 intro m h
 cases t with
 |num n=>rcases h with ⟨_,h⟩|⟨h,_⟩<;>simp [kids,ht]at h⊢;omega
 |take b ss=>rcases h with ⟨_,h⟩|⟨h,_⟩<;>simp [kids,ht]at h⊢;omega
 |rest t y=>rcases h with ⟨h,_⟩|⟨h,_⟩<;>simp [kids,ht]at h⊢;omega
 |cho a b c=>rcases h with ⟨h,_⟩|⟨h,g⟩<;>simp [kids,ht]at h⊢;simp [kids]at g;omega
 |bin k a b=>rcases h with ⟨h,_⟩|⟨h,g⟩<;>simp [kids,ht]at h⊢;simp [kids]at g;omega
theorem aMi (t:Tm):1+((kids t).map (fun k=>(cV k:Int))).sum=(cV t:Int):=by
 cases t<;>simp [kids,cV]<;>omega
theorem ints_map {g:Tm->Nat} (ks:List Tm):ks.map (fun k=>U.n (g k))=(ks.map fun k=>(g k:Int)).map U.n:=by rw [List.map_map];rfl
theorem aDg {g:Tm->Nat} {t:Tm} {h:U->(Option U->Prop)->Prop} {R:List U->Prop} (hf:∀k∈kids t,∀c:Option U->Prop,c (some (.n (g k)))->h (enc N k) c) (q:R (((kids t).map fun k=>(g k:Int)).map U.n)):eO h ((kids t).map (enc N)) [] R:=by
 rw [<-ints_map]at q
 revert hf q
 generalize kids t=ks
 have key:∀(ks:List Tm) (acc:List U),(∀k∈ks,∀c:Option U->Prop,c (some (.n (g k)))->h (enc N k) c)->R (acc++ks.map fun k=>U.n (g k))->eO h (ks.map (enc N)) acc R:=by
  intro ks
  induction ks with
  |nil=>exact fun acc _ q=>by rw [List.map_nil,List.append_nil]at q;exact q
  |cons k ks ih=>exact fun acc hf q=>hf k List.mem_cons_self _ (ih _ (fun j hj=>hf j (List.mem_cons_of_mem _ hj)) (by rw [List.append_assoc];exact q))
 exact fun hf q=>key ks [] hf q
abbrev aCr:List Str:=["self"]
theorem zY:aM ["self"] ["self"] (aC iB):=⟨rfl,rfl,rfl,by decide+kernel,rfl,by decide+kernel,by decide+kernel⟩
theorem aHk (F:Fun K "depth" "Term.depth" iB f fd) (D_inner:jG P w K mg base N 1 "inner" (gY N)) (D_depth:jG P w K mg base N (d+1) "depth" (aCz N ht d)) (T:Txt mg):bB P w K mg base CX0 (d+2) f fd ["self"] (spV (aCz N ht (d+1) C)):=by
 refine vfn F zY (fun cdv A outer s H E hr=>(aK (aZ (aY bA bN aF (aBa rfl T.max (aN (kI (own:=["part"]) (cap:=[]) (aC iB) aCr rfl rfl (fun x h=>bM h) (by decide+kernel) rfl (vic (cU (bT (aB 0) D_inner (hr.mono (by omega))))) (fun cl C s2 H2 fp=>(bJ (i:=0) (show(["part"]:List Str).Nodup by decide+kernel) rfl (Or.inl rfl) (Or.inr rfl))) (cH (by decide)) (fun cl C s2 H2 fp=>(bT (aB 0) D_depth (hr.mono (by omega))))) aV) aF))))) ?_
 rintro _ R ⟨t,rfl,e,hd,hp,q⟩
 refine⟨rfl,dZ t (by decide+kernel) ⟨t,rfl,rfl,?_⟩⟩
 refine⟨by have:=wW t;rw [List.length_map];omega,aDg (g:=ht) (fun k hk c hc=>dZ k (by decide+kernel) ⟨k,rfl,rfl,wX t hd k hk,by have:=yE hk;omega,hc⟩) ?_⟩
 refine⟨_,rfl,fun h=>?_,fun m hm ha=>?_⟩
 ·have:=aKk t 0 (.inl ⟨List.map_eq_nil_iff.mp h,rfl⟩)
  rw [<-this]at q
  exact q
 ·have:=aKk t m (.inr ⟨hm,ha⟩)
  rw [<-this]at q
  exact q
abbrev aCt:List Str:=["self"]
theorem zO:aM ["self"] ["self"] (aC iJ):=⟨rfl,rfl,rfl,by decide+kernel,rfl,by decide+kernel,by decide+kernel⟩
theorem aH1 (F:Fun K "parts" "Term.parts" iJ f fd) (D_inner:jG P w K mg base N 1 "inner" (gY N)) (D_parts:jG P w K mg base N (d+1) "parts" (aCz N cV d)) (T:Txt mg):bB P w K mg base CX0 (d+2) f fd ["self"] (spV (aCz N cV (d+1) C)):=by
 refine vfn F zO (fun cdv A outer s H E hr=>(aK (aZ (aY bA bN aF (bD (aJ5 rfl) aPb T.sum boot_sum (aN (kI (own:=["part"]) (cap:=[]) (aC iJ) aCt rfl rfl (fun x h=>bM h) (by decide+kernel) rfl (vic (cU (bT (aB 0) D_inner (hr.mono (by omega))))) (fun cl C s2 H2 fp=>(bJ (i:=0) (show(["part"]:List Str).Nodup by decide+kernel) rfl (Or.inl rfl) (Or.inr rfl))) (cH (by decide)) (fun cl C s2 H2 fp=>(bT (aB 0) D_parts (hr.mono (by omega))))) aV)))))) ?_
 rintro _ R ⟨t,rfl,e,hd,hp,q⟩
 have kl:=wW t
 refine⟨rfl,dZ t (by decide+kernel) ⟨t,rfl,rfl,?_⟩⟩
 refine⟨by rw [List.length_map];omega,aDg (g:=cV) (fun k hk c hc=>dZ k (by decide+kernel) ⟨k,rfl,rfl,wX t hd k hk,by have:=yE hk;omega,hc⟩) ?_⟩
 refine⟨_,rfl,by rw [List.length_map];omega,fun n hn=>?_,?_⟩
 ·obtain⟨k,hk,rfl⟩:=List.mem_map.mp hn
  have:=yE hk
  omega
 ·have:=aMi t
  rw [<-this]at q
  exact q
end
end Q
namespace Q
open PySem PyProof.Rows L2 KR
section
variable {P:Program} {w:World} {K:PySem.W.Frag} {mg:Str->Option Value} {base:Heap} {f C:Addr} {fd:FuncData} {N:Cn} {d:Nat}
def aFn:Fv:=fun us R=>∃ss:List Int,us=[.tp (ss.map U.n)]/\1<=ss.length/\ss.length<=3/\(∀s∈ss, -9<=s/\s<=9)/\R (.sh (.b true))
abbrev aEd:List Str:=["thing"]
theorem aB6:aM ["thing"] ["thing"] (aC lJ):=⟨rfl,rfl,rfl,by decide+kernel,rfl,by decide+kernel,by decide+kernel⟩
theorem aLr (F:Fun K "are_steps" "are_steps" lJ f fd) (c_is_within:Cal P w K mg base CX0 2 "is_within" PW3 (spV jA)) (T:Txt mg):bB P w K mg base CX0 3 f fd ["thing"] (spV aFn):=by
 obtain⟨_,g_MOST_STEPS_terms⟩:=T.c_MOST_STEPS_terms
 obtain⟨_,g_GREATEST_STEP⟩:=T.c_GREATEST_STEP
 refine vfn F aB6 (fun cdv A outer s H E hr=>(aH (fO (sS (rJ (gO (fV (nO .tp nofun T.isinstance T.tuple boot_tuple (aB 0)))) (oG (gO (aDb aAx aAx dO dO aF (bD aR cZ T.len boot_len (aN (aB 0) aV)) (cY g_MOST_STEPS_terms)))))) (aK (aZ zJ)) cB) (aK (aZ (bD yK (aF7 rfl) T.all boot_all (aN (kI (own:=["step"]) (cap:=[]) (aC lJ) aEd rfl rfl (fun x h=>bM h) (by decide+kernel) rfl (vic (aJc (aB 0))) (fun cl C s2 H2 fp=>(bJ (i:=0) (show(["step"]:List Str).Nodup by decide+kernel) rfl (Or.inl rfl) (Or.inr rfl))) (cH (by decide)) (fun cl C s2 H2 fp=>(aO c_is_within (hr.mono (by omega)) rfl (aA (aB 0) (aA (aL3 (cY g_GREATEST_STEP)) (aA (cY g_GREATEST_STEP) aG)))))) aV)))))) ?_
 rintro _ R ⟨ss,rfl,l1,l3,hs,q⟩
 have e1:(ss.map U.n).length=ss.length:=List.length_map ..
 refine⟨rfl,_,rfl,nofun,fun _=>⟨fun _=>⟨fun h=>?_,fun _=>?_⟩,fun h=>?_⟩⟩
 ·simp at h;omega
 ·refine⟨by omega,iI (h:=fun _=> .b true) (fun u hu k hk=>?_) ?_⟩
  ·obtain⟨s,hs',rfl⟩:=List.mem_map.mp hu
   have:=hs s hs'
   refine⟨_,_,_,_,rfl,rfl,?_⟩
   show k (some (.b (isIn (.n s) (-9) 9)))
   rw [show isIn (.n s) (-9) 9=true by simp [isIn,this.1,this.2]]
   exact hk
  ·refine⟨ss.map fun _=>true,by rw [List.map_map,List.map_map];rfl,?_⟩
   exact Rbl q (by simp)
 ·simp at h;omega
def pP (N:Cn) (C:Addr):Fv:=fun us R=>∃t,us=[enc N t]/\cls N t=C/\jL t/\R (.sh .no)
theorem sW:aM ["self"] ["self"] (aC fL):=⟨rfl,rfl,rfl,by decide+kernel,rfl,by decide+kernel,by decide+kernel⟩
theorem aAr (F:Fun K "own_fault" "Term.own_fault" fL f fd):bB P w K mg base CX0 4 f fd ["self"] (spV (pP N C)):=by
 refine bB.mono (vfn F sW (fun cdv A outer s H E (hr:eY 0 _)=>(aK (aZ rR))) ?_) (by decide)
 rintro _ R ⟨t,rfl,e,ok,q⟩
 exact⟨rfl,q⟩
theorem qU:aM ["self"] ["self"] (aC dI):=⟨rfl,rfl,rfl,by decide+kernel,rfl,by decide+kernel,by decide+kernel⟩
theorem aIt (F:Fun K "own_fault" "Number.own_fault" dI f fd) (cN:Cfl K N.num ["value"]) (hC:∀t,cls N t=N.num->∃n,t= .num n) (c_is_within:Cal P w K mg base CX0 2 "is_within" PW3 (spV jA)) (T:Txt mg):bB P w K mg base CX0 4 f fd ["self"] (spV (pP N N.num)):=by
 obtain⟨_,g_GREATEST_NUMBER⟩:=T.c_GREATEST_NUMBER
 refine vfn F qU (fun cdv A outer s H E hr=>(aH (fO (fV (aO c_is_within (hr.mono (by omega)) rfl (aA (eF cN (aB 0)) (aA (aL3 (cY g_GREATEST_NUMBER)) (aA (cY g_GREATEST_NUMBER) aG))))) (aK (aZ rR)) cB) (aK (aZ cF)))) ?_
 rintro _ R ⟨t,rfl,e,ok,q⟩
 obtain⟨n,rfl⟩:=hC t e
 have h:=ok.1
 simp only [Wf]at h
 refine⟨rfl,rfl,.inl ⟨rfl,_,_,_,_,rfl,rfl,fun _=>q,fun z=>?_⟩⟩
 simp [isIn,h.1,h.2]at z
theorem tY:aM ["self"] ["self"] (aC fD):=⟨rfl,rfl,rfl,by decide+kernel,rfl,by decide+kernel,by decide+kernel⟩
theorem aIg (F:Fun K "own_fault" "Take.own_fault" fD f fd) (cK:Cfl K N.take ["back","steps"]) (hC:∀t,cls N t=N.take->∃b ss,t= .take b ss) (c_is_within:Cal P w K mg base CX0 2 "is_within" PW3 (spV jA)) (c_are_steps:Cal P w K mg base CX0 3 "are_steps" ["thing"] (spV aFn)) (T:Txt mg):bB P w K mg base CX0 4 f fd ["self"] (spV (pP N N.take)):=by
 obtain⟨_,g_GREATEST_BACK⟩:=T.c_GREATEST_BACK
 refine vfn F tY (fun cdv A outer s H E hr=>(aH (fO (gO (fV (aO c_is_within (hr.mono (by omega)) rfl (aA (eF cK (aB 0)) (aA aF (aA (cY g_GREATEST_BACK) aG)))))) (aK (aZ cF)) cB) (aH (fO (gO (fV (aO c_are_steps (hr.mono (by omega)) rfl (aA (eF cK (aB 0)) aG)))) (aK (aZ cF)) cB) (aK (aZ rR))))) ?_
 rintro _ R ⟨t,rfl,e,ok,q⟩
 obtain⟨b,ss,rfl⟩:=hC t e
 obtain⟨⟨h1,h2,h3⟩,h4,h5⟩:=ok.2 (b,ss) List.mem_cons_self
 refine⟨rfl,rfl,.inl ⟨rfl,_,_,_,_,rfl,rfl,fun z=>?_,fun _=>?_⟩⟩
 ·simp only at h1 h2
  simp [isIn,h1,h2]at z
 ·exact⟨rfl,.inr ⟨by decide+kernel,.inl ⟨rfl,ss,rfl,h4,h5,h3,nofun,fun _=>q⟩⟩⟩
theorem tK:aM ["self"] ["self"] (aC fK):=⟨rfl,rfl,rfl,by decide+kernel,rfl,by decide+kernel,by decide+kernel⟩
theorem aH4 (F:Fun K "own_fault" "Rest.own_fault" fK f fd) (cP:Cfl K N.rest ["one","by"]) (hC:∀t,cls N t=N.rest->∃a y,t= .rest a y) (c_is_within:Cal P w K mg base CX0 2 "is_within" PW3 (spV jA)) (T:Txt mg):bB P w K mg base CX0 4 f fd ["self"] (spV (pP N N.rest)):=by
 obtain⟨_,g_GREATEST_DIVISOR⟩:=T.c_GREATEST_DIVISOR
 refine vfn F tK (fun cdv A outer s H E hr=>(aH (fO (fV (aO c_is_within (hr.mono (by omega)) rfl (aA (eF cP (aB 0)) (aA aF (aA (cY g_GREATEST_DIVISOR) aG))))) (aK (aZ rR)) cB) (aK (aZ cF)))) ?_
 rintro _ R ⟨t,rfl,e,ok,q⟩
 obtain⟨a,y,rfl⟩:=hC t e
 have h:=ok.1
 simp only [Wf]at h
 refine⟨rfl,rfl,.inr ⟨by decide+kernel,.inl ⟨rfl,_,_,_,_,rfl,rfl,fun _=>q,fun z=>?_⟩⟩⟩
 simp [isIn,h.1,h.2.1]at z
def fFF (N:Cn) (d:Nat):Fv:=fun us R=>∃t,us=[enc N t]/\ht t<=d/\jL t/\R (.sh .no)
theorem kJ:aM ["term","part","fault"] ["term"] (aC iZ):=⟨rfl,rfl,rfl,by decide+kernel,rfl,by decide+kernel,by decide+kernel⟩
theorem aS3 (F:Fun K "first_fault" "first_fault" iZ f fd) (c_first_fault:Cal P w K mg base CX0 (d+4) "first_fault" ["term"] (spV (fFF N d))) (D_inner:jG P w K mg base N 1 "inner" (gY N)) (D_own_fault:jG P w K mg base N 4 "own_fault" (pP N)):bB P w K mg base CX0 (d+5) f fd ["term"] (spV (fFF N (d+1))):=by
 refine vfn F kJ (fun cdv A outer s H E hr=>(aH (nZ PassesOwn.never rfl (cU (bT (aB 0) D_inner (hr.mono (by omega)))) (lN (i:=1) kJ.nd) (aH (cA (i:=2) kJ.nd (aO c_first_fault (hr.mono (by omega)) rfl (aA (aB 1) aG))) (aK (fO (aGh (aB 2)) (aK (wN 2)) cB)))) (aK (aZ (bT (aB 0) D_own_fault (hr.mono (by omega))))))) ?_
 rintro _ R ⟨t,rfl,hd,ok,q⟩
 refine⟨rfl,dZ t (by decide+kernel) ⟨t,rfl,rfl,?_⟩⟩
 refine gG (fun l ρ=>∃(ks:List Tm) (x y:Sl),l=ks.map (enc N)/\(∀k∈ks,k∈kids t)/\ρ=[.sh (enc N t),x,y]) ?_ ?_ ⟨kids t,_,_,rfl,fun _ h=>h,rfl⟩
 ·rintro ρ ⟨ks,x,y,el,hk,rfl⟩
  exact dZ t (by decide+kernel) ⟨t,rfl,rfl,ok,q⟩
 ·rintro u r ρ ⟨ks,x,y,el,hk,rfl⟩ ih
  obtain⟨k,ks,rfl,rfl,rfl⟩:=List.map_eq_cons_iff.mp el.symm
  have kk:=hk k List.mem_cons_self
  exact⟨k,rfl,wX t hd k kk,ok.kid kk,nofun,fun _=>ih _ ⟨ks,_,_,rfl,fun j hj=>hk j (List.mem_cons_of_mem _ hj),rfl⟩⟩
def Ln (t:Tm) (n:Nat):Prop:=(n=1∨n=2∨n=3)/\(∀x∈raw t,x.2.length=n)/\∃ks:List Tk,ks.length<=6/\∀x∈raw t,x∈ks
theorem Ln.few {t:Tm} {n:Nat} (h:Ln t n):Few t:=let⟨ks,l,m⟩:=h.2.2;⟨ks,by omega,m⟩
def yH (N:Cn) (d:Nat):Fv:=fun us R=>∃t n,us=[enc N t]/\ht t<=d/\Ln t n/\∀s,s= .sh .no∨s= .sh (.n (n:Nat))->R s
abbrev aFu:List Str:=["term","counts"]
theorem vL:aM ["term","counts"] ["term"] (aC oN):=⟨rfl,rfl,rfl,by decide+kernel,rfl,by decide+kernel,by decide+kernel⟩
theorem aE2 (F:Fun K "lines_of" "lines_of" oN f fd) (D_takes:jG P w K mg base N (d+1) "takes" (mY N d)) (T:Txt mg):bB P w K mg base CX0 (d+3) f fd ["term"] (spV (yH N d)):=by
 refine vfn F vL (fun cdv A outer s H E hr=>(aH (cA (i:=1) vL.nd (aKp rfl T.sorted T.set (aN (kI (own:=["take"]) (cap:=[]) (aC oN) aFu rfl rfl (fun x h=>bM h) (by decide+kernel) rfl (vic (cU (bT (aB 0) D_takes (hr.mono (by omega))))) (fun cl C s2 H2 fp=>(bJ (i:=0) (show(["take"]:List Str).Nodup by decide+kernel) rfl (Or.inl rfl) (Or.inr rfl))) (cH (by decide)) (fun cl C s2 H2 fp=>(bD aR cZ T.len boot_len (aN (dG cC dH (aB 0) aF) aV)))) aV))) (aH (fO (dC rB dO (bD aR cZ T.len boot_len (aN (aB 1) aV)) aF) (aK lA) cB) (aH (fO (dC (uZ (huD hr)) pH (bD aR cZ T.len boot_len (aN (aB 1) aV)) aF) (aK (aZ rR)) cB) (aK (aZ (dG cC dH (aB 1) aF))))))) ?_
 rintro _ R ⟨t,n,rfl,hd,ln,q⟩
 refine⟨rfl,dZ t (by decide+kernel) ⟨t,rfl,rfl,hd,ln.few,fun ys ik=>?_⟩⟩
 have yl:=wQ ln.few ik
 refine⟨by rw [List.length_map];omega,iI (h:=fun _=> .n (n:Nat)) (fun u hu k hk=>?_) ?_⟩
 ·obtain⟨y,hy,rfl⟩:=List.mem_map.mp hu
  have e:=ln.2.1 y ((ik.2 y).mp hy)
  refine⟨_,rfl,?_⟩
  show k (some (.n ((y.2.map U.n).length:Nat)))
  rw [List.length_map,e]
  exact hk
 ·refine⟨ys.map fun _=>n,by rw [List.map_map,List.map_map];rfl,fun m hm=>?_,fun zs zsub zm=>?_⟩
  ·obtain⟨_,_,rfl⟩:=List.mem_map.mp hm
   rcases ln.1 with rfl|rfl|rfl<;>decide
  ·have hz:zs=[]∨zs=[n]:=by
    have h1:∀z∈zs,z=n:=fun z hz=>by
     obtain⟨_,_,e⟩:=List.mem_map.mp ((zm z).mp hz)
     exact e.symm
    simp only [fC,List.mem_cons,List.not_mem_nil,or_false]at zsub
    rcases zsub with rfl|rfl|rfl|rfl|rfl|rfl|rfl|rfl<;>simp at h1⊢ <;>omega
   rcases hz with rfl|rfl
   ·exact⟨nofun,fun _=>⟨trivial,trivial,fun _=>q _ (.inl rfl),nofun⟩⟩
   ·exact⟨nofun,fun _=>⟨trivial,trivial,nofun,fun _=>⟨_,rfl,q _ (.inr rfl)⟩⟩⟩
def aBu (N:Cn) (d:Nat):Fv:=fun us R=>∃t n,us=[enc N t]/\ht t<=d/\jL t/\cV t<=60/\Ln t n/\R (.sh .no)
theorem rC:aM ["term","fault"] ["term"] (aC nC):=⟨rfl,rfl,rfl,by decide+kernel,rfl,by decide+kernel,by decide+kernel⟩
theorem aHs (F:Fun K "check_term" "check_term" nC f fd) (d12:d<=12) (c_first_fault:Cal P w K mg base CX0 (d+4) "first_fault" ["term"] (spV (fFF N d))) (c_lines_of:Cal P w K mg base CX0 (d+3) "lines_of" ["term"] (spV (yH N d))) (D_takes:jG P w K mg base N (d+1) "takes" (mY N d)) (D_depth:jG P w K mg base N (d+1) "depth" (aCz N ht d)) (D_parts:jG P w K mg base N (d+1) "parts" (aCz N cV d)) (T:Txt mg):bB P w K mg base CX0 (d+5) f fd ["term"] (spV (aBu N d)):=by
 obtain⟨_,g_MOST_DEPTH⟩:=T.c_MOST_DEPTH
 obtain⟨_,g_MOST_PARTS⟩:=T.c_MOST_PARTS
 obtain⟨_,g_MOST_TAKES⟩:=T.c_MOST_TAKES
 refine vfn F rC (fun cdv A outer s H E hr=>(aH (cA (i:=1) rC.nd (aO c_first_fault (hr.mono (by omega)) rfl (aA (aB 0) aG))) (aH (fO (aGh (aB 1)) (aK lA) cB) (aH (aOr (aO c_lines_of (hr.mono (by omega)) rfl (aA (aB 0) aG))) (aH (fO (dC rB dO (bT (aB 0) D_depth (hr.mono (by omega))) (cY g_MOST_DEPTH)) (aK lA) cB) (aH (fO (dC rB dO (bT (aB 0) D_parts (hr.mono (by omega))) (cY g_MOST_PARTS)) (aK lA) cB) (aK (fO (dC rB dO (bD aR cZ T.len boot_len (aN (bT (aB 0) D_takes (hr.mono (by omega))) aV)) (cY g_MOST_TAKES)) (aK lA) cB)))))))) ?_
 rintro _ R ⟨t,n,rfl,hd,ok,hp,ln,q⟩
 refine⟨rfl,t,rfl,hd,ok,nofun,fun _=>?_⟩
 refine⟨t,n,rfl,hd,ln,fun _ _=>?_⟩
 refine dZ t (by decide+kernel) ⟨t,rfl,rfl,hd,by omega,fun z=>?_,fun _=>?_⟩
 ·have:=of_decide_eq_true z
  omega
 refine dZ t (by decide+kernel) ⟨t,rfl,rfl,hd,by omega,fun z=>?_,fun _=>?_⟩
 ·have:=of_decide_eq_true z
  omega
 refine dZ t (by decide+kernel) ⟨t,rfl,rfl,hd,ln.few,fun ys ik=>⟨fun z=>?_,fun _=>q⟩⟩
 have:=of_decide_eq_true z
 obtain⟨ks,kl,km⟩:=ln.2.2
 have h2:=(aA3 ik.1).length_le_of_subset (l₂:=ks) fun x hx=>km x ((ik.2 x).mp hx)
 rw [List.length_map]at this
 omega
def aDm (N:Cn):Fv:=fun us R=>∃t,us=[.s (tx (txt t))]/\ht t<=8/\jL t/\cV t<=40/\R (.sh (enc N t))
theorem aHj {k:Nat} {ps:List Str} (h:bB P w K mg base CX0 k f fd ps (aAb N)):bB P w K mg base CX0 k f fd ps (spV (aDm N)):=h.imp fun vs H Q E ⟨W,B,us,R,eb,d,⟨t,eu,h1,h2,h3,hR⟩,q⟩=>by
 subst eu
 obtain⟨x,r,rfl,dx,dr⟩:=d
 obtain rfl:r=[]:=dr
 rw [dx.1]
 exact⟨t,rfl,h1,h2,h3,fun v' H' s tr=>q _ _ _ hR (eb.same s) (aQc (eb.to (eb.same s)) tr)⟩
def aK6 (N:Cn):Fv:=fun us R=>∃t n,us=[.s (tx (txt t))]/\ht t<=8/\jL t/\cV t<=40/\Ln t n/\R (.sh (enc N t))
theorem uC:aM ["text","term"] ["text"] (aC oZ):=⟨rfl,rfl,rfl,by decide+kernel,rfl,by decide+kernel,by decide+kernel⟩
theorem aJ3 {k:Nat} (F:Fun K "read_term" "read_term" oZ f fd) (c_read_written:Cal P w K mg base CX0 (k+13) "read_written" ["text"] (spV (aDm N))) (c_check_term:Cal P w K mg base CX0 13 "check_term" ["term"] (spV (aBu N 8))):bB P w K mg base CX0 (k+14) f fd ["text"] (spV (aK6 N)):=by
 refine vfn F uC (fun cdv A outer s H E hr=>(aH (cA (i:=1) uC.nd (aO c_read_written (hr.mono (by omega)) rfl (aA (aB 0) aG))) (aH (aOr (aO c_check_term (hr.mono (by omega)) rfl (aA (aB 1) aG))) (aK (wN 1))))) ?_
 rintro _ R ⟨t,n,rfl,hd,ok,hp,ln,q⟩
 exact⟨rfl,t,rfl,hd,ok,hp,t,n,rfl,hd,ok,by omega,ln,q⟩
end
end Q
namespace Q
open PySem PyProof.Rows L2 KR
section
variable {P:Program} {w:World} {K:PySem.W.Frag} {mg:Str->Option Value} {base:Heap} {f C:Addr} {fd:FuncData} {N:Cn} {d:Nat}
def GoodR (n:Int) (m:Int) (l:List Int):Prop:=(l.length:Int)=n/\l.length<=40/\∀x∈l,0<=x/\x<m
def aLh:Fv:=fun us R=>∃(l:List Int) (n m:Int),us=[.ls (l.map U.n),.n n,.n m]/\GoodR n m l/\R (.sh (.b true))
abbrev aLo:List Str:=["thing","many","modulus"]
theorem aIe:aM ["thing","many","modulus"] ["thing","many","modulus"] (aC sZ):=⟨rfl,rfl,rfl,by decide+kernel,rfl,by decide+kernel,by decide+kernel⟩
theorem aKm (F:Fun K "is_row" "is_row" sZ f fd) (c_is_within:Cal P w K mg base CX0 2 "is_within" PW3 (spV jA)) (T:Txt mg):bB P w K mg base CX0 3 f fd ["thing","many","modulus"] (spV aLh):=by
 refine vfn F aIe (fun cdv A outer s H E hr=>(aH (fO (sS (rJ (gO (fV (nO .ls nofun T.isinstance T.list boot_list (aB 0)))) (oG (dC (zB (huD hr)) pH (bD aR cZ T.len boot_len (aN (aB 0) aV)) (aB 1))))) (aK (aZ zJ)) cB) (aK (aZ (bD yK (aF7 rfl) T.all boot_all (aN (kI (own:=["worth"]) (cap:=[("modulus",2)]) (aC sZ) aLo rfl rfl (fun x h=>bM h) (by decide+kernel) rfl (vic (cU (aB 0))) (fun cl C s2 H2 fp=>(bJ (i:=0) (show(["worth","modulus"]:List Str).Nodup by decide+kernel) rfl (Or.inl rfl) (Or.inr rfl))) (cH (by decide)) (fun cl C s2 H2 fp=>(aO c_is_within (hr.mono (by omega)) rfl (aA (aB 0) (aA aF (aA (aY oM dO (aB 1) aF) aG)))))) aV)))))) ?_
 rintro _ R ⟨l,n,m,rfl,⟨h1,h2,h3⟩,q⟩
 refine⟨rfl,_,rfl,nofun,fun _=>⟨trivial,trivial,fun z=>?_,fun _=>?_⟩⟩
 ·simp [U.eq,U.d,D.eq,eqV,Sl.rd,h1]at z
 ·refine⟨by rw [List.length_map];omega,iI (h:=fun _=> .b true) (fun u hu k hk=>?_) ⟨l.map fun _=>true,by rw [List.map_map,List.map_map];rfl,Rbl q (by simp)⟩⟩
  obtain⟨x,hx,rfl⟩:=List.mem_map.mp hu
  have:=h3 x hx
  refine⟨_,_,_,_,rfl,rfl,?_⟩
  show k (some (.b (isIn (.n x) 0 (m-1))))
  rw [show isIn (.n x) 0 (m-1)=true by simp [isIn,this.1];omega]
  exact hk
def gC (ls:List (List Int)):List U:=ls.map fun l=> .ls (l.map U.n)
def aCy:Fv:=fun us R=>∃(ls:List (List Int)) (k n m:Int),us=[.ls (gC ls),.n k,.n n,.n m]/\(ls.length:Int)=k/\ls.length<=3/\(∀l∈ls,GoodR n m l)/\R (.sh (.b true))
abbrev aF1:List Str:=["thing","deep","many","modulus"]
theorem aD8:aM ["thing","deep","many","modulus"] ["thing","deep","many","modulus"] (aC oH):=⟨rfl,rfl,rfl,by decide+kernel,rfl,by decide+kernel,by decide+kernel⟩
theorem aFj (F:Fun K "are_rows" "are_rows" oH f fd) (c_is_row:Cal P w K mg base CX0 3 "is_row" ["thing","many","modulus"] (spV aLh)) (T:Txt mg):bB P w K mg base CX0 4 f fd ["thing","deep","many","modulus"] (spV aCy):=by
 refine vfn F aD8 (fun cdv A outer s H E hr=>(aH (fO (sS (rJ (gO (fV (nO .ls nofun T.isinstance T.list boot_list (aB 0)))) (oG (dC (zB (huD hr)) pH (bD aR cZ T.len boot_len (aN (aB 0) aV)) (aB 1))))) (aK (aZ zJ)) cB) (aK (aZ (bD yK (aF7 rfl) T.all boot_all (aN (kI (own:=["row"]) (cap:=[("many",2),("modulus",3)]) (aC oH) aF1 rfl rfl (fun x h=>bM h) (by decide+kernel) rfl (vic (cU (aB 0))) (fun cl C s2 H2 fp=>(bJ (i:=0) (show(["row","many","modulus"]:List Str).Nodup by decide+kernel) rfl (Or.inl rfl) (Or.inr rfl))) (cH (by decide)) (fun cl C s2 H2 fp=>(aO c_is_row (hr.mono (by omega)) rfl (aA (aB 0) (aA (aB 1) (aA (aB 2) aG)))))) aV)))))) ?_
 rintro _ R ⟨ls,k,n,m,rfl,h1,h2,h3,q⟩
 have e1:(gC ls).length=ls.length:=List.length_map ..
 refine⟨rfl,_,rfl,nofun,fun _=>⟨trivial,trivial,fun z=>?_,fun _=>?_⟩⟩
 ·simp [U.eq,U.d,D.eq,eqV,Sl.rd,h1,e1]at z
 ·refine⟨by omega,iI (h:=fun _=> .b true) (fun u hu k hk=>?_) ⟨ls.map fun _=>true,by unfold gC;rw [List.map_map,List.map_map];rfl,Rbl q (by simp)⟩⟩
  obtain⟨x,hx,rfl⟩:=List.mem_map.mp hu
  exact⟨x,n,m,rfl,h3 x hx,hk⟩
def dpt (ys:List Tk):Int:=if ys=[]then 1 else ys.foldl (fun m y=>max m y.1) 0
theorem aK3 {ys:List Tk} {m:Int} (hp:∀y∈ys,0<=y.1) (hm:m∈ys.map (·.1)) (ha:∀a∈ys.map (·.1),a<=m):dpt ys=m:=by
 have key:∀(l:List Tk) (a:Int),(∀y∈l,y.1<=m)->a<=m->l.foldl (fun m y=>max m y.1) a<=m/\a<=l.foldl (fun m y=>max m y.1) a/\∀y∈l,y.1<=l.foldl (fun m y=>max m y.1) a:=by
  intro l
  induction l with
  |nil=>exact fun a _ h=>⟨h,Int.le_refl _,fun _ z=>nomatch z⟩
  |cons x l ih=>
   intro a h1 h2
   have hx:=h1 x List.mem_cons_self
   obtain⟨g1,g2,g3⟩:=ih (max a x.1) (fun y hy=>h1 y (List.mem_cons_of_mem _ hy)) (by omega)
   refine⟨g1,by rw [List.foldl_cons];omega,fun y hy=>?_⟩
   rw [List.foldl_cons]
   rcases List.mem_cons.mp hy with rfl|hy
   ·omega
   ·exact g3 y hy
 obtain⟨y,hy,rfl⟩:=List.mem_map.mp hm
 have h0:=hp y hy
 obtain⟨g1,g2,g3⟩:=key ys 0 (fun z hz=>ha _ (List.mem_map.mpr ⟨z,hz,rfl⟩)) h0
 unfold dpt
 rw [if_neg (by intro z;rw [z]at hy;cases hy)]
 have:=g3 y hy
 omega
def aO1 (C:Addr):Fv:=fun us R=>∃(ys:List Tk) (ns:List Str) (ws:List U),us=[.ob C ("taken"::ns) (.ls (ys.map tkU)::ws)]/\ys.length<=17/\(∀y∈ys,0<=y.1)/\R (.sh (.n (dpt ys)))
abbrev aFi:List Str:=["self"]
theorem aEc:aM ["self"] ["self"] (aC oA):=⟨rfl,rfl,rfl,by decide+kernel,rfl,by decide+kernel,by decide+kernel⟩
theorem aN0 (F:Fun K "deep" "Job.deep" oA f fd) (cJ:Cfl K C ["taken"]) (T:Txt mg):bB P w K mg base CX0 1 f fd ["self"] (spV (aO1 C)):=by
 refine vfn F aEc (fun cdv A outer s H E hr=>(aK (aZ (aBa rfl T.max (aN (kI (own:=["take"]) (cap:=[]) (aC oA) aFi rfl rfl (fun x h=>bM h) (by decide+kernel) rfl (vic (cU (eF cJ (aB 0)))) (fun cl C s2 H2 fp=>(bJ (i:=0) (show(["take"]:List Str).Nodup by decide+kernel) rfl (Or.inl rfl) (Or.inr rfl))) (cH (by decide)) (fun cl C s2 H2 fp=>(dG cC dH (aB 0) aF))) aV) aF)))) ?_
 rintro _ R ⟨ys,ns,ws,rfl,yl,hp,q⟩
 have e:(ys.map tkU).map (fun u=>match u with| .tp (x::_)=>x|u=>u)=(ys.map (·.1)).map U.n:=by rw [List.map_map,List.map_map];rfl
 refine⟨rfl,rfl,.inl ⟨rfl,by rw [List.length_map];omega,iI (h:=fun u=>match u with| .tp (x::_)=>x|u=>u) (fun u hu k hk=>?_) ?_⟩⟩
 ·obtain⟨y,hy,rfl⟩:=List.mem_map.mp hu
  exact⟨_,rfl,hk⟩
 ·rw [List.nil_append,e]
  refine⟨_,rfl,fun z=>?_,fun m hm ha=>?_⟩
  ·have z:=List.map_eq_nil_iff.mp z
   subst z
   exact q
  ·rw [aK3 hp hm ha]at q
   exact q
end
end Q
namespace Q
open PySem PyProof.Rows L2 KR
section
variable {P:Program} {w:World} {K:PySem.W.Frag} {mg:Str->Option Value} {base:Heap} {f C:Addr} {fd:FuncData} {N:Cn} {d:Nat}
def aE1:List U->(List Str->List U->Prop)->Prop:=fun us R=>∃(ns:List Int) (rs:List Rim),us=[.ls (ns.map U.n),.ls (rs.map Rim.u)]/\aEb ns/\rs.length=ns.length/\(∀r∈rs,r.ok)/\R ["sizes","rims"] [.ls (ns.map U.n),.ls (rs.map Rim.u)]
theorem tL (ns:List Int):U.dts 5 (ns.map U.n):=by
 induction ns with
 |nil=>trivial
 |cons r rs ih=>exact⟨trivial,ih⟩
theorem aB5 (rs:List Rim):U.dts 5 (rs.map Rim.u):=by
 induction rs with
 |nil=>trivial
 |cons r rs ih=>exact⟨by cases r<;>first|exact⟨trivial,trivial⟩|exact⟨trivial,trivial,trivial⟩,ih⟩
theorem uW:aM ["self","sizes","rims"] ["self","sizes","rims"] (aC jM):=⟨rfl,rfl,rfl,by decide+kernel,rfl,by decide+kernel,by decide+kernel⟩
theorem aMl (F:Fun K "__init__" "Grid.__init__" jM f fd) (cG:Cfl K C ["sizes","rims"]) (c_check_lines:Cal P w K mg base CX0 4 "check_lines" ["sizes","rims"] (spV aLt)) (c_product:Cal P w K mg base CX0 1 "product" ["sizes"] (spV aL8)) (T:Txt mg):bB P w K mg base CX0 5 f fd ["self","sizes","rims"] (spI C aE1):=by
 obtain⟨_,g_MOST_PLACES⟩:=T.c_MOST_PLACES
 refine F.ok uW (fun vs H Q E h=>?_) (fun cdv A outer s H vs Q E hr h=>?_)
 ·obtain⟨x,dx,vs',H1,W,B,us,R,rfl,_,_,_,_,ds,⟨ns,rs,rfl,_⟩,_⟩:=h
  rw [List.length_cons, <-ds.length];rfl
 ·obtain⟨x,dx,vs',H1,W,B,us,R,rfl,n1,hx,s1,eb,ds,⟨ns,rs,rfl,g,el,rk,hR⟩,q⟩:=h
  obtain⟨v1,_,rfl,d1,v2,r,rfl,d2,dr⟩:=ds
  obtain rfl:r=[]:=dr
  have ee:∀{H'},Fw W H1 H'->EE W B H' [.no,.sh (.ls (ns.map U.n)),.sh (.ls (rs.map Rim.u))] [some (.ref x),some v1,some v2]:=fun fw=>nF (lL (DU.mono (eb.keep fw) _ d1) (lL (DU.mono (eb.keep fw) _ d2) (aJd (eb.to fw))))
  have nw:¬W x:=fun z=>eb.dm x (eb.wb x z) n1
  have nB:¬B x:=eb.nw n1
  refine⟨_,(aD (cL (VE.can (aO c_check_lines (hr.mono (by omega)) rfl (aA (aB 1) (aA (aB 2) aG))))) (aD (dX (VC.can (dC rB dO (aO c_product (hr.mono (by omega)) rfl (aA (aB 1) aG)) (cY g_MOST_PLACES))) (aP dB) bQ) (aD (cW (pv 0) (VE.can (eU (kW rfl) sV T.list boot_list (aN (aB 1) aV))) rfl) (aP (cW (pv 0) (VE.can (eU (kW rfl) sV T.list boot_list (aN (aB 2) aV))) rfl))))),?_⟩
  have f0:=eb.same s1
  refine jJ (R:=fun _=>True) (ee f0) ⟨ns,rs,rfl,g.ok,g.l1,g.l3,el,rk,trivial⟩ fun s v H2 _ w2 _=>?_
  have f2:=f0.trans w2
  refine xZ (R:=fun c=>c=false) (ee f2) ⟨ns,rfl,g.ok,g.l3,decide_eq_false (by have:=g.mn;omega)⟩ fun c H3 hc w3=>?_
  subst hc
  refine pL ?_
  have f3:=f2.trans w3
  have hx3:H3 x=some (.ins C dx []):=w3.fr _ _ nw (w2.fr _ _ nw hx)
  refine jJ (R:=fun s=>s= .ow (ns.map U.n)) (ee f3) rfl fun s v4 H4 hs w4 r4=>?_
  subst hs
  obtain⟨p4,x4,rfl,n4,h4,d4⟩:=r4
  have f4:=f3.trans w4
  have hx4:=w4.fr _ _ nw hx3
  refine⟨_,rfl,x,C,dx,_,rfl,hx4,cG.cl,cG.na _ (by simp),by decide,?_⟩
  have f5:=f4.upd (o:= .ins C dx (jD "sizes" (.ref p4) [])) n1 nw
  have hx5:upd H4 x (.ins C dx (jD "sizes" (.ref p4) [])) x=_:=aJ
  have h5:=eX (B:=B) (o:= .ins C dx (jD "sizes" (.ref p4) [])) hx4 p4 _ (fun z=>(eb.to f3).dm p4 z n4) h4 (.inr ⟨_,rfl⟩)
  have d5:=DUs.data (eX (o:= .ins C dx (jD "sizes" (.ref p4) [])) hx4) 5 _ (tL ns) d4.less
  revert f5 hx5 h5 d5
  generalize upd H4 x (.ins C dx (jD "sizes" (.ref p4) []))=H5
  intro f5 hx5 h5 d5
  refine jJ (R:=fun s=>s= .ow (rs.map Rim.u)) (ee f5) rfl fun s v6 H6 hs w6 r6=>?_
  subst hs
  obtain⟨p6,x6,rfl,n6,h6,d6⟩:=r6
  have hx6:=w6.fr _ _ nw hx5
  refine⟨_,rfl,x,C,dx,_,rfl,hx6,cG.cl,cG.na _ (by simp),by show(1:Nat)<1000;decide,?_⟩
  have e6:=eb.to (f5.trans w6)
  refine q ["sizes","rims"] _ [.ref p4,.ref p6] _ hR ((f5.trans w6).upd n1 nw) aJ rfl ⟨_,_,rfl,⟨p4,x4,rfl,(eb.to f3).nw n4,?_,?_⟩,_,_,rfl,⟨p6,x6,rfl,(eb.to f5).nw n6,?_,?_⟩,rfl⟩
  ·exact eX (B:=B) hx6 p4 _ ((eb.to f3).nw n4) (w6.fr _ _ (fun z=>(eb.to f3).nw n4 (eb.wb _ z)) h5) (.inr ⟨_,rfl⟩)
  ·exact DUs.data (eX hx6) 5 _ (tL ns) (DUs.mono ((eb.to f5).keep w6) _ d5)
  ·exact eX (B:=B) hx6 p6 _ ((eb.to f5).nw n6) h6 (.inr ⟨_,rfl⟩)
  ·exact DUs.data (eX hx6) 5 _ (aB5 rs) d6.less
def aPy (N:Cn) (CG CJ:Addr) (ns:List Int) (rs:List Rim) (t:Tm) (ys:List Tk) (m r:Int) (ls:List (List Int)):U:= .ob CJ ["taken","grid","term","modulus","rounds","first"] [.ls (ys.map tkU),grU CG ns rs,enc N t,.n m,.n r,.ls (gC ls)]
structure aJ0 (ns:List Int) (rs:List Rim) (t:Tm) (m r:Int) (ls:List (List Int)):Prop where
 gs:aEb ns
 el:rs.length=ns.length
 rk:∀x∈rs,x.ok
 hd:ht t<=8
 ok:jL t
 pr:cV t<=60
 ln:Ln t ns.length
 m2:2<=m/\m<=1000000000
 r0:0<=r/\r<=12
 rm:r*rM ns<=120
 dp:∀ys,oY t ys->(ls.length:Int)=dpt ys
 l3:ls.length<=3
 rw_:∀l∈ls,GoodR (rM ns) m l
def aFe (N:Cn) (CG:Addr):List U->(List Str->List U->Prop)->Prop:=fun us R=>∃(ns:List Int) (rs:List Rim) (t:Tm) (m r:Int) (ls:List (List Int)),us=[grU CG ns rs,enc N t,.n m,.n r,.ls (gC ls)]/\aJ0 ns rs t m r ls/\
 ∀ys,oY t ys->R ["taken","grid","term","modulus","rounds","first"] [.ls (ys.map tkU),grU CG ns rs,enc N t,.n m,.n r,.ls (gC ls)]
theorem aBf (ls:List (List Int)):U.dts 6 (gC ls):=by
 induction ls with
 |nil=>trivial
 |cons l ls ih=>exact⟨tL l,ih⟩
theorem aB9 (ys:List Tk):U.dts 7 (ys.map tkU):=by
 induction ys with
 |nil=>trivial
 |cons y ys ih=>exact⟨⟨trivial,tL y.2,trivial⟩,ih⟩
theorem aTl (i j:Int):U.eq (.n i) (.n j)=(i==j):=rfl
abbrev xH:List Str:=["self","grid","term","modulus","rounds","first"]
theorem vU:aM ["self","grid","term","modulus","rounds","first"] ["self","grid","term","modulus","rounds","first"] (aC iH):=⟨rfl,rfl,rfl,by decide+kernel,rfl,by decide+kernel,by decide+kernel⟩
theorem aLb {CG CJ:Addr} (F:Fun K "__init__" "Job.__init__" iH f fd) (cJ:Cfl K CJ ["taken","grid","term","modulus","rounds","first"]) (c_check_term:Cal P w K mg base CX0 13 "check_term" ["term"] (spV (aBu N 8))) (c_lines_of:Cal P w K mg base CX0 11 "lines_of" ["term"] (spV (yH N 8)))
  (c_is_within:Cal P w K mg base CX0 2 "is_within" PW3 (spV jA)) (c_are_rows:Cal P w K mg base CX0 4 "are_rows" ["thing","deep","many","modulus"] (spV aCy)) (D_takes:jG P w K mg base N 9 "takes" (mY N 8)) (D_lines:Dis P w K mg base CX0 1 (·=CG) "lines" ["self"] fun _=>spV (aEw CG)) (D_places_many:Dis P w K mg base CX0 2 (·=CG) "places_many" ["self"] fun _=>spV (aOu CG)) (D_deep:Dis P w K mg base CX0 1 (·=CJ) "deep" ["self"] fun _=>spV (aO1 CJ)) (T:Txt mg):bB P w K mg base CX0 14 f fd ["self","grid","term","modulus","rounds","first"] (spI CJ (aFe N CG)):=by
 obtain⟨_,g_GREATEST_MODULUS⟩:=T.c_GREATEST_MODULUS
 obtain⟨_,g_MOST_ROUNDS⟩:=T.c_MOST_ROUNDS
 obtain⟨_,g_MOST_SPOTS⟩:=T.c_MOST_SPOTS
 refine F.ok vU (fun vs H Q E h=>?_) (fun cdv A outer s H vs Q E hr h=>?_)
 ·obtain⟨x,dx,vs',H1,W,B,us,R,rfl,_,_,_,_,ds,⟨ns,rs,t,m,r,ls,rfl,_⟩,_⟩:=h
  rw [List.length_cons, <-ds.length];rfl
 ·obtain⟨x,dx,vs',H1,W,B,us,R,rfl,n1,hx,s1,eb,ds,⟨ns,rs,t,m,r,ls,rfl,g,hR⟩,q⟩:=h
  obtain⟨v1,_,rfl,d1,v2,_,rfl,d2,v3,_,rfl,d3,v4,_,rfl,d4,v5,r5,rfl,d5,dr⟩:=ds
  obtain rfl:r5=[]:=dr
  have ee:∀{H' s0},Fw W H1 H'->EE W B H' [s0,.sh (grU CG ns rs),.sh (enc N t),.sh (.n m),.sh (.n r),.sh (.ls (gC ls))] [some (.ref x),some v1,some v2,some v3,some v4,some v5]->EE W B H' [s0,.sh (grU CG ns rs),.sh (enc N t),.sh (.n m),.sh (.n r),.sh (.ls (gC ls))] [some (.ref x),some v1,some v2,some v3,some v4,some v5]:=fun _ e=>e
  have et:∀{H'},Fw W H1 H'->EE W B H' [.sh (grU CG ns rs),.sh (enc N t),.sh (.n m),.sh (.n r),.sh (.ls (gC ls))] [some v1,some v2,some v3,some v4,some v5]:=fun fw=>lL (DU.mono (eb.keep fw) _ d1) (lL (DU.mono (eb.keep fw) _ d2) (lL d3 (lL d4 (lL (DU.mono (eb.keep fw) _ d5) (aJd (eb.to fw))))))
  have nw:¬W x:=fun z=>eb.dm x (eb.wb x z) n1
  refine⟨_,(aD (cL (VE.can (aO c_check_term (hr.mono (by omega)) rfl (aA (aB 2) aG)))) (aD (dX (VC.can (dC (aH0 (huD hr)) aOc (aO c_lines_of (hr.mono (by omega)) rfl (aA (aB 2) aG)) (lE (aA rR (aA (bT (aB 1) D_lines (hr.mono (by omega))) aG))))) (aP dB) bQ) (aD (dX (VC.can (gO (fV (aO c_is_within (hr.mono (by omega)) rfl (aA (aB 3) (aA aF (aA (cY g_GREATEST_MODULUS) aG))))))) (aP dB) bQ) (aD (dX (VC.can (sS (rJ (gO (fV (aO c_is_within (hr.mono (by omega)) rfl (aA (aB 4) (aA aF (aA (cY g_MOST_ROUNDS) aG)))))) (oG (dC rB dO (aY kZ jV (aB 4) (bT (aB 1) D_places_many (hr.mono (by omega)))) (cY g_MOST_SPOTS)))))) (aP dB) bQ) (aD (cW (pv 0) (VE.can (bT (aB 2) D_takes (hr.mono (by omega)))) rfl) (aD (dX (VC.can (gO (fV (aO c_are_rows (hr.mono (by omega)) rfl (aA (aB 5) (aA (bT (aB 0) D_deep (hr.mono (by omega))) (aA (bT (aB 1) D_places_many (hr.mono (by omega))) (aA (aB 3) aG)))))))) (aP dB) bQ) (aD (cW (pv 0) (pv 1) rfl) (aD (cW (pv 0) (pv 2) rfl) (aD (cW (pv 0) (pv 3) rfl) (aD (cW (pv 0) (pv 4) rfl) (aP (cW (pv 0) (VE.can (kI (own:=["row"]) (cap:=[]) (aC iH) xH rfl rfl (fun x h=>bM h) (by decide+kernel) rfl (vic (cU (aB 5))) (fun cl C s2 H2 fp=>(bJ (i:=0) (show(["row"]:List Str).Nodup by decide+kernel) rfl (Or.inl rfl) (Or.inr rfl))) (cH (by decide)) (fun cl C s2 H2 fp=>(eU (kW rfl) sV T.list boot_list (aN (aB 0) aV))))) rfl)))))))))))),?_⟩
  have f0:=eb.same s1
  refine jJ (R:=fun _=>True) (nF (et f0)) ⟨t,_,rfl,g.hd,g.ok,g.pr,g.ln,trivial⟩ fun s v H2 _ w2 _=>?_
  have f2:=f0.trans w2
  refine xZ (R:=fun c=>c=false) (nF (et f2)) ⟨t,_,rfl,g.hd,g.ln,fun s hs=>?_⟩ fun c H3 hc w3=>?_
  ·rcases hs with rfl|rfl
   ·exact⟨rfl,rfl,ns,rs,rfl,trivial,⟨trivial,trivial,trivial⟩,rfl⟩
   ·refine⟨rfl,rfl,ns,rs,rfl,trivial,⟨trivial,trivial,trivial⟩,?_⟩
    simp [aTl,Sl.rd]
  subst hc
  refine pL ?_
  have f3:=f2.trans w3
  refine xZ (R:=fun c=>c=false) (nF (et f3)) ⟨_,_,_,_,rfl,rfl,?_⟩ fun c H4 hc w4=>?_
  ·show(!isIn (.n m) 2 1000000000)=false
   simp [isIn,g.m2.1,g.m2.2]
  subst hc
  refine pL ?_
  have f4:=f3.trans w4
  refine xZ (R:=fun c=>c=false) (nF (et f4)) ⟨_,_,_,_,rfl,rfl,fun z=>?_,fun _=>⟨rfl,rfl,ns,rs,rfl,g.gs,?_⟩⟩ fun c H5 hc w5=>?_
  ·simp [isIn,g.r0.1,g.r0.2]at z
  ·refine⟨.inl ⟨by have:=g.r0;omega,by have:=g.r0;omega⟩,?_⟩
   exact decide_eq_false (by have:=g.rm;omega)
  subst hc
  refine pL ?_
  have f5:=f4.trans w5
  have hx5:H5 x=some (.ins CJ dx []):=w5.fr _ _ nw (w4.fr _ _ nw (w3.fr _ _ nw (w2.fr _ _ nw hx)))
  refine jJ (R:=fun s=>∃ys,oY t ys/\s= .ow (ys.map tkU)) (nF (et f5)) (dZ t (by decide+kernel) ⟨t,rfl,rfl,g.hd,g.ln.few,fun ys hy=>⟨ys,hy,rfl⟩⟩) fun s v6 H6 hs w6 r6=>?_
  obtain⟨ys,hy,rfl⟩:=hs
  obtain⟨p6,x6,rfl,n6,h6,d6⟩:=r6
  have f6:=f5.trans w6
  have hx6:=w6.fr _ _ nw hx5
  have nB6:¬B p6:=(eb.to f5).nw n6
  refine⟨_,rfl,x,CJ,dx,_,rfl,hx6,cJ.cl,cJ.na _ (by simp),by decide,?_⟩
  have f7:=f6.upd (o:= .ins CJ dx (jD "taken" (.ref p6) [])) n1 nw
  have hx7:upd H6 x (.ins CJ dx (jD "taken" (.ref p6) [])) x=_:=aJ
  have h7:=eX (B:=B) (o:= .ins CJ dx (jD "taken" (.ref p6) [])) hx6 p6 _ nB6 h6 (.inr ⟨_,rfl⟩)
  have d7:=DUs.data (eX (o:= .ins CJ dx (jD "taken" (.ref p6) [])) hx6) 7 _ (aB9 ys) d6.less
  revert f7 hx7 h7 d7
  generalize upd H6 x (.ins CJ dx (jD "taken" (.ref p6) []))=H7
  intro f7 hx7 h7 d7
  have yl:=wQ g.ln.few hy
  have yp:∀y∈ys,0<=y.1:=fun y h=>by have:=(g.ok.2 y ((hy.2 y).mp h)).1.1;omega
  have dJ:DU W B H7 (.ob CJ ["taken"] [.ls (ys.map tkU)]) (.ref x):=⟨x,dx,[.ref p6],rfl,eb.nw n1,hx7,rfl,_,_,rfl,⟨p6,x6,rfl,nB6,h7,d7⟩,rfl⟩
  refine xZ (R:=fun c=>c=false) (lL dJ (et f7)) ⟨rfl,rfl,ys,[],[],rfl,yl,yp,rfl,rfl,ns,rs,rfl,g.gs,ls,_,_,_,rfl,g.dp ys hy,g.l3,g.rw_,rfl⟩ fun c H8 hc w8=>?_
  subst hc
  refine pL ?_
  have step:∀{H fs fs'},(Fw W H1 H/\H x=some (.ins CJ dx fs)/\DU W B H (.ls (ys.map tkU)) (.ref p6))->(Fw W H1 (upd H x (.ins CJ dx fs'))/\upd H x (.ins CJ dx fs') x=some (.ins CJ dx fs')/\DU W B (upd H x (.ins CJ dx fs')) (.ls (ys.map tkU)) (.ref p6)):=fun⟨a,b,c⟩=>⟨a.upd n1 nw,aJ,DU.data (eX b) 8 _ (aB9 ys) c⟩
  have k8:Fw W H1 H8/\H8 x=some (.ins CJ dx [("taken",.ref p6)])/\DU W B H8 (.ls (ys.map tkU)) (.ref p6):=⟨f7.trans w8,w8.fr _ _ nw hx7,DU.mono ((eb.to f7).keep w8) _ ⟨p6,x6,rfl,nB6,h7,d7⟩⟩
  have fl:∀{k:Nat},k<=6->k<1000:=fun h=>by omega
  refine⟨_,rfl,_,rfl,x,CJ,dx,_,rfl,k8.2.1,cJ.cl,cJ.na _ (by simp),fl (by show(1:Nat)<=6;decide),?_⟩
  have k9:=step (fs':=[("taken",.ref p6),("grid",v1)]) k8
  refine⟨_,rfl,_,rfl,x,CJ,dx,_,rfl,k9.2.1,cJ.cl,cJ.na _ (by simp),fl (by show(2:Nat)<=6;decide),?_⟩
  have k10:=step (fs':=[("taken",.ref p6),("grid",v1),("term",v2)]) k9
  refine⟨_,rfl,_,rfl,x,CJ,dx,_,rfl,k10.2.1,cJ.cl,cJ.na _ (by simp),fl (by show(3:Nat)<=6;decide),?_⟩
  have k11:=step (fs':=[("taken",.ref p6),("grid",v1),("term",v2),("modulus",v3)]) k10
  refine⟨_,rfl,_,rfl,x,CJ,dx,_,rfl,k11.2.1,cJ.cl,cJ.na _ (by simp),fl (by show(4:Nat)<=6;decide),?_⟩
  have k12:=step (fs':=[("taken",.ref p6),("grid",v1),("term",v2),("modulus",v3),("rounds",v4)]) k11
  refine jJ (R:=fun s=>s= .ow (gC ls)) (nF (et k12.1)) ⟨by have:=g.l3;show(gC ls).length<=_;unfold gC;rw [List.length_map];omega,iI (h:=id) (fun u hu k hk=>?_) (by rw [List.nil_append,List.map_id])⟩ fun s v13 H13 hs w13 r13=>?_
  ·obtain⟨l,_,rfl⟩:=List.mem_map.mp hu
   exact hk
  subst hs
  obtain⟨p13,x13,rfl,n13,h13,d13⟩:=r13
  have f13:=k12.1.trans w13
  have nB13:¬B p13:=(eb.to k12.1).nw n13
  have k13:Fw W H1 H13/\H13 x=some (.ins CJ dx [("taken",.ref p6),("grid",v1),("term",v2),("modulus",v3),("rounds",v4)])/\DU W B H13 (.ls (ys.map tkU)) (.ref p6):=⟨f13,w13.fr _ _ nw k12.2.1,DU.mono ((eb.to k12.1).keep w13) _ k12.2.2⟩
  refine⟨_,rfl,x,CJ,dx,_,rfl,k13.2.1,cJ.cl,cJ.na _ (by simp),fl (by show(5:Nat)<=6;decide),?_⟩
  have k14:=step (fs':=[("taken",.ref p6),("grid",v1),("term",v2),("modulus",v3),("rounds",v4),("first",.ref p13)]) k13
  have fin:=fun u {v:V} (d:DU W B H1 u v)=>DU.mono (eb.keep k14.1) u d
  exact q _ _ [.ref p6,v1,v2,v3,v4,.ref p13] _ (hR ys hy) k14.1 aJ rfl ⟨_,_,rfl,k14.2.2,_,_,rfl,fin _ d1,_,_,rfl,fin _ d2,_,_,rfl,fin _ d3,_,_,rfl,fin _ d4,_,_,rfl,⟨p13,x13,rfl,nB13,eX (B:=B) k13.2.1 p13 _ nB13 h13 (.inr ⟨_,rfl⟩),DUs.data (eX k13.2.1) 6 _ (aBf ls) d13.less⟩,rfl⟩
end
end Q
namespace Q
open PySem PyProof.Rows L2 KR
def aB1 (K:PySem.W.Frag) (ns:List Int):Opq where
 φ:=fun _ B H v=>∃a,v= .ref a/\((¬B a/\Rd H a (.lst (ns.map V.int)))∨∀H',SqL K H' a (ns.map V.int))
 mono:=fun k ⟨a,e,h⟩=>by
  rcases h with ⟨nb,h|⟨o,h⟩⟩|h
  ·exact⟨a,e,.inl ⟨(k _ _ nb h).1,.inl (k _ _ nb h).2⟩⟩
  ·exact⟨a,e,.inl ⟨(k _ _ nb h).1,.inr ⟨o,(k _ _ nb h).2⟩⟩⟩
  ·exact⟨a,e,.inr h⟩
 wm:=fun _ h=>h
def aOv (K:PySem.W.Frag):Fv:=fun us R=>∃(ns:List Int) (k:Nat),us=[.op (aB1 K ns),.n (k:Int)]/\∀n:Int,R (.sh (.n n))
theorem aSj (x:Int): -(2 ^ 64)<x % 2147483647/\x % 2147483647<2 ^ 64:=by omega
theorem DUs.two {W B:Addr->Prop} {H:Hp} {u v:U} {vs:List V} (h:DUs W B H [u,v] vs):∃x y,vs=[x,y]/\DU W B H u x/\DU W B H v y:=by
 obtain⟨x,_,rfl,d1,y,r,rfl,d2,e⟩:=h
 obtain rfl:r=[]:=e
 exact⟨x,y,rfl,d1,d2⟩
section
variable {P:Program} {w:World} {K:PySem.W.Frag} {mg:Str->Option Value} {base:Heap} {f C:Addr} {fd:FuncData} {N:Cn} {d:Nat}
theorem aB3:aM ["_law_script","_law_k"] ["_law_script","_law_k"] (aC pI):=⟨rfl,rfl,rfl,by decide+kernel,rfl,by decide+kernel,by decide+kernel⟩
theorem aNo (F:Fun K "_law_cell" "_law_cell" pI f fd) (T:Txt mg):bB P w K mg base CX0 1 f fd ["_law_script","_law_k"] (spV (aOv K)):=by
 refine F.ok aB3 (fun vs H Q E h=>?_) (fun cdv A outer s H vs Q E hr h=>?_)
 ·obtain⟨W,B,us,R,eb,ds,⟨ns,k,rfl,_⟩,_⟩:=h
  rw [<-ds.length];rfl
 ·obtain⟨W,B,us,R,eb,ds,⟨ns,k,rfl,hR⟩,q⟩:=h
  obtain⟨x,y,rfl,⟨a,rfl,hs⟩,⟨rfl,_⟩⟩:=DUs.two ds
  have hS:SqL K H a (ns.map V.int):=hs.elim (fun h=> .inl h.2) fun h=>h H
  have q':∀n:Int,Q (.int n) H:=fun n=>q _ _ _ (hR n) eb.refl ⟨rfl,rfl⟩
  refine⟨_,(aD (dX (bV aG6 (pv 1) (gW aR (by rfl) T.len PySem.boot_len (aL (pv 0) aX)) (cR _)) (aP (bU (vM lM (pv 0) (pv 1) (fun _ _=>rfl)))) bQ) (aP (bU dF))),?_⟩
  refine⟨_,rfl,_,rfl,a,_,rfl,.inl hS,_,_,rfl,rfl,_,rfl,?_⟩
  by_cases h:k<ns.length
  ·refine jN (decide_eq_true (by rw [List.length_map];omega)) ?_
   exact⟨_,rfl,_,rfl,a,_,_,_,rfl,rfl,hS,wB (show(ns.map V.int)[k]? =some (.int ns[k]) by rw [List.getElem?_map,List.getElem?_eq_getElem h];rfl),q' _⟩
  ·exact eQ (decide_eq_false (by rw [List.length_map];omega)) (q' 0)
def aAl:Fv:=fun us R=>∃m:Int,us=[.wl,.n m]/\0<m/\m<2 ^ 62/\∀r:Int,0<=r->r<m->R (.sh (.n r))
def aNh:Fv:=fun us R=>∃(c:Int) (k:Int),us=[.n c,.n k]/\∀r:Int,R (.sh (.n r))
theorem uE:aM ["_law_well_here","_law_most","_law_number"] ["_law_well_here","_law_most"] (aC pC):=⟨rfl,rfl,rfl,by decide+kernel,rfl,by decide+kernel,by decide+kernel⟩
theorem aNn (F:Fun K "_law_draw" "_law_draw" pC f fd) (c_twice:Cal P w K mg base CX0 2 "_law_twice" ["_law_cell_here","_law_k"] (spV aNh)):bB P w K mg base CX0 3 f fd ["_law_well_here","_law_most"] (spV aAl):=by
 refine F.ok uE (fun vs H Q E h=>?_) (fun cdv A outer s H vs Q E hr h=>?_)
 ·obtain⟨W,B,us,R,eb,ds,⟨m,rfl,_⟩,_⟩:=h
  rw [<-ds.length];rfl
 ·obtain⟨W,B,us,R,eb,ds,⟨m,rfl,hm,hm2,hR⟩,q⟩:=h
  obtain⟨v1,v2,rfl,⟨a,rfl,wa⟩,⟨rfl,_⟩⟩:=DUs.two ds
  obtain⟨x,y,z,ha⟩:=eb.wo a wa
  have up:∀{H':Hp} (x y z:Int),Fw W H H'->Fw W H (upd H' a (.lst [.int x,.int y,.int z])):=fun{H'} x y z f=>⟨fun b o nw h=>(aQ (fun e:b=a=>nw (by rw [e];exact wa))).trans (f.fr b o nw h),fun p hp=>by
   by_cases e:p=a
   ·exact⟨x,y,z,by rw [e,aJ]⟩
   ·obtain⟨x',y',z',h⟩:=f.wo p hp
    exact⟨x',y',z',(aQ e).trans h⟩⟩
  have fin:∀(t:Int) (H':Hp),Fw W H H'->Q (.int (t % m)) H':=fun t H' fw=>q _ _ _ (hR (t % m) (Int.emod_nonneg t (by omega)) (Int.emod_lt_of_pos t hm)) fw ⟨rfl,rfl⟩
  refine⟨_,(aD (dX (bV rB (vM lM (pv 0) dF (fun _ _=>rfl)) dF (cR _)) (aD (fX (i:=2) uE.nd rfl (Or.inl rfl) (oV sG (vM lM (pv 0) dF (fun _ _=>rfl)) (pv 1))) (aD (aFh (oV aK0 (vM lM (pv 0) dF (fun _ _=>rfl)) (pv 1)) (aLu (pv 0) dF set_list)) (aP (bU (pv 2))))) bQ) (aD (aFh (oV sH (vM lM (pv 0) dF (fun _ _=>rfl)) dF) (aLu (pv 0) dF set_list)) (aP (bU (oV sG (aRn c_twice (hr.mono (by omega)) rfl bF (aL (vM lM (pv 0) dF (fun _ _=>rfl)) (aL (vM lM (pv 0) dF (fun _ _=>rfl)) aX))) (pv 1)))))),?_⟩
  refine⟨_,rfl,a,_,_,_,rfl,rfl,SqL.of ha,rfl,_,_,rfl,rfl,_,rfl,?_⟩
  refine aT6 (fun _=>?_) (fun _=>?_)
  ·refine⟨_,rfl,a,_,_,_,rfl,rfl,SqL.of ha,rfl,_,rfl,_,_,rfl,rfl,hm,?_⟩
   refine⟨_,rfl,a,_,_,_,rfl,rfl,SqL.of ha,rfl,_,rfl,_,_,rfl,rfl,⟨hm,hm2⟩,?_⟩
   refine⟨_,rfl,a,_,_,0,rfl,rfl,ha,rfl,?_⟩
   exact⟨_,rfl,fin _ _ (up _ _ _ eb.refl)⟩
  ·refine⟨_,rfl,a,_,_,_,rfl,rfl,SqL.of ha,rfl,_,_,rfl,rfl,?_⟩
   refine⟨_,rfl,a,_,_,1,rfl,rfl,ha,rfl,?_⟩
   have hb:(upd H a (.lst ([V.int x,V.int y,V.int z].set 1 (.int (y+1))))) a=some (.lst [.int x,.int (y+1),.int z]):=aJ
   have f1:Fw W H (upd H a (.lst ([V.int x,V.int y,V.int z].set 1 (.int (y+1))))):=up _ _ _ eb.refl
   refine⟨_,rfl,a,_,_,_,rfl,rfl,SqL.of hb,rfl,_,rfl,a,_,_,_,rfl,rfl,SqL.of hb,rfl,?_⟩
   refine⟨W,B,[.n z,.n (y+1)],fun s=>∃r:Int,s= .sh (.n r),eb.to f1,⟨_,_,rfl,⟨rfl,rfl⟩,_,_,rfl,⟨rfl,rfl⟩,rfl⟩,⟨_,_,rfl,fun r=>⟨r,rfl⟩⟩,fun s v H' ⟨r,hs⟩ fw ro=>?_⟩
   subst hs
   obtain⟨rfl,_⟩:=ro
   exact⟨_,rfl,_,_,rfl,rfl,hm,fin _ _ (f1.trans fw)⟩
end
end Q
namespace Q
open PySem PyProof.Rows L2 KR
theorem pull {α:Type} {g:α->U} {p:α->Prop}:∀{xs:List U},(∀x∈xs,∃a,x=g a/\p a)->∃as:List α,xs=as.map g/\∀a∈as,p a
 | [],_=>⟨[],rfl,nofun⟩
 |x::xs,h=>by
  obtain⟨a,rfl,ha⟩:=h x List.mem_cons_self
  obtain⟨as,rfl,hs⟩:=pull fun y hy=>h y (List.mem_cons_of_mem _ hy)
  exact⟨a::as,rfl,fun b hb=>by
   rcases List.mem_cons.mp hb with rfl|hb
   ·exact ha
   ·exact hs b hb⟩
section
variable {P:Program} {w:World} {K:PySem.W.Frag} {mg:Str->Option Value} {base:Heap} {f C:Addr} {fd:FuncData} {N:Cn} {d:Nat}
theorem rA:aM ["_law_cell_here","_law_k","_law_number"] ["_law_cell_here","_law_k"] (aC nJ):=⟨rfl,rfl,rfl,by decide+kernel,rfl,by decide+kernel,by decide+kernel⟩
theorem aKl (F:Fun K "_law_mixed" "_law_mixed" nJ f fd):bB P w K mg base CX0 1 f fd ["_law_cell_here","_law_k"] (spV aNh):=by
 refine vfn F rA (fun cdv A outer s H E hr=>(aH (cA (i:=2) rA.nd (aY sG jV (aY kZ jV (aY bA bN (aY bA bN (aB 0) (aY kZ jV aF (aB 1))) aF) aF) aF)) (aK (aZ (aY sG jV (aY kZ jV (aB 2) (aY bA bN (aY qD jV (aB 2) aF) aF)) aF))))) ?_
 rintro _ R ⟨c,k,rfl,q⟩
 refine⟨rfl,.inl ⟨by decide,by decide⟩,.inr ⟨by decide,by decide⟩,by show(0:Int)<2147483647;decide,?_⟩
 exact⟨⟨by decide,by decide⟩,.inl (aSj _),by show(0:Int)<2147483647;decide,q _⟩
theorem rH:aM ["_law_cell_here","_law_k","_law_number"] ["_law_cell_here","_law_k"] (aC nQ):=⟨rfl,rfl,rfl,by decide+kernel,rfl,by decide+kernel,by decide+kernel⟩
theorem aKq (F:Fun K "_law_twice" "_law_twice" nQ f fd) (c__law_mixed:Cal P w K mg base CX0 1 "_law_mixed" ["_law_cell_here","_law_k"] (spV aNh)):bB P w K mg base CX0 2 f fd ["_law_cell_here","_law_k"] (spV aNh):=by
 refine vfn F rH (fun cdv A outer s H E hr=>(aH (cA (i:=2) rH.nd (aY sG jV (aY kZ jV (aY bA bN (aY bA bN (aO c__law_mixed (hr.mono (by omega)) rfl (aA (aB 0) (aA (aB 1) aG))) (aY kZ jV aF (aB 1))) aF) aF) aF)) (aK (aZ (aY sG jV (aY kZ jV (aB 2) (aY bA bN (aY qD jV (aB 2) aF) aF)) aF))))) ?_
 rintro _ R ⟨c,k,rfl,q⟩
 refine⟨rfl,c,k,rfl,fun r=>?_⟩
 refine⟨.inl ⟨by decide,by decide⟩,.inr ⟨by decide,by decide⟩,by show(0:Int)<2147483647;decide,?_⟩
 exact⟨⟨by decide,by decide⟩,.inl (aSj _),by show(0:Int)<2147483647;decide,q _⟩
def aOz (K:PySem.W.Frag):Fv:=fun us R=>∃(ns:List Int) (k:Nat),us=[.op (aB1 K ns),.n (k:Int)]/\∀a b c:Int,R (.ow [.n a,.n b,.n c])
theorem tW:aM ["_law_script","_law_k","_law_cell_here"] ["_law_script","_law_k"] (aC pF):=⟨rfl,rfl,rfl,by decide+kernel,rfl,by decide+kernel,by decide+kernel⟩
theorem aN1 (F:Fun K "_law_well" "_law_well" pF f fd) (c__law_cell:Cal P w K mg base CX0 1 "_law_cell" ["_law_script","_law_k"] (spV (aOv K))) (T:Txt mg):bB P w K mg base CX0 2 f fd ["_law_script","_law_k"] (spV (aOz K)):=by
 refine vfn F tW (fun cdv A outer s H E hr=>(aH (cA (i:=2) tW.nd (aO c__law_cell (hr.mono (by omega)) rfl (aA (aB 0) (aA (aB 1) aG)))) (aK (aZ (cD (aA (dG cC dH (cD (aA aF (aA (aB 2) aG))) (eU aIp aPz T.int boot_int (aN (aCc aRw dO (aB 2) (aY aKj jV aF aF)) aV))) (aA aF (aA (aY bA bN (aB 2) (aB 1)) aG)))))))) ?_
 rintro _ R ⟨ns,k,rfl,q⟩
 refine⟨rfl,ns,k,rfl,fun n=>?_⟩
 have key:∀c:Bool,∃u,atI [U.n 0,U.n n] (if c=true then 1 else 0)=some u/\∃a,u= .n a:=fun c=>by
  cases c
  ·exact⟨_,rfl,_,rfl⟩
  ·exact⟨_,rfl,_,rfl⟩
 obtain⟨u,e,a,rfl⟩:=key (decide ((10:Int) ^ (18:Int).toNat<=n))
 exact⟨⟨by decide,by decide,by decide⟩,_,e,q a 0 _⟩
def aGg:Fv:=fun us R=>us=[.wl]/\∀(ns:List Int) (rs:List Rim),aEb ns->rs.length=ns.length->(∀r∈rs,r.ok)->R (.sh (.tp [.ls (ns.map U.n),.ls (rs.map Rim.u)]))
theorem aGp:∀(ns:List Int) (a m:Int),(∀n∈ns,1<=n/\n<=m)->0<=a->1<=m->ns.foldl (fun a n=>a*n) a<=a*m ^ ns.length
 | [],a,m,_,_,_=>by simp
 |n::ns,a,m,h,ha,hm=>by
  have h1:=h n List.mem_cons_self
  have h2:=aGp ns (a*n) m (fun k hk=>h k (List.mem_cons_of_mem _ hk)) (Int.mul_nonneg ha (by omega)) hm
  rw [List.foldl_cons,List.length_cons,Int.pow_succ]
  refine Int.le_trans h2 ?_
  have hp:0<=m ^ ns.length:=Int.pow_nonneg (by omega)
  calc a*n*m ^ ns.length<=a*m*m ^ ns.length:=Int.mul_le_mul_of_nonneg_right (Int.mul_le_mul_of_nonneg_left h1.2 ha) hp
   _=a*(m ^ ns.length*m):=by rw [Int.mul_assoc,Int.mul_comm m]
theorem aLd {ns:List Int} {k:Nat} {m:Int} (l:ns.length=k) (h:∀n∈ns,1<=n/\n<=m) (hk:(k=1/\m<=9)∨(k=2/\m<=4)∨(k=3/\m<=3)):aEb ns:=by
 have hm:∀M:Int,m<=M->∀n∈ns,1<=n/\n<=M:=fun M hM n hn=>⟨(h n hn).1,Int.le_trans (h n hn).2 hM⟩
 have hp:∀M:Int,m<=M->1<=M->rM ns<=1*M ^ ns.length:=fun M hM h1=>aGp ns 1 M (hm M hM) (by decide) h1
 rcases hk with ⟨rfl,e⟩|⟨rfl,e⟩|⟨rfl,e⟩
 ·have:=hp 9 e (by decide)
  rw [l]at this
  exact⟨hm 9 e,by omega,by omega,Int.le_trans this (by decide)⟩
 ·have:=hp 4 e (by decide)
  rw [l]at this
  exact⟨hm 9 (by omega),by omega,by omega,Int.le_trans this (by decide)⟩
 ·have:=hp 3 e (by decide)
  rw [l]at this
  exact⟨hm 9 (by omega),by omega,by omega,Int.le_trans this (by decide)⟩
theorem cO (lo:Int) (n:Nat):(rE lo n).length=n:=by simp [rE]
abbrev sU:List Str:=["_law_well_here","_law_many","_law_most","_law_sizes","_law_rims"]
theorem gD:aM ["_law_well_here","_law_many","_law_most","_law_sizes","_law_rims"] ["_law_well_here"] (aC iC):=⟨rfl,rfl,rfl,by decide+kernel,rfl,by decide+kernel,by decide+kernel⟩
theorem aHv (F:Fun K "_law_lines" "_law_lines" iC f fd) (c__law_draw:Cal P w K mg base CX0 3 "_law_draw" ["_law_well_here","_law_most"] (spV aAl)) (T:Txt mg):bB P w K mg base CX0 4 f fd ["_law_well_here"] (spV aGg):=by
 refine vfn F gD (fun cdv A outer s H E hr=>(aH (cA (i:=1) gD.nd (dG cC dH (cD (aA aF (aA aF (aA aF (aA aF (aA aF aG)))))) (aO c__law_draw (hr.mono (by omega)) rfl (aA (aB 0) (aA aF aG))))) (aH (cA (i:=2) gD.nd (dG cC dH (cD (aA (dG cC dH (cD (aA aF (aA aF (aA aF aG)))) (aY oM dO (aB 1) aF)) (aA aF aG))) (aY qD jV (aO c__law_draw (hr.mono (by omega)) rfl (aA (aB 0) (aA aF aG))) aF))) (aH (aC1 (i:=3) (own:=["_law_k"]) (cap:=[("_law_well_here",0),("_law_most",2)]) gD.nd (aC iC) sU rfl rfl (fun x h=>bM h) (by decide+kernel) rfl (vic (gZ T.range (aN (aB 1) aV))) (fun cl C s2 H2 fp=>(bJ (i:=0) (show(["_law_k","_law_well_here","_law_most"]:List Str).Nodup by decide+kernel) rfl (Or.inl rfl) (Or.inr rfl))) (cH (by decide)) (fun cl C s2 H2 fp=>(aY bA bN aF (aO c__law_draw (hr.mono (by omega)) rfl (aA (aB 1) (aA (aB 2) aG)))))) (aH (aC1 (i:=4) (own:=["_law_k"]) (cap:=[("_law_well_here",0)]) gD.nd (aC iC) sU rfl rfl (fun x h=>bM h) (by decide+kernel) rfl (vic (gZ T.range (aN (aB 1) aV))) (fun cl C s2 H2 fp=>(bJ (i:=0) (show(["_law_k","_law_well_here"]:List Str).Nodup by decide+kernel) rfl (Or.inl rfl) (Or.inr rfl))) (cH (by decide)) (fun cl C s2 H2 fp=>(dG cC dH (cD (aA (lE (aA cF (aA (aO c__law_draw (hr.mono (by omega)) rfl (aA (aB 1) (aA aF aG))) aG))) (aA (lE (aA cF aG)) (aA (lE (aA cF aG)) aG)))) (aO c__law_draw (hr.mono (by omega)) rfl (aA (aB 1) (aA aF aG)))))) (qM 4 (qM 3 (aK (aZ (lE (aA (aB 3) (aA (aB 4) aG)))))))))))) ?_
 rintro _ R ⟨rfl,q⟩
 refine⟨rfl,5,rfl,by decide,by decide,fun r h0 h5=>?_⟩
 have key:∃k:Nat,(k=1∨k=2∨k=3)/\atI [U.n 1,U.n 1,U.n 2,U.n 2,U.n 3] r=some (.n (k:Int)):=by
  have:r=0∨r=1∨r=2∨r=3∨r=4:=by omega
  rcases this with rfl|rfl|rfl|rfl|rfl
  ·exact⟨1,by decide,rfl⟩
  ·exact⟨1,by decide,rfl⟩
  ·exact⟨2,by decide,rfl⟩
  ·exact⟨2,by decide,rfl⟩
  ·exact⟨3,by decide,rfl⟩
 obtain⟨k,hk,e⟩:=key
 refine⟨_,e,?_⟩
 have key2:∃M:Int,atI [U.n 9,U.n 4,U.n 3] ((k:Int)-1)=some (.n M)/\((k=1/\M=9)∨(k=2/\M=4)∨(k=3/\M=3)):=by
  rcases hk with rfl|rfl|rfl
  ·exact⟨9,rfl,by decide⟩
  ·exact⟨4,rfl,by decide⟩
  ·exact⟨3,rfl,by decide⟩
 obtain⟨M,eM,hM⟩:=key2
 refine⟨_,eM,4,rfl,by decide,by decide,fun r2 h0 h4=>?_⟩
 have key3:∃m:Int,atI [U.n M,U.n 2] (r2 / 3)=some (.n m)/\1<=m/\((k=1/\m<=9)∨(k=2/\m<=4)∨(k=3/\m<=3))/\m<=9:=by
  have:r2 / 3=0∨r2 / 3=1:=by omega
  rcases this with h|h
  ·rw [h]
   exact⟨M,rfl,by omega,by omega,by omega⟩
  ·rw [h]
   exact⟨2,rfl,by omega,by omega,by omega⟩
 obtain⟨m,em,m1,mk,m9⟩:=key3
 refine⟨⟨by decide,by decide⟩,_,em,?_⟩
 refine⟨by omega,by omega,by rw [cO];omega,jZ (fun x=>∃n:Int,x= .n n/\(1<=n/\n<=m)) (fun u hu c hc=>⟨m,rfl,by omega,by omega,fun r3 a b=>hc _ ⟨1+r3,rfl,by omega,by omega⟩⟩) fun xs xl xp=>?_⟩
 obtain⟨ns,rfl,hn⟩:=pull xp
 rw [List.length_map,cO]at xl
 refine⟨by omega,by omega,by rw [cO];omega,jZ (fun x=>∃n:Rim,x=n.u/\n.ok) (fun u hu c hc=>?_) fun ys yl yp=>?_⟩
 ·refine⟨50,rfl,by decide,by decide,fun r4 a b=>⟨3,rfl,by decide,by decide,fun r5 a5 b5=>?_⟩⟩
  have:r5=0∨r5=1∨r5=2:=by omega
  rcases this with rfl|rfl|rfl
  ·exact⟨_,rfl,hc _ ⟨.fixed r4,rfl,by constructor<;>omega⟩⟩
  ·exact⟨_,rfl,hc _ ⟨.mirror,rfl,trivial⟩⟩
  ·exact⟨_,rfl,hc _ ⟨.round,rfl,trivial⟩⟩
 ·obtain⟨rs,rfl,hr⟩:=pull yp
  rw [List.length_map,cO]at yl
  exact q ns rs (aLd (k:=k) (by omega) hn mk) (by omega) hr
def aJq:Fv:=fun us R=>∃k:Nat,us=[.wl,.n (k:Int)]/\k<=3/\∀y:Tk,vP y->y.2.length=k->R (.sh (tkU y))
abbrev aD6:List Str:=["_law_well_here","_law_many","_law_far","_law_steps"]
theorem oK:aM ["_law_well_here","_law_many","_law_far","_law_steps"] ["_law_well_here","_law_many"] (aC lV):=⟨rfl,rfl,rfl,by decide+kernel,rfl,by decide+kernel,by decide+kernel⟩
theorem aKy (F:Fun K "_law_take" "_law_take" lV f fd) (c__law_draw:Cal P w K mg base CX0 3 "_law_draw" ["_law_well_here","_law_most"] (spV aAl)) (T:Txt mg):bB P w K mg base CX0 4 f fd ["_law_well_here","_law_many"] (spV aJq):=by
 refine vfn F oK (fun cdv A outer s H E hr=>(aH (cA (i:=2) oK.nd (dG cC dH (cD (aA aF (aA aF (aA aF (aA aF aG))))) (aO c__law_draw (hr.mono (by omega)) rfl (aA (aB 0) (aA aF aG))))) (aH (cA (i:=3) oK.nd (eU (aDe rfl) aL9 T.tuple boot_tuple (aN (kI (own:=["_law_k"]) (cap:=[("_law_well_here",0),("_law_far",2)]) (aC lV) aD6 rfl rfl (fun x h=>bM h) (by decide+kernel) rfl (vic (gZ T.range (aN (aB 1) aV))) (fun cl C s2 H2 fp=>(bJ (i:=0) (show(["_law_k","_law_well_here","_law_far"]:List Str).Nodup by decide+kernel) rfl (Or.inl rfl) (Or.inr rfl))) (cH (by decide)) (fun cl C s2 H2 fp=>(aY oM dO (aO c__law_draw (hr.mono (by omega)) rfl (aA (aB 1) (aA (aY bA bN (aY kZ jV aF (aB 2)) aF) aG))) (aB 2)))) aV))) (aK (aZ (lE (aA (aY bA bN aF (aY sG jV (aY qD jV (aO c__law_draw (hr.mono (by omega)) rfl (aA (aB 0) (aA aF aG))) aF) aF)) (aA (aB 3) aG)))))))) ?_
 rintro _ R ⟨k,rfl,hk,q⟩
 refine⟨rfl,4,rfl,by decide,by decide,fun r h0 h4=>?_⟩
 have key:∃m:Int,atI [U.n 1,U.n 2,U.n 2,U.n 9] r=some (.n m)/\1<=m/\m<=9:=by
  have:r=0∨r=1∨r=2∨r=3:=by omega
  rcases this with rfl|rfl|rfl|rfl
  ·exact⟨1,rfl,by decide,by decide⟩
  ·exact⟨2,rfl,by decide,by decide⟩
  ·exact⟨2,rfl,by decide,by decide⟩
  ·exact⟨9,rfl,by decide,by decide⟩
 obtain⟨m,em,m1,m9⟩:=key
 refine⟨_,em,by omega,by omega,by rw [cO];omega,jZ (fun x=>∃n:Int,x= .n n/\(-9<=n/\n<=9)) (fun u hu c hc=>⟨.inl ⟨by decide,by decide⟩,2*m+1,rfl,by omega,by omega,fun r3 a b=>hc _ ⟨r3-m,rfl,by omega,by omega⟩⟩) fun xs xl xp=>?_⟩
 obtain⟨ss,rfl,hs⟩:=pull xp
 rw [List.length_map,cO]at xl
 refine⟨6,rfl,by decide,by decide,fun r4 a b=>⟨⟨by decide,by decide⟩,by show(0:Int)<3;decide,?_⟩⟩
 exact q (1+r4 / 2 % 3,ss) ⟨by show 1<=1+r4 / 2 % 3;omega,by show 1+r4 / 2 % 3<=3;omega,hs⟩ (by show ss.length=k;omega)
end
end Q
namespace Q
open PySem PyProof.Rows L2 KR
theorem aR9 {a b:Str} {l m:List Nat} {R:Sl->Prop} (h1:a=tx l) (h2:b=tx m) (hz:l.length+m.length<=10000) (q:R (.sh (.s (tx (l++m))))):aQz (.s a) (.s b) R:=by
 subst h1 h2
 exact⟨by rw [fQ,fQ];exact hz,by rw [fU];exact q⟩
theorem vZ {a b:Str} {l m:List Nat} (h1:a=tx l) (h2:b=tx m) (hz:l.length+m.length<=10000):a.length+b.length<=10000:=by rw [h1,h2,fQ,fQ];exact hz
theorem qQ (g:Tm->U):∀(ts:List Tm) (n:Nat),(ts.map g).eraseIdx n=(ts.eraseIdx n).map g
 | [],_=>rfl
 |_::_,0=>rfl
 |a::ts,n+1=>by rw [List.map_cons,List.eraseIdx_cons_succ,List.eraseIdx_cons_succ,List.map_cons,qQ g ts n]
def tU (t:Tm):U:= .s (tx (txt t))
theorem aMf (k:Fin 5):opn k=tx (sgn (opn k)):=aEg _
structure Wd (ys:List Tk) (ts:List Tm):Prop where
 ok:∀t∈ts,jL t
 hs:(ts.map ht).sum<=7
 ps:(ts.map cV).sum+2*ts.length<=21
 ne:1<=ts.length
 rw_:∀x,x∈ys↔ ∃t∈ts,x∈raw t
theorem iV {g:Tm->Nat}:∀{ts:List Tm} {n:Nat} {t:Tm},ts[n]? =some t->(ts.map g).sum=g t+((ts.eraseIdx n).map g).sum
 | [],_,_,h=>by simp at h
 |a::ts,0,t,h=>by simp at h;subst h;simp
 |a::ts,n+1,t,h=>by
  have:=iV (g:=g) (ts:=ts) (n:=n) (t:=t) (by simpa using h)
  simp only [List.map_cons,List.sum_cons,List.eraseIdx_cons_succ,this]
  omega
theorem dD {ts:List Tm} {n:Nat} {t x:Tm} (h:ts[n]? =some t):x∈ts↔x=t∨x∈ts.eraseIdx n:=by
 induction ts generalizing n with
 |nil=>simp at h
 |cons a ts ih=>
  cases n with
  |zero=>simp at h;subst h;simp
  |succ n=>
   have:=ih (n:=n) (by simpa using h)
   simp only [List.mem_cons,List.eraseIdx_cons_succ,this]
   constructor
   ·rintro(h|h|h)<;>simp [h]
   ·rintro(h|h|h)<;>simp [h]
theorem gR {ts:List Tm} {n:Nat} {t:Tm} (h:ts[n]? =some t):ts.length=(ts.eraseIdx n).length+1:=by
 have:=(List.getElem?_eq_some_iff.mp h).1
 rw [List.length_eraseIdx]
 split<;>omega
theorem Wd.join {ys:List Tk} {ts:List Tm} {i j:Nat} {a b c:Tm} (w:Wd ys ts) (h1:ts[i]? =some a) (h2:(ts.eraseIdx i)[j]? =some b) (hc:jL c) (hh:ht c<=ht a+ht b) (hp:cV c<=cV a+cV b+2) (hr:∀x,x∈raw c↔x∈raw a∨x∈raw b):Wd ys ((ts.eraseIdx i).eraseIdx j++[c]):=by
 have l1:=gR h1
 have l2:=gR h2
 refine⟨fun t ht=>?_,?_,?_,?_,fun x=>?_⟩
 ·rcases List.mem_append.mp ht with h|h
  ·exact w.ok t ((dD h1).mpr (.inr ((dD h2).mpr (.inr h))))
  ·rw [List.mem_singleton.mp h];exact hc
 ·have s1:=iV (g:=ht) h1
  have s2:=iV (g:=ht) h2
  have:=w.hs
  simp only [List.map_append,List.sum_append,List.map_cons,List.map_nil,List.sum_cons,List.sum_nil]
  omega
 ·have s1:=iV (g:=cV) h1
  have s2:=iV (g:=cV) h2
  have:=w.ps
  simp only [List.map_append,List.sum_append,List.map_cons,List.map_nil,List.sum_cons,List.sum_nil,List.length_append,List.length_cons,List.length_nil]
  omega
 ·rw [List.length_append];show 1<=_+1;omega
 ·rw [w.rw_ x]
  constructor
  ·rintro⟨t,h,hx⟩
   rcases (dD h1).mp h with rfl|h
   ·exact⟨c,by simp,(hr x).mpr (.inl hx)⟩
   ·rcases (dD h2).mp h with rfl|h
    ·exact⟨c,by simp,(hr x).mpr (.inr hx)⟩
    ·exact⟨t,List.mem_append_left _ h,hx⟩
  ·rintro⟨t,h,hx⟩
   rcases List.mem_append.mp h with h|h
   ·exact⟨t,(dD h1).mpr (.inr ((dD h2).mpr (.inr h))),hx⟩
   ·rw [List.mem_singleton.mp h]at hx
    rcases (hr x).mp hx with hx|hx
    ·exact⟨a,(dD h1).mpr (.inl rfl),hx⟩
    ·exact⟨b,(dD h1).mpr (.inr ((dD h2).mpr (.inl rfl))),hx⟩
theorem Wd.len {ys:List Tk} {ts:List Tm} (w:Wd ys ts) {t:Tm} (h:t∈ts):(txt t).length<=1400/\ht t<=7/\cV t<=19:=by
 have h1:=lU (w.ok t h)
 obtain⟨n,hn,e⟩:=List.getElem_of_mem h
 have hg:ts[n]? =some t:=by rw [List.getElem?_eq_getElem hn,e]
 have s1:=iV (g:=ht) hg
 have s2:=iV (g:=cV) hg
 have:=w.hs
 have:=w.ps
 have:=w.ne
 omega
def aFm:Fv:=fun us R=>∃ys:List Tk,us=[.wl,.ls (ys.map tkU)]/\ys.length<=6/\(∀y∈ys,vP y/\1<=y.2.length/\y.2.length<=3)/\∀t,jL t->ht t<=7->cV t<=19->(∀x,x∈ys↔x∈raw t)->R (.sh (tU t))
section
variable {P:Program} {w:World} {K:PySem.W.Frag} {mg:Str->Option Value} {base:Heap} {f C:Addr} {fd:FuncData} {N:Cn} {d:Nat}
abbrev aD9:List Str:=["_law_well_here","_law_takes","_law_words","_law_way","_law_one","_law_two"]
theorem dM:aM ["_law_well_here","_law_takes","_law_words","_law_way","_law_one","_law_two"] ["_law_well_here","_law_takes"] (aC lK):=⟨rfl,rfl,rfl,by decide+kernel,rfl,by decide+kernel,by decide+kernel⟩
theorem aLz (F:Fun K "_law_term" "_law_term" lK f fd) (c__law_draw:Cal P w K mg base CX0 3 "_law_draw" ["_law_well_here","_law_most"] (spV aAl)) (T:Txt mg):bB P w K mg base CX0 4 f fd ["_law_well_here","_law_takes"] (spV aFm):=by
 refine vfn F dM (fun cdv A outer s H E hr=>(aH (aC1 (i:=2) (own:=["_law_back","_law_steps"]) (cap:=[]) dM.nd (aC lK) aD9 rfl rfl (fun x h=>bM h) (by decide+kernel) rfl (vic (cU (aB 1))) (fun cl C s2 H2 fp=>(aBl rfl (lB (bJ (i:=0) (show(["_law_back","_law_steps"]:List Str).Nodup by decide+kernel) rfl (Or.inl rfl) (Or.inr rfl)) (lB (bJ (i:=1) (show(["_law_back","_law_steps"]:List Str).Nodup by decide+kernel) rfl (Or.inl rfl) (Or.inr rfl)) wO)))) (aFy (is:=[0,1]) rfl (by decide)) (fun cl C s2 H2 fp=>(aY bA bN (aY bA bN cF (aNb cF (aN (aY bA bN (cD (aA (eU qI aBc T.str boot_str (aN (aB 0) aV)) aG)) (aQa (own:=["_law_step"]) (by decide+kernel) rfl (vic (aJc (aB 1))) (fun cl C s2 H2 fp=>(bJ (i:=0) (show(["_law_step"]:List Str).Nodup by decide+kernel) rfl (Or.inl rfl) (Or.inr rfl))) (cH (by decide)) (fun cl C s2 H2 fp=>(eU qI aBc T.str boot_str (aN (aB 0) aV))))) aV))) cF))) (aH (cA (i:=2) dM.nd (aY bA bN (aB 2) (cD (aA (eU qI aBc T.str boot_str (aN (aY oM dO (aO c__law_draw (hr.mono (by omega)) rfl (aA (aB 0) (aA aF aG))) aF) aV)) aG)))) (aH (aLp PassesOwn.never (dC rB dO (bD aR cZ T.len boot_len (aN (aB 2) aV)) aF) (aH (cA (i:=3) dM.nd (aO c__law_draw (hr.mono (by omega)) rfl (aA (aB 0) (aA aF aG)))) (aH (aF5 (i:=4) 2 dM.nd (aO c__law_draw (hr.mono (by omega)) rfl (aA (aB 0) (aA (bD aR cZ T.len boot_len (aN (aB 2) aV)) aG)))) (aK (fO (dC aG6 dO (aB 3) aF) (aH (aF5 (i:=5) 2 dM.nd (aO c__law_draw (hr.mono (by omega)) rfl (aA (aB 0) (aA (bD aR cZ T.len boot_len (aN (aB 2) aV)) aG)))) (aK (aE0 2 (aY bA bN (aY bA bN (aY bA bN (aY bA bN (aY bA bN (aY bA bN cF (aB 4)) cF) (dG cC dH (cD (aA cF (aA cF (aA cF (aA cF (aA cF aG)))))) (aB 3))) cF) (aB 5)) cF)))) (aH (aF5 (i:=5) 2 dM.nd (aO c__law_draw (hr.mono (by omega)) rfl (aA (aB 0) (aA (bD aR cZ T.len boot_len (aN (aB 2) aV)) aG)))) (aK (aE0 2 (aY bA bN (aY bA bN (aY bA bN (aY bA bN (aY bA bN (aY bA bN cF (aB 4)) cF) (aB 5)) cF) (eU qI aBc T.str boot_str (aN (aO c__law_draw (hr.mono (by omega)) rfl (aA (aB 0) (aA aF aG))) aV))) cF))))))))) (aK (aZ (dG cC dH (aB 2) aF))))))) ?_
 rintro _ R ⟨ys,rfl,yl,yg,q⟩
 have b14:∀s:Int,(-9<=s/\s<=9)->(itx s).length<=14/\s.natAbs.log2<1920:=fun s h=>⟨qN (by omega),uI (by omega)⟩
 refine⟨rfl,by rw [List.length_map];omega,?_⟩
 have words:∀{f:U->(Option U->Prop)->Prop} {Q:List U->Prop},(∀y∈ys,∀k:Option U->Prop,k (some (tU (.take y.1 y.2)))->f (tkU y) k)->Q (ys.map fun y=>tU (.take y.1 y.2))->eO f (ys.map tkU) [] Q:=by
  intro f Q hf hq
  have key:∀(zs:List Tk) (acc:List U),(∀y∈zs,∀k:Option U->Prop,k (some (tU (.take y.1 y.2)))->f (tkU y) k)->Q (acc++zs.map fun y=>tU (.take y.1 y.2))->eO f (zs.map tkU) acc Q:=by
   intro zs
   induction zs with
   |nil=>exact fun acc _ q=>by rw [List.map_nil,List.append_nil]at q;exact q
   |cons z zs ih=>exact fun acc hf q=>hf z List.mem_cons_self _ (ih _ (fun y hy=>hf y (List.mem_cons_of_mem _ hy)) (by rw [List.append_assoc];exact q))
  exact key ys [] hf hq
 refine words (fun y hy k hk=>?_) ?_
 ·obtain⟨⟨g1,g2,g3⟩,g4,g5⟩:=yg y hy
  refine⟨rfl,[32],congrArg U.s (bL [32] rfl),(b14 y.1 (by omega)).2,by rw [List.length_map];omega,iI (h:=fun u=>match u with| .v (.int i)=> .s (tx (itx i))|u=>u) (fun u hu c hc=>?_) ?_⟩
  ·obtain⟨s,hs,rfl⟩:=List.mem_map.mp hu
   exact⟨(b14 s (g3 s hs)).2,hc⟩
  ·have es:(y.2.map U.n).map (fun u=>match u with| .v (.int i)=>U.s (tx (itx i))|u=>u)=aAp (y.2.map itx):=by unfold aAp;rw [List.map_map,List.map_map];rfl
   rw [List.nil_append,es]
   have gl:(glu [32] (itx y.1::y.2.map itx)).length<=(itx y.1::y.2.map itx).length*(14+1):=aCb [32] _ 14 fun l hl=>by
    rcases List.mem_cons.mp hl with rfl|hl
    ·exact(b14 y.1 (by omega)).1
    ·obtain⟨s,hs,rfl⟩:=List.mem_map.mp hl
     exact(b14 s (g3 s hs)).1
   have sl:((itx y.1::y.2.map itx).map List.length).sum<=(itx y.1::y.2.map itx).length*14:=by
    have key:∀ls:List (List Nat),(∀l∈ls,l.length<=14)->(ls.map List.length).sum<=ls.length*14:=by
     intro ls
     induction ls with
     |nil=>exact fun _=>Nat.le_refl _
     |cons a ls ih=>
      intro h
      have:=ih fun l hl=>h l (List.mem_cons_of_mem _ hl)
      have:=h a List.mem_cons_self
      rw [List.map_cons,List.sum_cons,List.length_cons]
      omega
    refine key _ fun l hl=>?_
    rcases List.mem_cons.mp hl with rfl|hl
    ·exact(b14 y.1 (by omega)).1
    ·obtain⟨s,hs,rfl⟩:=List.mem_map.mp hl
     exact(b14 s (g3 s hs)).1
   have ln:(itx y.1::y.2.map itx).length<=4:=by rw [List.length_cons,List.length_map];omega
   refine⟨by show 1+(aAp (y.2.map itx)).length<=10000;unfold aAp;rw [List.length_map,List.length_map];omega,itx y.1::y.2.map itx,rfl,by show _+_*1<=_;omega,?_⟩
   refine aR9 (l:=[91]) (bL [91] rfl) rfl (by show 1+_<=_;omega) ?_
   refine aR9 (R:=fun s=>s.es fun x=>k (some x)) (m:=[93]) rfl (bL [93] rfl) (by simp only [List.length_append,List.length_cons,List.length_nil];simp only [List.length_cons,List.length_map]at gl;omega) ?_
   exact hk
 ·refine⟨30,rfl,by decide,by decide,fun r h0 h1=>⟨uI (by omega),?_⟩⟩
  refine⟨by show _+1<=10000;rw [List.length_map];omega,?_⟩
  have w0:Wd ys (ys.map (fun y=>Tm.take y.1 y.2)++[.num (r-9)]):=by
   refine⟨fun t ht=>?_,?_,?_,by simp,fun x=>?_⟩
   ·rcases List.mem_append.mp ht with h|h
    ·obtain⟨y,hy,rfl⟩:=List.mem_map.mp h
     exact⟨trivial,fun x hx=>by rw [List.mem_singleton.mp hx];exact yg y hy⟩
    ·rw [List.mem_singleton.mp h]
     exact⟨by simp only [Wf];omega,fun x hx=>nomatch hx⟩
   ·have:∀zs:List Tk,((zs.map fun y=>Tm.take y.1 y.2).map ht).sum=zs.length:=fun zs=>by induction zs with|nil=>rfl|cons a l ih=>rw [List.map_cons,List.map_cons,List.sum_cons,ih,List.length_cons];simp [ht];omega
    rw [List.map_append,List.sum_append,this]
    simp [ht];omega
   ·have:∀zs:List Tk,((zs.map fun y=>Tm.take y.1 y.2).map cV).sum=zs.length:=fun zs=>by induction zs with|nil=>rfl|cons a l ih=>rw [List.map_cons,List.map_cons,List.sum_cons,ih,List.length_cons];simp [cV];omega
    rw [List.map_append,List.sum_append,this,List.length_append,List.length_map]
    simp [cV];omega
   ·constructor
    ·intro hx
     exact⟨.take x.1 x.2,List.mem_append_left _ (List.mem_map.mpr ⟨x,hx,rfl⟩),List.mem_cons_self⟩
    ·rintro⟨t,ht,hx⟩
     rcases List.mem_append.mp ht with h|h
     ·obtain⟨y,hy,rfl⟩:=List.mem_map.mp h
      rw [List.mem_singleton.mp hx]
      exact hy
     ·rw [List.mem_singleton.mp h]at hx
      exact nomatch hx
  refine⟨fun m ρ=>∃(ts:List Tm) (x y z:Sl),m=ts.length/\Wd ys ts/\ρ=[.sh .wl,.sh (.ls (ys.map tkU)),.ow (ts.map tU),x,y,z],⟨_,_,.no,.no,.no,rfl,w0,?_⟩,?_⟩
  ·rw [List.map_append,List.map_map];rfl
  ·rintro m ρ ⟨ts,x,y,z,rfl,wd,rfl⟩
   have tl:(ts.map tU).length=ts.length:=List.length_map ..
   have t7:ts.length<=10:=by have:=wd.ps;omega
   have tg:∀{n:Nat} {u:Tm},ts[n]? =some u->(ts.map tU)[n]? =some (tU u):=fun h=>by rw [List.getElem?_map,h];rfl
   refine⟨fun hc=>?_,fun hc=>?_⟩
   ·have hc:=of_decide_eq_true hc
    rw [tl]at hc
    refine⟨7,rfl,by decide,by decide,fun way a0 a7=>?_⟩
    refine⟨_,rfl,by rw [tl];omega,by rw [tl];omega,fun i i0 i1=>?_⟩
    rw [tl]at i1
    obtain⟨n,rfl⟩:=Int.eq_ofNat_of_zero_le i0
    obtain⟨a,ha⟩:∃a,ts[n]? =some a:=⟨_,List.getElem?_eq_getElem (by omega)⟩
    have ham:=List.mem_of_getElem? ha
    refine⟨n,tU a,rfl,tg ha,by omega,?_⟩
    have l1:=gR ha
    have te:(ts.map tU).eraseIdx n=(ts.eraseIdx n).map tU:=qQ ..
    have bl:=wd.len ham
    refine⟨fun hw=>?_,fun hw=>?_⟩
    ·refine⟨_,rfl,by rw [te,List.length_map];omega,by rw [te,List.length_map];omega,fun i2 j0 j1=>?_⟩
     rw [te,List.length_map]at j1
     obtain⟨n2,rfl⟩:=Int.eq_ofNat_of_zero_le j0
     obtain⟨b,hb⟩:∃b,(ts.eraseIdx n)[n2]? =some b:=⟨_,List.getElem?_eq_getElem (by omega)⟩
     have hbm:b∈ts:=(dD ha).mpr (.inr (List.mem_of_getElem? hb))
     have bl2:=wd.len hbm
     have l2:=gR hb
     refine⟨n2,tU b,rfl,by rw [te,List.getElem?_map,hb];rfl,by rw [te,List.length_map];omega,?_⟩
     have te2:((ts.map tU).eraseIdx n).eraseIdx n2=((ts.eraseIdx n).eraseIdx n2).map tU:=by rw [te];exact qQ ..
     refine⟨by rw [te2,List.length_map];omega,?_⟩
     have hway:=of_decide_eq_true hw
     obtain⟨k,hk⟩:∃k:Fin 5,atI [U.s "+",U.s "-",U.s "*",U.s "min",U.s "max"] way=some (.s (opn k)):=by
      have:way=0∨way=1∨way=2∨way=3∨way=4:=by omega
      rcases this with rfl|rfl|rfl|rfl|rfl
      ·exact⟨0,rfl⟩
      ·exact⟨1,rfl⟩
      ·exact⟨2,rfl⟩
      ·exact⟨3,rfl⟩
      ·exact⟨4,rfl⟩
     have ol:=aGw k
     have e1:Str.ofString "("++tx (txt a)=tx ([40]++txt a):=by rw [bL (x:="(") [40] rfl,fU]
     have e2:Str.ofString "("++tx (txt a)++Str.ofString " "=tx ([40]++txt a++[32]):=by rw [e1,bL (x:=" ") [32] rfl,fU]
     have e3:Str.ofString "("++tx (txt a)++Str.ofString " "++opn k=tx ([40]++txt a++[32]++sgn (opn k)):=by
      rw [e2]
      exact(congrArg (fun z=>tx ([40]++txt a++[32])++z) (aMf k)).trans (fU ..)
     have e4:Str.ofString "("++tx (txt a)++Str.ofString " "++opn k++Str.ofString " "=tx ([40]++txt a++[32]++sgn (opn k)++[32]):=by rw [e3,bL (x:=" ") [32] rfl,fU]
     have e5:Str.ofString "("++tx (txt a)++Str.ofString " "++opn k++Str.ofString " "++tx (txt b)=tx ([40]++txt a++[32]++sgn (opn k)++[32]++txt b):=by rw [e4,fU]
     have e6:Str.ofString "("++tx (txt a)++Str.ofString " "++opn k++Str.ofString " "++tx (txt b)++Str.ofString ")"=tx (txt (.bin k a b)):=by
      rw [e5,bL (x:=")") [41] rfl,fU]
      simp [txt]
     refine⟨vZ (bL [40] rfl) rfl (by simp only [List.length_append,List.length_cons,List.length_nil];omega),vZ e1 (bL [32] rfl) (by simp only [List.length_append,List.length_cons,List.length_nil];omega),_,hk,vZ e2 (aMf k) (by simp only [List.length_append,List.length_cons,List.length_nil];omega),vZ e3 (bL [32] rfl) (by simp only [List.length_append,List.length_cons,List.length_nil];omega),vZ e4 rfl (by simp only [List.length_append,List.length_cons,List.length_nil];omega),vZ e5 (bL [41] rfl) (by simp only [List.length_append,List.length_cons,List.length_nil];omega),?_⟩
     have okc:jL (.bin k a b):=⟨⟨(wd.ok a ham).1,(wd.ok b hbm).1⟩,fun x hx=>(List.mem_append.mp hx).elim ((wd.ok a ham).2 x) ((wd.ok b hbm).2 x)⟩
     have pa:=nU a
     have pb:=nU b
     refine⟨_,?_,_,.sh (.n way),.sh (tU a),.sh (tU b),rfl,wd.join ha hb okc (by simp only [ht];omega) (by simp only [cV];omega) (fun x=>List.mem_append),?_⟩
     ·rw [List.length_append];show _+1<_;omega
     ·rw [te2,List.map_append,e6]
      rfl
    ·refine⟨_,rfl,by rw [te,List.length_map];omega,by rw [te,List.length_map];omega,fun i2 j0 j1=>?_⟩
     rw [te,List.length_map]at j1
     obtain⟨n2,rfl⟩:=Int.eq_ofNat_of_zero_le j0
     obtain⟨b,hb⟩:∃b,(ts.eraseIdx n)[n2]? =some b:=⟨_,List.getElem?_eq_getElem (by omega)⟩
     have hbm:b∈ts:=(dD ha).mpr (.inr (List.mem_of_getElem? hb))
     have bl2:=wd.len hbm
     have l2:=gR hb
     refine⟨n2,tU b,rfl,by rw [te,List.getElem?_map,hb];rfl,by rw [te,List.length_map];omega,?_⟩
     have te2:((ts.map tU).eraseIdx n).eraseIdx n2=((ts.eraseIdx n).eraseIdx n2).map tU:=by rw [te];exact qQ ..
     refine⟨by rw [te2,List.length_map];omega,?_⟩
     have e1:Str.ofString "("++tx (txt a)=tx ([40]++txt a):=by rw [bL (x:="(") [40] rfl,fU]
     have e2:Str.ofString "("++tx (txt a)++Str.ofString " ? "=tx ([40]++txt a++[32,63,32]):=by rw [e1,bL (x:=" ? ") [32,63,32] rfl,fU]
     have e3:Str.ofString "("++tx (txt a)++Str.ofString " ? "++tx (txt b)=tx ([40]++txt a++[32,63,32]++txt b):=by rw [e2,fU]
     have e4:Str.ofString "("++tx (txt a)++Str.ofString " ? "++tx (txt b)++Str.ofString " : "=tx ([40]++txt a++[32,63,32]++txt b++[32,58,32]):=by rw [e3,bL (x:=" : ") [32,58,32] rfl,fU]
     refine⟨vZ (bL [40] rfl) rfl (by simp only [List.length_append,List.length_cons,List.length_nil];omega),vZ e1 (bL [32,63,32] rfl) (by simp only [List.length_append,List.length_cons,List.length_nil];omega),vZ e2 rfl (by simp only [List.length_append,List.length_cons,List.length_nil];omega),vZ e3 (bL [32,58,32] rfl) (by simp only [List.length_append,List.length_cons,List.length_nil];omega),9,rfl,by decide,by decide,fun c c0 c9=>⟨uI (by omega),?_⟩⟩
     have cl:=qN (n:=c) (by omega)
     have e5:Str.ofString "("++tx (txt a)++Str.ofString " ? "++tx (txt b)++Str.ofString " : "++tx (itx c)=tx ([40]++txt a++[32,63,32]++txt b++[32,58,32]++itx c):=by rw [e4,fU]
     have e6:Str.ofString "("++tx (txt a)++Str.ofString " ? "++tx (txt b)++Str.ofString " : "++tx (itx c)++Str.ofString ")"=tx (txt (.cho a b (.num c))):=by
      rw [e5,bL (x:=")") [41] rfl,fU]
      simp [txt]
     refine⟨vZ e4 rfl (by simp only [List.length_append,List.length_cons,List.length_nil];omega),vZ e5 (bL [41] rfl) (by simp only [List.length_append,List.length_cons,List.length_nil];omega),?_⟩
     have okc:jL (.cho a b (.num c)):=⟨⟨(wd.ok a ham).1,(wd.ok b hbm).1,by simp only [Wf];omega⟩,fun x hx=>(List.mem_append.mp hx).elim ((wd.ok a ham).2 x) fun h=>(List.mem_append.mp h).elim ((wd.ok b hbm).2 x) nofun⟩
     have pa:=nU a
     have pb:=nU b
     refine⟨_,?_,_,.sh (.n way),.sh (tU a),.sh (tU b),rfl,wd.join ha hb okc (by simp only [ht];omega) (by simp only [cV];omega) (fun x=>by simp [raw]),?_⟩
     ·rw [List.length_append];show _+1<_;omega
     ·rw [te2,List.map_append,e6]
      rfl
   ·have hc:=of_decide_eq_false hc
    rw [tl]at hc
    match ts,wd,hc with
    | [t],wd,_=>
     have:=wd.len (t:=t) (by simp)
     exact⟨_,rfl,q t (wd.ok t (by simp)) this.2.1 this.2.2 fun x=>by rw [wd.rw_ x];simp⟩
    | [],wd,_=>exact absurd wd.ne (by decide)
    |_::_::_,_,hc=>rw [List.length_cons,List.length_cons]at hc;omega
end
end Q
namespace Q
open PySem PyProof.Rows L2 KR
def rch (y:Tk) (k:Nat):Int:=let s:=(y.2.getD k 0);((if s<0 then-s else s)+y.1-1) / y.1
def zA (ys : List Tk) (k : Nat) (m : Int) : Prop := (ys = [] ∧ m = 0) ∨ (m ∈ ys.map (rch · k) ∧ ∀ a ∈ ys.map (rch · k), a ≤ m)
structure aOo (ys:List Tk) (n:Nat):Prop where
 gt:∀y∈ys,vP y/\y.2.length=n
 yl:ys.length<=17
 n3:n<=3
def aLx:Fv:=fun us R=>∃(ys:List Tk) (n k:Nat),us=[.ls (ys.map tkU),.n (k:Int)]/\aOo ys n/\k<n/\∀m,zA ys k m->R (.sh (.n m))
theorem aC2 {α:Type} {g:Tk->U} {f:U->(Option U->Prop)->Prop} {Q:List U->Prop} {ys:List Tk} (hf:∀y∈ys,∀k:Option U->Prop,k (some (g y))->f (tkU y) k) (hq:Q (ys.map g)):eO f (ys.map tkU) [] Q:=by
 have key:∀(zs:List Tk) (acc:List U),(∀y∈zs,∀k:Option U->Prop,k (some (g y))->f (tkU y) k)->Q (acc++zs.map g)->eO f (zs.map tkU) acc Q:=by
  intro zs
  induction zs with
  |nil=>exact fun acc _ q=>by rw [List.map_nil,List.append_nil]at q;exact q
  |cons z zs ih=>exact fun acc hf q=>hf z List.mem_cons_self _ (ih _ (fun y hy=>hf y (List.mem_cons_of_mem _ hy)) (by rw [List.append_assoc];exact q))
 exact key ys [] hf hq
section
variable {P:Program} {w:World} {K:PySem.W.Frag} {mg:Str->Option Value} {base:Heap} {f C:Addr} {fd:FuncData} {N:Cn} {d:Nat}
abbrev zT:List Str:=["takes","line"]
theorem yS:aM ["takes","line"] ["takes","line"] (aC jB):=⟨rfl,rfl,rfl,by decide+kernel,rfl,by decide+kernel,by decide+kernel⟩
theorem aJ6 (F : Fun K "reach_along" "reach_along" jB f fd) (T : Txt mg) : bB P w K mg base CX0 1 f fd ["takes", "line"] (spV aLx) := by
  refine vfn F yS (fun cdv A outer s H E hr => (aK (aZ (aBa rfl T.max (aN (kI (own := ["back", "steps"]) (cap := [("line", 1)]) (aC jB) zT rfl rfl (fun x h => bM h) (by decide +kernel) rfl (vic (cU (aB 0))) (fun cl C s2 H2 fp => (aBl rfl (lB (bJ (i := 0) (show (["back", "steps", "line"] : List Str).Nodup by decide +kernel) rfl (Or.inl rfl) (Or.inr rfl)) (lB (bJ (i := 1) (show (["back", "steps", "line"] : List Str).Nodup by decide +kernel) rfl (Or.inl rfl) (Or.inr rfl)) wO)))) (aFy (is := [0, 1]) rfl (by decide)) (fun cl C s2 H2 fp => (aY qD jV (aY oM dO (aY bA bN (bD aJa aPu T.abs boot_abs (aN (dG cC dH (aB 1) (aB 2)) aV)) (aB 0)) aF) (aB 0)))) aV) aF)))) ?_
  rintro _ R ⟨ys, n, k, rfl, g, kn, q⟩
  refine ⟨rfl, by rw [List.length_map]; have := g.yl; omega, aC2 (α := Unit) (g := fun y => .n (rch y k)) (fun y hy c hc => ?_) ?_⟩
  · obtain ⟨⟨g1, g2, _⟩, g4⟩ := g.gt y hy
    have hl : k < y.2.length := by omega
    refine ⟨rfl, U.n y.2[k], wB (by rw [List.getElem?_map, List.getElem?_eq_getElem hl]; rfl), ⟨by omega, by omega⟩, ?_⟩
    have e : rch y k = ((if y.2[k] < 0 then -y.2[k] else y.2[k]) + y.1 - 1) / y.1 := by unfold rch; rw [List.getD_eq_getElem?_getD, List.getElem?_eq_getElem hl]; rfl
    rw [e] at hc
    exact hc
  · refine ⟨ys.map (rch · k), by rw [List.map_map]; rfl, fun z => ?_, fun m hm ha => q m (.inr ⟨hm, ha⟩)⟩
    exact q 0 (.inl ⟨List.map_eq_nil_iff.mp z, rfl⟩)
def aB0 (ys:List Tk) (n:Nat) (ms:List Int):Prop:=ms.length=n/\∀k m,ms[k]? =some m->zA ys k m
def aKw (N:Cn) (CG CJ:Addr):Fv:=fun us R=>∃ns rs t ys m r ls,us=[aPy N CG CJ ns rs t ys m r ls]/\aJ0 ns rs t m r ls/\∀zs ms,oY t zs->aB0 zs ns.length ms->R (.ow (ms.map U.n))
theorem aO8 {t:Tm} {n:Nat} {zs:List Tk} (ok:jL t) (ln:Ln t n) (h:oY t zs):aOo zs n:=⟨fun y hy=>⟨(ok.2 y ((h.2 y).mp hy)).1,ln.2.1 y ((h.2 y).mp hy)⟩,wQ ln.few h,by have:=ln.1;omega⟩
theorem aAq {f:U->(Option U->Prop)->Prop} {Q:List U->Prop} (P:Nat->U->Prop) (n:Nat) (hf:∀k<n,∀c:Option U->Prop,(∀x,P k x->c (some x))->f (.n (0+(k:Int))) c) (hq:∀xs:List U,xs.length=n->(∀k x,xs[k]? =some x->P k x)->Q xs):eO f (rE 0 n) [] Q:=by
 have key:∀(m k:Nat) (acc:List U),acc.length=k->k+m=n->(∀i x,acc[i]? =some x->P i x)->eO f ((List.range' k m).map fun i:Nat=>U.n (0+(i:Int))) acc Q:=by
  intro m
  induction m with
  |zero=>exact fun k acc hl hk hp=>hq acc (by omega) hp
  |succ m ih=>
   intro k acc hl hk hp
   refine hf k (by omega) _ fun x hx=>ih (k+1) (acc++[x]) (by rw [List.length_append];show _+1=_;omega) (by omega) fun i y hy=>?_
   rw [List.getElem?_append]at hy
   split at hy
   ·exact hp i y hy
   ·rename_i h
    have e:i=k:=by
     have:i-acc.length<1:=by
      have:=(List.getElem?_eq_some_iff.mp hy).1
      simpa using this
     omega
    subst e
    rw [hl,Nat.sub_self]at hy
    cases hy
    exact hx
 have:=key n 0 [] rfl (by omega) (by simp)
 rw [<-List.range_eq_range']at this
 exact this
abbrev aEn:List Str:=["job","takes"]
theorem vG:aM ["job","takes"] ["job"] (aC nM):=⟨rfl,rfl,rfl,by decide+kernel,rfl,by decide+kernel,by decide+kernel⟩
theorem aK2 {CG CJ:Addr} (F:Fun K "reach_of" "reach_of" nM f fd) (cJ:Cfl K CJ ["taken","grid","term","modulus","rounds","first"]) (D_takes:jG P w K mg base N 9 "takes" (mY N 8)) (D_lines:Dis P w K mg base CX0 1 (·=CG) "lines" ["self"] fun _=>spV (aEw CG)) (c_reach_along:Cal P w K mg base CX0 1 "reach_along" ["takes","line"] (spV aLx)) (T:Txt mg):bB P w K mg base CX0 10 f fd ["job"] (spV (aKw N CG CJ)):=by
 refine vfn F vG (fun cdv A outer s H E hr=>(aH (cA (i:=1) vG.nd (bT (eF cJ (aB 0)) D_takes (hr.mono (by omega)))) (qM 1 (aK (aZ (kI (own:=["line"]) (cap:=[("takes",1)]) (aC nM) aEn rfl rfl (fun x h=>bM h) (by decide+kernel) rfl (vic (gZ T.range (aN (bT (eF cJ (aB 0)) D_lines (hr.mono (by omega))) aV))) (fun cl C s2 H2 fp=>(bJ (i:=0) (show(["line","takes"]:List Str).Nodup by decide+kernel) rfl (Or.inl rfl) (Or.inr rfl))) (cH (by decide)) (fun cl C s2 H2 fp=>(aO c_reach_along (hr.mono (by omega)) rfl (aA (aB 1) (aA (aB 0) aG)))))))))) ?_
 rintro _ R ⟨ns,rs,t,ys,m,r,ls,rfl,g,q⟩
 refine⟨rfl,rfl,.inr ⟨by decide+kernel,.inr ⟨by decide+kernel,.inl ⟨rfl,dZ t (by decide+kernel) ⟨t,rfl,rfl,g.hd,g.ln.few,fun zs hz=>?_⟩⟩⟩⟩⟩
 have gy:=aO8 g.ok g.ln hz
 refine⟨rfl,.inr ⟨by decide+kernel,.inl ⟨rfl,rfl,rfl,ns,rs,rfl,by omega,by have:=g.gs.l3;omega,by rw [cO];have:=g.gs.l3;omega,?_⟩⟩⟩
 refine aAq (fun k x=>∃m,x= .n m/\zA zs k m) _ (fun k hk c hc=>⟨zs,ns.length,k,by rw [Int.zero_add],gy,by omega,fun m hm=>hc _ ⟨m,rfl,hm⟩⟩) fun xs xl xp=>?_
 obtain⟨ms,rfl,hm⟩:=pull (p:=fun _=>True) (g:=U.n) (xs:=xs) fun x hx=>by
  obtain⟨i,hi,e⟩:=List.getElem_of_mem hx
  obtain⟨m,e2,_⟩:=xp i x (by rw [List.getElem?_eq_getElem hi,e])
  exact⟨m,e2,trivial⟩
 refine q zs ms hz ⟨by rw [List.length_map]at xl;omega,fun k m h=>?_⟩
 obtain⟨m',e,h'⟩:=xp k (.n m) (by rw [List.getElem?_map,h];rfl)
 cases e
 exact h'
end
end Q
namespace Q
open PySem PyProof.Rows L2 KR
abbrev wNm:List Str:=["sizes","rims","places","rounds","takes","deep","modulus","term","first","spots"]
def wU (ns:List Int) (rs:List Rim) (pl:List U) (r:Int) (ys:List Tk) (dp m:Int) (t:Tm) (ls:List (List Int)) (sp:List U):U:=
 .dk wNm [.ls (ns.map U.n),.ls (rs.map Rim.u),.ls pl,.n r,.ls (ys.map tkU),.n dp,.n m,tU t,.ls (gC ls),.ls sp]
structure GoodW (ns:List Int) (rs:List Rim) (r:Int) (ys:List Tk) (m:Int) (t:Tm) (ls:List (List Int)):Prop where
 gj:aJ0 ns rs t m r ls
 pr:cV t<=40
 tk:oY t ys
def aLg (K:PySem.W.Frag):Fv:=fun us R=>∃(sc:List Int) (k:Nat),us=[.op (aB1 K sc),.n (k:Int),.n 20]/\∀ns rs pl r ys dp m t ls sp,GoodW ns rs r ys m t ls->R (.sh (wU ns rs pl r ys dp m t ls sp))
def aOn (N:Cn) (CG CJ:Addr):Fv:=fun us R=>∃ns rs pl r ys dp m t ls sp,us=[wU ns rs pl r ys dp m t ls sp]/\GoodW ns rs r ys m t ls/\∀zs,oY t zs->R (.sh (aPy N CG CJ ns rs t zs m r ls))
section
variable {P:Program} {w:World} {K:PySem.W.Frag} {mg:Str->Option Value} {base:Heap} {f C:Addr} {fd:FuncData} {N:Cn} {d:Nat}
theorem aEj {x:Str} {u:U} {R:Sl->Prop} (q:R (.sh u)):∀{xs:List Str} {us:List U} {k:Nat},xs.Nodup->xs[k]? =some x->us[k]? =some u->zK x xs us R
 | [],_,_,_,h,_=>by simp at h
 |_::_,[],_,_,_,h=>by simp at h
 |a::xs,v::us,0,_,h1,h2=>by
  simp at h1 h2
  subst h1 h2
  exact .inl ⟨rfl,q⟩
 |a::xs,v::us,k+1,nd,h1,h2=>by
  have h1:xs[k]? =some x:=by simpa using h1
  refine .inr ⟨fun e=>?_,aEj q (List.nodup_cons.mp nd).2 h1 (by simpa using h2)⟩
  subst e
  exact(List.nodup_cons.mp nd).1 (List.mem_of_getElem? h1)
theorem wF {x:Str} {us:List U} {R:Sl->Prop} {u:U} (k:Nat) (hx:wNm[k]? =some x) (hu:us[k]? =some u) (q:R (.sh u)):zK x wNm us R:=aEj q (by decide+kernel) hx hu
theorem vN:aM ["_law_world_here","_law_grid"] ["_law_world_here"] (aC rP):=⟨rfl,rfl,rfl,by decide+kernel,rfl,by decide+kernel,by decide+kernel⟩
theorem aNy {CG CJ:Addr} (F:Fun K "_law_job" "_law_job" rP f fd) (M_Grid:MkU P w K mg base 5 CG "Grid" ["self","sizes","rims"] aE1) (M_Job:MkU P w K mg base 14 CJ "Job" ["self","grid","term","modulus","rounds","first"] (aFe N CG)) (c_read_term:Cal P w K mg base CX0 29 "read_term" ["text"] (spV (aK6 N))) (T:Txt mg):bB P w K mg base CX0 30 f fd ["_law_world_here"] (spV (aOn N CG CJ)):=by
 refine vfn F vN (fun cdv A outer s H E hr=>(aH (cA (i:=1) vN.nd (aGl M_Grid (hr.mono (by omega)) (aA (eU (kW rfl) sV T.list boot_list (aN (kE (iQ hr) (aB 0)) aV)) (aA (eU (kW rfl) sV T.list boot_list (aN (kE (iQ hr) (aB 0)) aV)) aG)))) (aK (aZ (aGl M_Job (hr.mono (by omega)) (aA (aB 1) (aA (aO c_read_term (hr.mono (by omega)) rfl (aA (kE (iQ hr) (aB 0)) aG)) (aA (kE (iQ hr) (aB 0)) (aA (kE (iQ hr) (aB 0)) (aA (kE (iQ hr) (aB 0)) aG)))))))))) ?_
 rintro _ R ⟨ns,rs,pl,r,ys,dp,m,t,ls,sp,rfl,g,q⟩
 refine⟨rfl,wF 0 rfl rfl (wF 1 rfl rfl ⟨ns,rs,rfl,g.gj.gs,g.gj.el,g.gj.rk,?_⟩)⟩
 refine wF 7 rfl rfl ⟨t,_,rfl,g.gj.hd,g.gj.ok,g.pr,g.gj.ln,wF 6 rfl rfl (wF 3 rfl rfl (wF 8 rfl rfl ?_))⟩
 exact⟨ns,rs,t,m,r,ls,rfl,g.gj,fun zs hz=>q zs hz⟩
def aGo:Fv:=fun us R=>∃ns rs pl r ys dp m t ls sp,∃k:Nat,us=[wU ns rs pl r ys dp m t ls sp,.n (k:Int)]/\GoodW ns rs r ys m t ls/\k<ns.length/\∀z,zA ys k z->R (.sh (.n z))
def far (ys:List Tk) (k:Nat) (z:Int):List Tk:=ys.filter fun y=>decide (z*y.1<y.2.getD k 0) || decide (z*y.1<0-y.2.getD k 0)
theorem aE7 {y:Tk} {k:Nat} {z:Int} (hb:1<=y.1):rch y k<=z↔ ¬(z*y.1<y.2.getD k 0)/\¬(z*y.1<0-y.2.getD k 0):=by
 unfold rch
 generalize y.2.getD k 0=s
 generalize y.1=b at*
 show((if s<0 then-s else s)+b-1) / b<=z↔_
 generalize ha:(if s<0 then-s else s)=a
 have h1:a<=z*b↔ ¬z*b<s/\¬z*b<0-s:=by
  rw [<-ha]
  generalize z*b=c
  split<;>omega
 rw [<-h1,Int.le_iff_lt_add_one,Int.ediv_lt_iff_lt_mul (by omega),Int.add_mul,Int.one_mul]
 omega
theorem aCn {ys:List Tk} {k:Nat} {z:Int} (hb:∀y∈ys,1<=y.1):far ys k z=[]↔ ∀y∈ys,rch y k<=z:=by
 unfold far
 rw [List.filter_eq_nil_iff]
 constructor
 ·intro h y hy
  have:=h y hy
  rw [aE7 (hb y hy)]
  simpa using this
 ·intro h y hy
  have:=(aE7 (hb y hy)).mp (h y hy)
  simpa using this
theorem pM (n:Nat) (ns:List Int):U.dts n (ns.map U.n):=by
 induction ns with
 |nil=>cases n<;>trivial
 |cons r rs ih=>cases n<;>exact⟨trivial,ih⟩
theorem aNi (n:Nat) (ys:List Tk):U.dts (n+2) (ys.map tkU):=by
 induction ys with
 |nil=>trivial
 |cons y ys ih=>exact⟨⟨trivial,pM n y.2,trivial⟩,ih⟩
theorem aHb (ys:List Tk):U.eq (.ls (ys.map tkU)) (.ls [])=ys.isEmpty:=by cases ys<;>rfl
theorem aFv {p:Tk->Bool} {f:U->(Option U->Prop)->Prop} {Q:List U->Prop} {ys:List Tk} (hf:∀y∈ys,∀k:Option U->Prop,(p y=true->k (some (tkU y)))->(p y=false->k none)->f (tkU y) k) (hq:Q ((ys.filter p).map tkU)):eO f (ys.map tkU) [] Q:=by
 have key:∀(zs:List Tk) (acc:List U),(∀y∈zs,∀k:Option U->Prop,(p y=true->k (some (tkU y)))->(p y=false->k none)->f (tkU y) k)->Q (acc++(zs.filter p).map tkU)->eO f (zs.map tkU) acc Q:=by
  intro zs
  induction zs with
  |nil=>exact fun acc _ q=>by rw [List.filter_nil,List.map_nil,List.append_nil]at q;exact q
  |cons z zs ih=>
   intro acc hf q
   refine hf z List.mem_cons_self _ (fun h=>?_) fun h=>?_
   ·rw [List.filter_cons_of_pos h]at q
    exact ih _ (fun y hy=>hf y (List.mem_cons_of_mem _ hy)) (by rw [List.append_assoc];exact q)
   ·rw [List.filter_cons_of_neg (by rw [h];exact Bool.false_ne_true)]at q
    exact ih _ (fun y hy=>hf y (List.mem_cons_of_mem _ hy)) q
 exact key ys [] hf hq
abbrev aBx:List Str:=["_law_world_here","_law_k","_law_s","_law_far"]
theorem lY:aM ["_law_world_here","_law_k","_law_s","_law_far"] ["_law_world_here","_law_k"] (aC jY):=⟨rfl,rfl,rfl,by decide+kernel,rfl,by decide+kernel,by decide+kernel⟩
theorem aH2 (F:Fun K "_law_reach" "_law_reach" jY f fd) (T:Txt mg):bB P w K mg base CX0 1 f fd ["_law_world_here","_law_k"] (spV aGo):=by
 refine vfn F lY (fun cdv A outer s H E hr=>(aH (nZ PassesOwn.never rfl (gZ T.range (aN aF aV)) (lN (i:=2) lY.nd) (aH (aQe (i:=3) (own:=["_law_one"]) (cap:=[("_law_k",1),("_law_s",2)]) lY.nd (aC jY) aBx rfl rfl (fun x h=>bM h) (by decide+kernel) rfl (vic (cU (kE (iQ hr) (aB 0)))) (fun cl C s2 H2 fp=>(bJ (i:=0) (show(["_law_one","_law_k","_law_s"]:List Str).Nodup by decide+kernel) rfl (Or.inl rfl) (Or.inr rfl))) (cH (by decide)) (fun cl C s2 H2 fp=>(sS (rJ (dC rB dO (dG cC dH (dG cC dH (aB 0) aF) (aB 1)) (aY kZ jV (aB 2) (dG cC dH (aB 0) aF))) (oG (dC rB dO (aY oM dO aF (dG cC dH (dG cC dH (aB 0) aF) (aB 1))) (aY kZ jV (aB 2) (dG cC dH (aB 0) aF))))))) (fun cl C s2 H2 fp=>(aB 0))) (aK (fO (dC (uZ (huD hr)) pH (aB 3) (cD aG)) (aK (wN 2)) cB)))) (aK (aZ rR)))) ?_
 rintro _ R ⟨ns,rs,pl,r,ys,dp,m,t,ls,sp,k,rfl,g,hk,q⟩
 refine⟨rfl,by decide,by decide,?_⟩
 have gy:=aO8 g.gj.ok g.gj.ln g.tk
 have hb:∀y∈ys,1<=y.1:=fun y hy=>(gy.gt y hy).1.1
 have f9:far ys k 9=[]:=(aCn hb).mpr fun y hy=>by
  obtain⟨⟨g1,g2,g3⟩,g4⟩:=gy.gt y hy
  rw [aE7 g1]
  have hl:k<y.2.length:=by omega
  have h9:=g3 _ (List.getElem_mem hl)
  rw [List.getD_eq_getElem?_getD,List.getElem?_eq_getElem hl]
  simp only [Option.getD_some]
  omega
 refine gG (fun l ρ=>∃(j:Nat) (x y:Sl),l=(List.range' j (10-j)).map (fun i:Nat=>U.n (0+(i:Int)))/\j<=10/\ρ=[.sh (wU ns rs pl r ys dp m t ls sp),.sh (.n k),x,y]/\∀i<j,far ys k (i:Int)≠[]) ?_ ?_ ⟨0,_,_,by rw [<-List.range_eq_range'];rfl,by omega,rfl,fun i h=>absurd h (Nat.not_lt_zero i)⟩
 ·rintro ρ ⟨j,x,y,e,hj,rfl,hf⟩
  have:j=10:=by
   have:=congrArg List.length e
   simp at this
   omega
  subst this
  exact absurd f9 (hf 9 (by decide))
 ·rintro u l ρ ⟨j,x,y,e,hj,rfl,hf⟩ ih
  have j10:j<10:=by
   have:=congrArg List.length e
   simp at this
   omega
  rw [show 10-j=(9-j)+1 by omega,List.range'_succ,List.map_cons]at e
  obtain⟨rfl,rfl⟩:=List.cons.inj e
  refine wF 4 rfl rfl ⟨by rw [List.length_map];have:=gy.yl;omega,aFv (p:=fun y=>decide ((j:Int)*y.1<y.2.getD k 0) || decide ((j:Int)*y.1<0-y.2.getD k 0)) (fun y hy c h1 h2=>?_) ?_⟩
  ·obtain⟨⟨g1,g2,g3⟩,g4⟩:=gy.gt y hy
   have hl:k<y.2.length:=by omega
   have eD:y.2.getD k 0=y.2[k]:=by rw [List.getD_eq_getElem?_getD,List.getElem?_eq_getElem hl];rfl
   rw [eD]at h1 h2
   have at_:atI (y.2.map U.n) (k:Int)=some (U.n y.2[k]):=wB (by rw [List.getElem?_map,List.getElem?_eq_getElem hl];rfl)
   refine⟨_,rfl,_,at_,_,rfl,.inl ⟨by omega,by omega⟩,fun h=>⟨fun _=>h1 ?_,nofun⟩,fun h=>⟨_,rfl,_,at_,_,rfl,.inl ⟨by omega,by omega⟩,fun h'=>h1 ?_,fun h'=>h2 ?_⟩⟩
   ·rw [Int.zero_add]at h
    simp [of_decide_eq_true h]
   ·rw [Int.zero_add]at h'
    have:=of_decide_eq_true h'
    simp only [Bool.or_eq_true,decide_eq_true_eq]
    exact .inr this
   ·rw [Int.zero_add]at h h'
    have a:=of_decide_eq_false h
    have b:=of_decide_eq_false h'
    simp only [Bool.or_eq_false_iff,decide_eq_false_iff_not]
    exact⟨a,b⟩
  ·refine⟨aNi 37 _,trivial,fun h=>?_,fun h=>?_⟩
   ·have hz:far ys k (j:Int)=[]:=List.isEmpty_iff.mp ((aHb _).symm.trans h)
    have:=q (j:Int) ?_
    ·show R (.sh (.n (0+(j:Int))))
     rw [Int.zero_add]
     exact this
    ·by_cases hy:ys=[]
     ·refine .inl ⟨hy,?_⟩
      by_cases h0:j=0
      ·rw [h0];rfl
      ·exact absurd (by rw [hy];rfl) (hf 0 (by omega))
     ·have le:=(aCn hb).mp hz
      refine .inr ⟨?_,fun a ha=>?_⟩
      ·by_cases h0:j=0
       ·obtain⟨y,l,rfl⟩:=List.exists_cons_of_ne_nil hy
        have h1:=le y List.mem_cons_self
        have h2:0<=rch y k:=by
         have:=hb y List.mem_cons_self
         unfold rch
         refine Int.ediv_nonneg ?_ (by omega)
         show 0<=(if _<0 then _ else _)+y.1-1
         split<;>omega
        rw [h0]at h1⊢
        exact List.mem_map.mpr ⟨y,List.mem_cons_self,by show rch y k=0;have:rch y k<=0:=h1;omega⟩
       ·have hn:=hf (j-1) (by omega)
        have:∃y∈ys,¬rch y k<=((j-1:Nat):Int):=Classical.byContradiction fun hc=>hn ((aCn hb).mpr fun y hy=>Classical.byContradiction fun hh=>hc ⟨y,hy,hh⟩)
        obtain⟨y,hy,h1⟩:=this
        have h2:=le y hy
        exact List.mem_map.mpr ⟨y,hy,by show rch y k=j;omega⟩
      ·obtain⟨y,hy,rfl⟩:=List.mem_map.mp ha
       exact le y hy
   ·exact ih _ ⟨j+1,_,_,by rw [show 10-(j+1)=9-j by omega],by omega,rfl,fun i hi=>by
     by_cases e:i=j
     ·rw [e]
      intro z
      have h:(far ys k (j:Int)).isEmpty=false:=(aHb _).symm.trans h
      rw [z]at h
      cases h
     ·exact hf i (by omega)⟩
end
end Q
namespace Q
open PySem PyProof.Rows L2 KR
section
variable {P:Program} {w:World} {K:PySem.W.Frag} {mg:Str->Option Value} {base:Heap} {f C:Addr} {fd:FuncData} {N:Cn} {d:Nat}
structure Drawn (ys zs:List Tk) (dp m:Int) (t:Tm) (ls:List (List Int)) (n:Nat):Prop where
 so:zs.Pairwise fun x y=>nG x y=true
 mem:∀y,y∈zs↔y∈ys
 d1:dp∈(1:Int)::ys.map (·.1)
 dm:∀a∈(1:Int)::ys.map (·.1),a<=dp
 m2:2<=m/\m<=1000000000
 ok:jL t
 hd:ht t<=7
 pr:cV t<=19
 rw_:∀x,x∈ys↔x∈raw t
 ll:(ls.length:Int)=dp
 lo:∀l∈ls,l.length=n/\∀x∈l,0<=x/\x<m
mutual
theorem aOq:∀{n m:Nat},n<=m->∀u:U,U.dt n u->U.dt m u
 |_,_,_,.v _,_=>by unfold U.dt;trivial
 |n+1,m+1,h,.tp l,t=>aBj (Nat.le_of_succ_le_succ h) l t
 |n+1,m+1,h,.ls l,t=>aBj (Nat.le_of_succ_le_succ h) l t
theorem aBj:∀{n m:Nat},n<=m->∀l:List U,U.dts n l->U.dts m l
 |_,_,_,[],_=>by unfold U.dts;trivial
 |_,_,h,u::l,⟨a,b⟩=>⟨aOq h u a,aBj h l b⟩
end
structure Sg (ρ:EV) (σ0:L2.St) (p:Addr) (σ:L2.St):Prop where
 l:σ.length=σ0.length
 o:∀(i:Nat) (s:Sl),ρ[i]? =some s->s≠ .no->σ[i]? =σ0[i]?
 p:σ[12]? =some (some (.ref p))
theorem Sg.set {ρ:EV} {σ0 σ:L2.St} {p:Addr} {x:Option V} (g:Sg ρ σ0 p σ) (h:ρ[13]? =some .no):Sg ρ σ0 p (σ.set 13 x):=⟨(List.length_set ..).trans g.l,fun i s h1 h2=>(List.getElem?_set_ne (fun z=>by
 rw [<-z,h]at h1
 exact h2 (Option.some.inj h1).symm)).trans (g.o i s h1 h2),(List.getElem?_set_ne (by decide)).trans g.p⟩
theorem aP5 {W B:Addr->Prop} {Hs Hb H H':Hp} {p q:Addr} {ns:List Str} {us:List U} {xs:List V} {k:Str} {rows:List (List Int)} {l:List Int} {v:V} (i:LI W B Hs Hb p q ns us xs k (gC rows) H) (f:Fw W H H') (e:EB W B H) (r:RO W B H H' (.ow (l.map U.n)) v) (hz:rows.length<=100):∃ys,H' q=some (.lst ys)/\ys.length<sizeLine/\LI W B Hs Hb p q ns us xs k (gC (rows++[l])) (upd H' q (.lst (ys++[v]))):=by
 obtain⟨qr,xr,rfl,nr,gr,dr⟩:=r
 obtain⟨y0,hq0,_⟩:=i.hq
 obtain⟨ys,hq,dq⟩:=(i.go f).hq
 refine⟨ys,hq,?_,?_⟩
 ·have:=dq.length
  have e:(gC rows).length=rows.length:=List.length_map ..
  have:(10000:Nat)<=sizeLine:=by decide
  omega
 ·have e2:gC (rows++[l])=gC rows++[.ls (l.map U.n)]:=List.map_append ..
  rw [e2]
  refine(i.go f).app (u:= .ls (l.map U.n)) (v:= .ref qr) ⟨qr,xr,rfl,fun z=>z.elim (e.nw nr) fun z=>?_,gr,?_⟩ hq
  ·rw [z,hq0]at nr
   cases nr
  ·rw [dr.ints]
   exact DUs.mapInts
theorem aEi (i:Int):∀{l:List U},U.dts 5 l->U.dts 30 (l.map fun u=>U.tp [.n i,u])
 | [],_=>trivial
 |u::_,⟨a,b⟩=>⟨⟨trivial,aOq (by decide) u a,trivial⟩,aEi i b⟩
def aUg:TVS:=fun E ρ=>∃(a0 a1 a2 a7 a8 a9 a12 a13:Sl) (ns:List Int) (rs:List Rim) (pl:List U) (ys:List Tk) (r:Int),ρ=[a0,a1,a2,.sh .wl,.sh (.ls (ns.map U.n)),.sh (.ls (rs.map Rim.u)),.sh (.ls pl),a7,a8,a9,.sh (.ls (ys.map tkU)),.sh (.n r),a12,a13]/\
 pl.length<=40/\U.dts 5 pl/\ys.length<=6/\(∀y∈ys,vP y/\1<=y.2.length/\y.2.length<=3)/\0<=r/\r<=12/\∀zs dp m t ls sp,U.dts 30 sp->Drawn ys zs dp m t ls pl.length->E.rt (.sh (wU ns rs pl r zs dp m t ls sp))
abbrev fG:List Str:=["_law_script","_law_k","_law_most","_law_well_here","_law_sizes","_law_rims","_law_places","_law_size","_law_longer","_law_place","_law_takes","_law_rounds","_law_world_here","_law_turn"]
theorem bC:aM ["_law_script","_law_k","_law_most","_law_well_here","_law_sizes","_law_rims","_law_places","_law_size","_law_longer","_law_place","_law_takes","_law_rounds","_law_world_here","_law_turn"] ["_law_script","_law_k","_law_most"] (aC bO):=⟨rfl,rfl,rfl,by decide+kernel,rfl,by decide+kernel,by decide+kernel⟩
theorem yM {n m:Nat} (h:n<=m) {l:List U} (t:U.dts n l):U.dts m l:=aBj h l t
set_option maxHeartbeats 4000000 in
theorem suf (T:Txt mg) (c__law_draw:Cal P w K mg base CX0 3 "_law_draw" ["_law_well_here","_law_most"] (spV aAl)) (c__law_term:Cal P w K mg base CX0 4 "_law_term" ["_law_well_here","_law_takes"] (spV aFm)) (F:Fun K "_law_world" "_law_world" bO f fd) (cdv:Value) (A:Around) (outer:List Env) (s:Shared) (H:Hp) (E:XK) (hr:eY 29 (A.deeper (envOfC "_law_world" (aC bO) s.heap.objs.size f cdv))):
  VSs (aC8 CX0 P w K mg base fG "_law_world" (aC bO) f cdv A outer s H E).nox ((fH bO).drop 6) aUg:=by
 refine⟨_,(aD (fX (i:=12) bC.nd rfl (Or.inr rfl) (aNj (pN bK (pv 4) (pN bK (pv 5) (pN bK (pv 6) (pN bK (pv 11) (pN bK (VE.can (aGm hr rfl T.sorted T.set (aN (aB 10) aV))) aNq))))) rfl rfl (fun z=>nomatch z) (by decide))) (aD (qP (iQ hr) (pv 12) bK (VE.can (bD (aH8 rfl) aM7 T.max boot_max (aN (aY bA bN (cD (aA aF aG)) (kI (own:=["_law_back","_law_steps"]) (cap:=[]) (aC bO) fG rfl rfl (fun x h=>bM h) (by decide+kernel) rfl (vic (cU (aB 10))) (fun cl C s2 H2 fp=>(aBl rfl (lB (bJ (i:=0) (show(["_law_back","_law_steps"]:List Str).Nodup by decide+kernel) rfl (Or.inl rfl) (Or.inr rfl)) (lB (bJ (i:=1) (show(["_law_back","_law_steps"]:List Str).Nodup by decide+kernel) rfl (Or.inl rfl) (Or.inr rfl)) wO)))) (aFy (is:=[0,1]) rfl (by decide)) (fun cl C s2 H2 fp=>(aB 0)))) aV))) rfl) (aD (qP (iQ hr) (pv 12) bK (VE.can (aY bA bN aF (aO c__law_draw (hr.mono (by omega)) rfl (aA (aB 3) (aA (dG cC dH (cD (aA aF (aA (aY oM dO (aY aKj jV aF aF) aF) aG))) (aO c__law_draw (hr.mono (by omega)) rfl (aA (aB 3) (aA aF aG)))) aG))))) rfl) (aD (qP (iQ hr) (pv 12) bK (VE.can (aO c__law_term (hr.mono (by omega)) rfl (aA (aB 3) (aA (aB 10) aG)))) rfl) (aD (qP (iQ hr) (pv 12) bK (VE.can (cD aG)) rfl) (aD (aBw PassesOwn.never rfl (aAn rfl T.range (aL (VE.can (kE (iQ hr) (aB 12))) aX)) (bJ (i:=13) bC.nd rfl (Or.inr rfl)) (aP (cL (zF PySem.F.plainAttrs_list PySem.F.slot_list_append PySem.F.type_list_append mU (aG9 (iQ hr) (pv 12) bK (fun _ _=>rfl)) (aL (VE.can (kI (own:=["_law_place"]) (cap:=[("_law_well_here",3),("_law_world_here",12)]) (aC bO) fG rfl rfl (fun x h=>bM h) (by decide+kernel) rfl (vic (cU (aB 6))) (fun cl C s2 H2 fp=>(bJ (i:=0) (show(["_law_place","_law_well_here","_law_world_here"]:List Str).Nodup by decide+kernel) rfl (Or.inl rfl) (Or.inr rfl))) (cH (by decide)) (fun cl C s2 H2 fp=>(aO c__law_draw (hr.mono (by omega)) rfl (aA (aB 1) (aA (kE (iQ hr) (aB 2)) aG)))))) aX))))) (aD (qP (iQ hr) (pv 12) bK (VE.can (cD aG)) rfl) (aD (aBw PassesOwn.never rfl (aAh rfl T.range (aL (VE.can aF) (aL (VE.can (aY bA bN (aB 11) aF)) aX))) (bJ (i:=13) bC.nd rfl (Or.inr rfl)) (aP (qP (iQ hr) (pv 12) bK (VE.can (aY bA bN (kE (iQ hr) (aB 12)) (kI (own:=["_law_place"]) (cap:=[("_law_turn",13)]) (aC bO) fG rfl rfl (fun x h=>bM h) (by decide+kernel) rfl (vic (cU (aB 6))) (fun cl C s2 H2 fp=>(bJ (i:=0) (show(["_law_place","_law_turn"]:List Str).Nodup by decide+kernel) rfl (Or.inl rfl) (Or.inr rfl))) (cH (by decide)) (fun cl C s2 H2 fp=>(lE (aA (aB 1) (aA (aB 0) aG))))))) rfl))) (aP (bU (pv 12))))))))))),?_⟩
 rintro W B H0 A ρ σ H E D o ⟨a0,a1,a2,a7,a8,a9,a12,a13,ns,rs,pl,ys,r,rfl,pl40,pdt,yl,yg,r0,r12,q⟩ j
 have em:EE W (Bx B A) H [.no,.no,.no,.sh .wl,.sh (.ls (ns.map U.n)),.sh (.ls (rs.map Rim.u)),.sh (.ls pl),.no,.no,.no,.sh (.ls (ys.map tkU)),.sh (.n r),.no,.no] σ:=o.ee.fgt (fun i s h=>by
  rcases i with _|_|_|_|_|_|_|_|_|_|_|_|_|_|i<;>first|exact .inr h|exact .inl (Option.some.inj h).symm|exact nomatch h) rfl
 have sl:σ.length=14:=em.len.symm
 obtain⟨v4,h4,d4⟩:=em.sh 4 _ rfl
 obtain⟨v5,h5,d5⟩:=em.sh 5 _ rfl
 obtain⟨v6,h6,d6⟩:=em.sh 6 _ rfl
 obtain⟨v11,h11,d11⟩:=em.sh 11 _ rfl
 refine fun p n1=>⟨v4,h4,v5,h5,v6,h6,v11,h11,?_⟩
 have f1:Fw W H (upd H p (.dK [])):=em.eb.new n1
 have nB:¬Bx B A p:=em.eb.nw n1
 have nW:¬W p:=fun z=>nB (em.eb.wb p z)
 refine jJ (R:=fun s=>∃zs:List Tk,zs.Pairwise (fun x y=>nG x y=true)/\(∀y,y∈zs↔y∈ys)/\s= .ow (zs.map tkU)) (em.to f1) ⟨ys,ys,rfl,by omega,by omega,fun x h=>h,fun zs h1 h2=>⟨zs,h1,h2,rfl⟩⟩ fun s v7 H2 hs w2 r2=>?_
 obtain⟨zs,z1,z2,rfl⟩:=hs
 obtain⟨q7,x7,rfl,n7,g7,d7⟩:=r2
 have hp2:H2 p=some (.dK []):=w2.fr _ _ nW aJ
 refine⟨hp2,[(.inr "sizes",v4),(.inr "rims",v5),(.inr "places",v6),(.inr "rounds",v11),(.inr "takes",.ref q7)],rfl,by show(5:Nat)<=15;decide,?_⟩
 have mk:uK [] [(.inr "sizes",v4),(.inr "rims",v5),(.inr "places",v6),(.inr "rounds",v11),(.inr "takes",.ref q7)]=zk ["sizes","rims","places","rounds","takes"] [v4,v5,v6,v11,.ref q7]:=by
  show putK (putK (putK (putK (putK (zk [] []) (.inr "sizes") v4) (.inr "rims") v5) (.inr "places") v6) (.inr "rounds") v11) (.inr "takes") (.ref q7)=_
  rw [qL rfl (by decide+kernel),qL rfl (by decide+kernel),qL rfl (by decide+kernel),qL rfl (by decide+kernel),qL rfl (by decide+kernel)]
  rfl
 rw [mk]
 have f2:Fw W H H2:=f1.trans w2
 have kp2:=em.eb.keep f2
 have D1:DS W (Bx B A) H p ["sizes","rims","places","rounds","takes"] [.ls (ns.map U.n),.ls (rs.map Rim.u),.ls pl,.n r,.ls (zs.map tkU)] (upd H2 p (.dK (zk ["sizes","rims","places","rounds","takes"] [v4,v5,v6,v11,.ref q7]))):=by
  have dt:U.dts 40 [.ls (ns.map U.n),.ls (rs.map Rim.u),.ls pl,.n r,.ls (zs.map tkU)]:=⟨pM 39 _,yM (by decide) (aB5 _),yM (by decide) pdt,trivial,yM (by decide) (aB9 _),trivial⟩
  refine⟨f2.upd n1 nW,em.eb,n1,⟨_,aJ,rfl,DUs.data (qK hp2) 40 _ dt ?_⟩,dt⟩
  exact⟨_,_,rfl,DU.mono kp2 _ d4,_,_,rfl,DU.mono kp2 _ d5,_,_,rfl,DU.mono kp2 _ d6,_,_,rfl,DU.mono kp2 _ d11,_,_,rfl,⟨q7,x7,rfl,(em.eb.to f1).nw n7,g7,d7.less⟩,rfl⟩
 revert D1
 generalize upd H2 p (.dK (zk ["sizes","rims","places","rounds","takes"] [v4,v5,v6,v11,.ref q7]))=H3
 intro D1
 have so:∀(x:Option V) (i:Nat) (s:Sl),([.no,.no,.no,.sh .wl,.sh (.ls (ns.map U.n)),.sh (.ls (rs.map Rim.u)),.sh (.ls pl),.no,.no,.no,.sh (.ls (ys.map tkU)),.sh (.n r),.no,.no]:EV)[i]? =some s->s≠ .no->(σ.set 12 x)[i]? =σ[i]? :=fun x i s h hn=>by
  rw [List.getElem?_set_ne]
  intro z
  subst z
  exact hn (Option.some.inj h).symm
 have h12:(σ.set 12 (some (.ref p)))[12]? =some (some (.ref p)):=get_set (by omega)
 have s1l:(σ.set 12 (some (.ref p))).length=σ.length:=List.length_set ..
 refine jJ (R:=fun s=>∃dp:Int,dp∈(1:Int)::ys.map (·.1)/\(∀a∈(1:Int)::ys.map (·.1),a<=dp)/\s= .sh (.n dp)) (D1.ee em (so _) s1l h12) ⟨by rw [List.length_map];omega,aC2 (g:=fun y=>U.n y.1) (α:=Unit) (fun y hy k hk=>⟨rfl,hk⟩) ⟨?_,(1:Int)::ys.map (·.1),?_,nofun,fun m h1 h2=>⟨m,h1,h2,rfl⟩⟩⟩ fun s v8 H4 hs w4 r4=>?_
 ·show 1+_<=10000
  rw [List.length_map];omega
 ·show [U.ls ([U.n 1]++_)]=_
  rw [List.map_cons,List.map_map];rfl
 obtain⟨dp,dp1,dpm,rfl⟩:=hs
 refine⟨_,h12,(D1.go w4).put (u:= .n dp) r4 trivial (by decide+kernel) (by decide) fun H5 D2=>?_⟩
 refine jJ (R:=fun s=>∃m:Int,(2<=m/\m<=1000000000)/\s= .sh (.n m)) (D2.ee em (so _) s1l h12) ?_ fun s v8 H6 hs w6 r6=>?_
 ·have key:∀r:Int,0<=r->r<2->∃M:Int,atI [U.n 9,U.n (10 ^ (9:Int).toNat-1)] r=some (.n M)/\0<M/\M<=999999999:=fun r h0 h2=>by
   have:r=0∨r=1:=by omega
   rcases this with rfl|rfl
   ·exact⟨9,rfl,by decide,by decide⟩
   ·exact⟨_,rfl,by decide,by decide⟩
  refine⟨⟨by decide,by decide,by decide⟩,2,rfl,by decide,by decide,fun r a b=>?_⟩
  obtain⟨M,eM,M0,M9⟩:=key r a b
  exact⟨_,eM,M,rfl,M0,by omega,fun r2 a2 b2=>⟨2+r2,⟨by omega,by omega⟩,rfl⟩⟩
 obtain⟨m,m2,rfl⟩:=hs
 refine⟨_,h12,(D2.go w6).put (u:= .n m) r6 trivial (by decide+kernel) (by decide) fun H7 D3=>?_⟩
 refine jJ (R:=fun s=>∃t,jL t/\ht t<=7/\cV t<=19/\(∀x,x∈ys↔x∈raw t)/\s= .sh (tU t)) (D3.ee em (so _) s1l h12) ⟨ys,rfl,yl,yg,fun t a b c d=>⟨t,a,b,c,d,rfl⟩⟩ fun s v9 H8 hs w8 r8=>?_
 obtain⟨t,t1,t2,t3,t4,rfl⟩:=hs
 refine⟨_,h12,(D3.go w8).put (u:=tU t) r8 trivial (by decide+kernel) (by decide) fun H9 D4=>?_⟩
 refine jJ (R:=fun s=>s= .ow []) (D4.ee em (so _) s1l h12) rfl fun s v10 H10 hs w10 r10=>?_
 subst hs
 obtain⟨q0,x0,rfl,n0,g0,e0⟩:=r10
 obtain rfl:x0=[]:=e0
 obtain⟨xs8,p8,l8,ds8⟩:=D4.is
 have D4':=D4.go w10
 refine⟨_,h12,D4'.put' (u:= .ls []) (w10.fr _ _ D4.nW p8) l8 (DUs.mono (D4.ebn.keep w10) _ ds8) ⟨q0,[],rfl,D4.ebn.nw n0,g0,rfl⟩ trivial (by decide+kernel) (by decide) fun D5=>?_⟩
 have L0:LI W (Bx B A) H H9 p q0 _ _ xs8 "first" [] (upd H10 p (.dK (zk _ (xs8++[.ref q0])))):=⟨D4,l8,ds8,n0,D5.fw,fun b o n h t=>qK (B:=Bx B A) (w10.fr _ _ D4.nW p8) b o n (w10.fr _ _ (fun z=>n (em.eb.wb b z)) h) t,aJ,[],(aQ (fun z=>by rw [z]at n0;rw [n0]at p8;cases p8)).trans g0,rfl⟩
 revert L0 D5
 generalize upd H10 p (.dK (zk _ (xs8++[.ref q0])))=H11
 intro D5 L0
 refine jJ (R:=fun s=>s= .sh (.n dp)) (D5.ee em (so _) s1l h12) (show zK "deep" (wNm.take 9) _ _ from aEj (R:=fun s=>s= .sh (.n dp)) (u:= .n dp) (xs:=wNm.take 9) (k:=5) rfl (by decide+kernel) rfl rfl) fun s v11 H12 hs w12 r12'=>?_
 subst hs
 obtain⟨rfl,_⟩:=r12'
 have dp0:1<=dp:=dpm 1 List.mem_cons_self
 have dp3:dp<=3:=by
  rcases List.mem_cons.mp dp1 with rfl|h
  ·decide
  ·obtain⟨y,hy,rfl⟩:=List.mem_map.mp h
   exact(yg y hy).1.2.1
 have sg1:Sg [.no,.no,.no,.sh .wl,.sh (.ls (ns.map U.n)),.sh (.ls (rs.map Rim.u)),.sh (.ls pl),.no,.no,.no,.sh (.ls (ys.map tkU)),.sh (.n r),.no,.no] σ p (σ.set 12 (some (.ref p))):=⟨s1l,so _,h12⟩
 refine⟨dp,rfl,by omega,by omega,⟨fun i k σ' H'=>k=dp.toNat-i/\Sg [.no,.no,.no,.sh .wl,.sh (.ls (ns.map U.n)),.sh (.ls (rs.map Rim.u)),.sh (.ls pl),.no,.no,.no,.sh (.ls (ys.map tkU)),.sh (.n r),.no,.no] σ p σ'/\∃rows:List (List Int),rows.length=i/\i<=dp.toNat/\(∀l∈rows,l.length=pl.length/\∀x∈l,0<=x/\x<m)/\LI W (Bx B A) H H9 p q0 _ _ xs8 "first" (gC rows) H',⟨_,rfl,sg1,[],rfl,Nat.zero_le _,nofun,L0.go w12⟩,?_⟩⟩
 rintro i k σ' H' ⟨rfl,sg,rows,rfl,hi,hrow,L⟩
 have DL:=L.dsn (yM (by decide) (aBf rows))
 by_cases hlt:rows.length<dp.toNat
 ·refine .inr ⟨hlt,fun σ2 H2=>Sg [.no,.no,.no,.sh .wl,.sh (.ls (ns.map U.n)),.sh (.ls (rs.map Rim.u)),.sh (.ls pl),.no,.no,.no,.sh (.ls (ys.map tkU)),.sh (.n r),.no,.no] σ p σ2/\∃rows':List (List Int),rows'.length=rows.length+1/\(∀l∈rows',l.length=pl.length/\∀x∈l,0<=x/\x<m)/\LI W (Bx B A) H H9 p q0 _ _ xs8 "first" (gC rows') H2,fun σ2 H2 ⟨sg2,rows',e,h,L'⟩=>⟨_,by omega,rfl,sg2,rows',e,by omega,h,L'⟩,?_⟩
  rintro x H'' ⟨rfl,rfl⟩
  have sg3:=sg.set (x:=some (.int (0+(rows.length:Int)))) rfl
  have dg:aD1 H'' p (.str "first") (some (.ref q0)):=by
   have:=aD1.k (k:=Sum.inr "first") L.hp
   rw [aKh l8 (by decide+kernel)]at this
   exact this
  obtain⟨y0,hq0,_⟩:=L.hq
  refine⟨_,sg3.p,p,_,rfl,dg,.inl ⟨rfl,_,SqL.of hq0⟩,jJ (R:=fun s=>∃l:List Int,l.length=pl.length/\(∀x∈l,0<=x/\x<m)/\s= .ow (l.map U.n)) (DL.ee em sg3.o sg3.l sg3.p) ⟨by omega,jZ (fun x=>∃n:Int,x= .n n/\(0<=n/\n<m)) (fun u hu c hc=>?_) fun xs xl xp=>?_⟩ fun s v H13 hs w13 r13=>?_⟩
  ·exact show zK "modulus" (wNm.take 9) _ _ from aEj (xs:=wNm.take 9) (k:=6) ⟨m,rfl,by omega,by omega,fun r a b=>hc _ ⟨r,rfl,a,b⟩⟩ (by decide+kernel) rfl rfl
  ·obtain⟨l,rfl,hl⟩:=pull xp
   exact⟨l,by rw [List.length_map]at xl;exact xl,hl,rfl⟩
  ·obtain⟨l,ll,lx,rfl⟩:=hs
   obtain⟨ys',g1,g2,g3⟩:=aP5 L w13 DL.ebn r13 (by omega)
   exact⟨q0,ys',_,rfl,rfl,g1,g2,sg3,rows++[l],by simp,fun x hx=>(List.mem_append.mp hx).elim (hrow x) fun z=>by rw [List.mem_singleton.mp z];exact⟨ll,lx⟩,g3⟩
 ·refine .inl ⟨Nat.le_of_not_lt hlt,?_⟩
  have hrl:(rows.length:Int)=dp:=by omega
  refine jJ (R:=fun s=>s= .ow []) (DL.ee em sg.o sg.l sg.p) rfl fun s v14 H14 hs w14 r14=>?_
  subst hs
  obtain⟨q1,x1,rfl,n1',g1,e1⟩:=r14
  obtain rfl:x1=[]:=e1
  refine⟨_,sg.p,(DL.go w14).put (u:= .ls []) ⟨q1,[],rfl,DL.ebn.nw n1',g1,rfl⟩ trivial (by decide+kernel) (by decide) fun H15 D7=>?_⟩
  refine jJ (R:=fun s=>s= .sh (.n 1)) (D7.ee em sg.o sg.l sg.p) rfl fun s v15 H16 hs w16 r16=>?_
  subst hs
  obtain⟨rfl,_⟩:=r16
  have D8:=D7.go w16
  refine jJ (R:=fun s=>s= .sh (.n (r+1))) (D8.ee em sg.o sg.l sg.p) rfl fun s v15 H17 hs w17 r17=>?_
  subst hs
  obtain⟨rfl,_⟩:=r17
  have D9:=D8.go w17
  refine⟨1,r+1,rfl,⟨by omega,by omega,by omega,by omega⟩,⟨fun i k σ' H'=>k=(r+1-1).toNat-i/\i<=(r+1-1).toNat/\Sg [.no,.no,.no,.sh .wl,.sh (.ls (ns.map U.n)),.sh (.ls (rs.map Rim.u)),.sh (.ls pl),.no,.no,.no,.sh (.ls (ys.map tkU)),.sh (.n r),.no,.no] σ p σ'/\∃sp:List U,sp.length<=40*i/\U.dts 30 sp/\DS W (Bx B A) H p _ (_++[.ls sp]) H',⟨_,rfl,Nat.zero_le _,sg,[],Nat.le_refl _,trivial,D9⟩,?_⟩⟩
  clear D7 D8 D9
  rintro i k σ3 H' ⟨rfl,hi,sg,sp,spl,spd,D9⟩
  by_cases hlt:i<(r+1-1).toNat
  ·refine .inr ⟨hlt,fun σ2 H2=>Sg [.no,.no,.no,.sh .wl,.sh (.ls (ns.map U.n)),.sh (.ls (rs.map Rim.u)),.sh (.ls pl),.no,.no,.no,.sh (.ls (ys.map tkU)),.sh (.n r),.no,.no] σ p σ2/\∃sp:List U,sp.length<=40*(i+1)/\U.dts 30 sp/\DS W (Bx B A) H p _ (_++[.ls sp]) H2,fun σ2 H2 ⟨sg2,sp',h⟩=>⟨_,by omega,rfl,hlt,sg2,sp',h⟩,?_⟩
   rintro x H'' ⟨rfl,rfl⟩
   have sg3:=sg.set (x:=some (.int (1+(i:Int)))) rfl
   have h13:(σ3.set 13 (some (.int (1+(i:Int)))))[13]? =some (some (.int (1+(i:Int)))):=get_set (by rw [sg.l];omega)
   have ee:=(D9.ee em sg3.o sg3.l sg3.p).at_ h13 (u:= .n (1+(i:Int))) ⟨rfl,rfl⟩
   refine jJ (R:=fun s=>∃sp':List U,sp'.length<=40*(i+1)/\U.dts 30 sp'/\s= .ow sp') ee ?_ fun s v18 H18 hs w18 r18=>?_
   ·show zK "spots" wNm _ _
    refine aEj (xs:=wNm) (k:=9) (u:= .ls sp) ?_ (by decide+kernel) rfl rfl
    refine⟨by omega,iI (h:=fun u=> .tp [.n (1+(i:Int)),u]) (fun u hu c hc=>hc) ⟨?_,_,?_,?_,rfl⟩⟩
    ·rw [List.nil_append,List.length_map];omega
    ·rw [List.nil_append,List.length_append,List.length_map];omega
    ·rw [List.nil_append]
     exact tG spd (aEi _ pdt)
   ·obtain⟨sp',l1,l2,rfl⟩:=hs
    obtain⟨q2,x2,rfl,n2,g2,d2⟩:=r18
    exact⟨_,sg3.p,(D9.go w18).again (u:= .ls sp') ⟨q2,x2,rfl,D9.ebn.nw n2,g2,d2.less⟩ (yM (by decide) l2) (by decide+kernel) (by decide) rfl fun H19 D10=>⟨sg3,sp',l1,l2,D10⟩⟩
  ·refine .inl ⟨Nat.le_of_not_lt hlt,_,sg.p,?_⟩
   refine j.rt (s:= .sh (wU ns rs pl r zs dp m t rows sp)) (o.fw.trans D9.fw) (DU.mono (fun b o n h=>⟨fun z=>n (.inl z),h⟩) _ D9.du) (q zs dp m t rows sp spd ⟨z1,z2,dp1,dpm,m2,t1,t2,t3,t4,hrl,hrow⟩)
end
end Q
namespace Q
open PySem PyProof.Rows L2 KR
section
variable {P:Program} {w:World} {K:PySem.W.Frag} {mg:Str->Option Value} {base:Heap} {f C:Addr} {fd:FuncData} {N:Cn} {d:Nat}
theorem aG7:∀(ns:List Int) (a:Int),(∀n∈ns,1<=n)->0<=a->a<=ns.foldl (fun a n=>a*n) a
 | [],a,_,_=>Int.le_refl a
 |n::ns,a,h,h0=>by
  have h1:=h n List.mem_cons_self
  have h2:a<=a*n:=by
   have:=Int.mul_le_mul_of_nonneg_left h1 h0
   rwa [Int.mul_one]at this
  exact Int.le_trans h2 (aG7 ns (a*n) (fun m hm=>h m (List.mem_cons_of_mem _ hm)) (Int.le_trans h0 h2))
def PlU (k:Nat) (u:U):Prop:=∃is:List Int,u= .tp (is.map U.n)/\is.length<=k
mutual
theorem aRp:∀(n:Nat) (u:U),U.dt n u->Nw u
 |_,.v _,_=>by unfold Nw;trivial
 |n+1,.tp l,h=>mX n l h
 |n+1,.ls l,h=>mX n l h
theorem mX:∀(n:Nat) (l:List U),U.dts n l->Nws l
 |_,[],_=>by unfold Nws;trivial
 |n,u::l,⟨a,b⟩=>⟨aRp n u a,mX n l b⟩
end
theorem aEx:∀(l:List U) {k:Nat},(∀u∈l,PlU k u)->U.dts 5 l
 | [],_,_=>trivial
 |u::l,_,h=>by
  obtain⟨is,rfl,_⟩:=h u List.mem_cons_self
  exact⟨pM 4 is,aEx l fun u hu=>h u (List.mem_cons_of_mem _ hu)⟩
theorem aKo (F:Fun K "_law_world" "_law_world" bO f fd) (c__law_well:Cal P w K mg base CX0 2 "_law_well" ["_law_script","_law_k"] (spV (aOz K))) (c__law_lines:Cal P w K mg base CX0 4 "_law_lines" ["_law_well_here"] (spV aGg)) (c__law_take:Cal P w K mg base CX0 4 "_law_take" ["_law_well_here","_law_many"] (spV aJq)) (c__law_draw:Cal P w K mg base CX0 3 "_law_draw" ["_law_well_here","_law_most"] (spV aAl)) (c__law_term:Cal P w K mg base CX0 4 "_law_term" ["_law_well_here","_law_takes"] (spV aFm)) (T:Txt mg):bB P w K mg base CX0 30 f fd ["_law_script","_law_k","_law_most"] (spV (aLg K)):=by
 refine vfn F bC (fun cdv A outer s H E hr=>(aH (cA (i:=3) bC.nd (aO c__law_well (hr.mono (by omega)) rfl (aA (aB 0) (aA (aB 1) aG)))) (aJ1 3 (aH (aQw (aO c__law_lines (hr.mono (by omega)) rfl (aA (aB 3) aG)) (aJi rfl (uG (i:=4) bC.nd (uG (i:=5) bC.nd aGf)))) (aH (cA (i:=6) bC.nd (cD (aA (lE aG) aG))) (qM 6 (aH (nZ PassesOwn.never rfl (cU (aB 4)) (lN (i:=7) bC.nd) (aH (cA (i:=8) bC.nd (cD aG)) (aH (nZ PassesOwn.never rfl (cU (aB 6)) (lN (i:=9) bC.nd) (aK (cA (i:=8) bC.nd (aY bA bN (aB 8) (kI (own:=["_law_x"]) (cap:=[("_law_place",9)]) (aC bO) fG rfl rfl (fun x h=>bM h) (by decide+kernel) rfl (vic (gZ T.range (aN (aB 7) aV))) (fun cl C s2 H2 fp=>(bJ (i:=0) (show(["_law_x","_law_place"]:List Str).Nodup by decide+kernel) rfl (Or.inl rfl) (Or.inr rfl))) (cH (by decide)) (fun cl C s2 H2 fp=>(aY bA bN (aB 1) (lE (aA (aB 0) aG))))))))) (qM 8 (aK (cA (i:=6) bC.nd (aB 8))))))) (aH (aC1 (i:=10) (own:=["_law_j"]) (cap:=[("_law_well_here",3),("_law_sizes",4)]) bC.nd (aC bO) fG rfl rfl (fun x h=>bM h) (by decide+kernel) rfl (vic (gZ T.range (aN (dG cC dH (cD (aA aF (aA aF (aA aF (aA aF (aA aF (aA aF aG))))))) (aO c__law_draw (hr.mono (by omega)) rfl (aA (aB 3) (aA aF aG)))) aV))) (fun cl C s2 H2 fp=>(bJ (i:=0) (show(["_law_j","_law_well_here","_law_sizes"]:List Str).Nodup by decide+kernel) rfl (Or.inl rfl) (Or.inr rfl))) (cH (by decide)) (fun cl C s2 H2 fp=>(aO c__law_take (hr.mono (by omega)) rfl (aA (aB 1) (aA (bD aR cZ T.len boot_len (aN (aB 2) aV)) aG))))) (qM 10 (aH (cA (i:=11) bC.nd (bD (aIl rfl) aTi T.min boot_min (aN (dG cC dH (cD (aA (aO c__law_draw (hr.mono (by omega)) rfl (aA (aB 3) (aA aF aG))) (aA (aY oM dO aF (aO c__law_draw (hr.mono (by omega)) rfl (aA (aB 3) (aA aF aG)))) aG))) (aO c__law_draw (hr.mono (by omega)) rfl (aA (aB 3) (aA aF aG)))) (aN (aY qD jV (aB 2) (bD aR cZ T.len boot_len (aN (aB 6) aV))) aV)))) (suf T c__law_draw c__law_term F cdv A outer s H E hr))))))))))) ?_
 rintro _ R ⟨sc,k,rfl,q⟩
 refine⟨rfl,sc,k,rfl,fun a b c=>⟨rfl,fun ns rs gs el rk=>⟨rfl,?_⟩⟩⟩
 have l3:=gs.l3
 have l1:=gs.l1
 have mn:=gs.mn
 refine gG (fun l ρ=>∃(ms:List Int) (pl:List U) (x7 x8 x9:Sl),l=ms.map U.n/\(∀n∈ms,1<=n/\n<=9)/\ms.foldl (fun a n=>a*n) (pl.length:Int)=rM ns/\1<=pl.length/\(∀u∈pl,PlU (3-ms.length) u)/\ms.length<=3/\ρ=[.sh (.op (aB1 K sc)),.sh (.n k),.sh (.n 20),.sh .wl,.sh (.ls (ns.map U.n)),.sh (.ls (rs.map Rim.u)),.sh (.ls pl),x7,x8,x9,.no,.no,.no,.no]) ?_ ?_ ⟨ns,[.tp []],_,_,_,rfl,gs.ok,rfl,Nat.le_refl _,fun u hu=>⟨[],by rw [List.mem_singleton.mp hu];rfl,Nat.zero_le _⟩,l3,rfl⟩
 ·rintro ρ ⟨ms,pl,x7,x8,x9,em,_,hp,p1,hpl,_,rfl⟩
  obtain rfl:ms=[]:=List.map_eq_nil_iff.mp em.symm
  have hp:(pl.length:Int)=rM ns:=hp
  have key:∀r:Int,0<=r->r<6->∃n:Nat,atI [U.n 0,U.n 1,U.n 2,U.n 3,U.n 4,U.n 6] r=some (.n (n:Int))/\n<=6:=fun r h0 h6=>by
   have:r=0∨r=1∨r=2∨r=3∨r=4∨r=5:=by omega
   rcases this with rfl|rfl|rfl|rfl|rfl|rfl
   ·exact⟨0,rfl,by decide⟩
   ·exact⟨1,rfl,by decide⟩
   ·exact⟨2,rfl,by decide⟩
   ·exact⟨3,rfl,by decide⟩
   ·exact⟨4,rfl,by decide⟩
   ·exact⟨6,rfl,by decide⟩
  refine⟨6,rfl,by decide,by decide,fun r0 a0 b0=>?_⟩
  obtain⟨n,en,n6⟩:=key r0 a0 b0
  refine⟨_,en,by omega,by omega,by rw [cO];omega,jZ (fun x=>∃y:Tk,x=tkU y/\(vP y/\y.2.length=ns.length)) (fun u hu c hc=>⟨ns.length,by rw [List.length_map],l3,fun y h1 h2=>hc _ ⟨y,rfl,h1,h2⟩⟩) fun xs xl xp=>?_⟩
  obtain⟨ys,rfl,hy⟩:=pull xp
  rw [List.length_map,cO]at xl
  have yl:ys.length<=6:=by omega
  refine⟨13,rfl,by decide,by decide,fun r1 a1 b1=>⟨3,rfl,by decide,by decide,fun r2 a2 b2=>⟨2,rfl,by decide,by decide,fun r3 a3 b3=>?_⟩⟩⟩
  have key2:∃z:Int,atI [U.n r1,U.n (12-r2)] r3=some (.n z)/\0<=z/\z<=12:=by
   have:r3=0∨r3=1:=by omega
   rcases this with rfl|rfl
   ·exact⟨r1,rfl,by omega,by omega⟩
   ·exact⟨12-r2,rfl,by omega,by omega⟩
  obtain⟨z,ez,z0,z12⟩:=key2
  refine⟨_,ez,?_⟩
  refine⟨⟨by omega,by omega⟩,?_⟩
  have hL:(1:Int)<=pl.length:=by omega
  have hd:(20:Int) / pl.length*pl.length<=20:=Int.ediv_mul_le 20 (by omega)
  have hd0:(0:Int)<=20 / pl.length:=Int.ediv_nonneg (by decide) (by omega)
  have rr:∃r:Int,(if(20:Int) / pl.length<z then(20:Int) / pl.length else z)=r/\0<=r/\r<=12/\r*rM ns<=120:=by
   refine⟨_,rfl,?_,?_,?_⟩
   ·split<;>omega
   ·split<;>omega
   ·rw [<-hp]
    split
    ·omega
    ·rename_i h
     have:z*pl.length<=(20:Int) / pl.length*pl.length:=Int.mul_le_mul_of_nonneg_right (by omega) (by omega)
     omega
  obtain⟨r,er,r0',r12,rp⟩:=rr
  have yg:∀y∈ys,vP y/\1<=y.2.length/\y.2.length<=3:=fun y h=>by have:=hy y h;exact⟨this.1,by omega,by omega⟩
  refine⟨_,_,_,_,_,_,_,_,ns,rs,pl,ys,r,by rw [<-er];rfl,by omega,aEx pl hpl,yl,yg,r0',r12,fun zs dp m t ls sp sd dr=>⟨⟨mX 5 _ (tL ns),mX 5 _ (aB5 rs),mX 5 _ (aEx pl hpl),trivial,mX 7 _ (aB9 zs),trivial,trivial,trivial,mX 6 _ (aBf ls),mX 30 _ sd,trivial⟩,q ns rs pl r zs dp m t ls sp ⟨⟨gs,el,rk,by have:=dr.hd;omega,dr.ok,by have:=dr.pr;omega,⟨by omega,fun x hx=>(hy x ((dr.rw_ x).mpr hx)).2,ys,yl,fun x hx=>(dr.rw_ x).mpr hx⟩,dr.m2,⟨r0',r12⟩,rp,fun ys' hy'=>?_,?_,fun l hl=>?_⟩,by have:=dr.pr;omega,dr.so,fun x=>(dr.mem x).trans (dr.rw_ x)⟩⟩⟩
  ·rw [dr.ll]
   have mem:∀y,y∈ys'↔y∈ys:=fun y=>(hy'.2 y).trans (dr.rw_ y).symm
   have d1:=dr.d1
   have dm:=dr.dm
   by_cases e:ys'=[]
   ·have:ys=[]:=List.eq_nil_iff_forall_not_mem.mpr fun y h=>by
     have:=(mem y).mpr h
     rw [e]at this
     cases this
    subst this
    have:dp=1:=List.mem_singleton.mp d1
    rw [e,this];rfl
   ·refine(aK3 (fun y h=>?_) ?_ fun a ha=>?_).symm
    ·have:=(yg y ((mem y).mp h)).1.1;omega
    ·rcases List.mem_cons.mp d1 with e1|h
     ·obtain⟨y,l,rfl⟩:=List.exists_cons_of_ne_nil e
      have h1:=(mem y).mp List.mem_cons_self
      have h2:=(yg y h1).1.1
      have h3:=dm y.1 (List.mem_cons_of_mem _ (List.mem_map.mpr ⟨y,h1,rfl⟩))
      exact List.mem_map.mpr ⟨y,List.mem_cons_self,by show y.1=dp;omega⟩
     ·obtain⟨y,h1,rfl⟩:=List.mem_map.mp h
      exact List.mem_map.mpr ⟨y,(mem y).mpr h1,rfl⟩
    ·obtain⟨y,h1,rfl⟩:=List.mem_map.mp ha
     exact dm y.1 (List.mem_cons_of_mem _ (List.mem_map.mpr ⟨y,(mem y).mp h1,rfl⟩))
  ·have h:=dr.ll
   have d1:=dr.d1
   rcases List.mem_cons.mp d1 with e1|h
   ·omega
   ·obtain⟨y,h1,rfl⟩:=List.mem_map.mp h
    have:=(yg y h1).1.2.1
    omega
  ·obtain⟨h1,h2⟩:=dr.lo l hl
   exact⟨by rw [h1];exact hp,by omega,h2⟩
 ·rintro u l ρ ⟨ms0,pl,x7,x8,x9,em,hm,hp,p1,hpl,ml,rfl⟩ ih
  cases ms0 with
  |nil=>cases em
  |cons n ms=>
   obtain⟨rfl,rfl⟩:=List.cons.inj em
   obtain⟨n1,n9⟩:=hm n List.mem_cons_self
   have hm':∀x∈ms,1<=x/\x<=9:=fun x hx=>hm x (List.mem_cons_of_mem _ hx)
   have hp':ms.foldl (fun a n=>a*n) ((pl.length:Int)*n)=rM ns:=hp
   have ge:=aG7 ms ((pl.length:Int)*n) (fun x hx=>(hm' x hx).1) (Int.mul_nonneg (by omega) (by omega))
   have ml':ms.length+1<=3:=ml
   show sY (aEp 9) _ _ pl _
   refine gG (fun l2 ρ=>∃(lg:List U) (x9:Sl),ρ=[.sh (.op (aB1 K sc)),.sh (.n k),.sh (.n 20),.sh .wl,.sh (.ls (ns.map U.n)),.sh (.ls (rs.map Rim.u)),.sh (.ls pl),.sh (.n n),.ow lg,x9,.no,.no,.no,.no]/\(∀u∈l2,PlU (3-(ms.length+1)) u)/\(lg.length:Int)+l2.length*n=pl.length*n/\∀u∈lg,PlU (3-ms.length) u) ?_ ?_ ⟨[],_,rfl,hpl,by simp,nofun⟩
   ·rintro ρ ⟨lg,x9,rfl,_,hl,hg⟩
    have hl:(lg.length:Int)=pl.length*n:=by simpa using hl
    refine ih _ ⟨ms,lg,_,_,_,rfl,hm',by rw [hl];exact hp',?_,hg,by omega,rfl⟩
    have:(1:Int)*1<=pl.length*n:=Int.mul_le_mul (by omega) n1 (by decide) (by omega)
    omega
   ·rintro u2 l2 ρ ⟨lg,x9,rfl,h2,hl,hg⟩ ih2
    obtain⟨is,rfl,il⟩:=h2 u2 List.mem_cons_self
    rw [List.length_cons]at hl
    have hl':(lg.length:Int)+n+l2.length*n=pl.length*n:=by
     rw [<-hl]
     have:((l2.length+1:Nat):Int)*n=l2.length*n+n:=by rw [Int.natCast_add,Int.add_mul];simp
     omega
    have h20:0<=(l2.length:Int)*n:=Int.mul_nonneg (by omega) (by omega)
    refine⟨by omega,by omega,by rw [cO];omega,jZ (PlU (3-ms.length)) (fun u hu c hc=>?_) fun xs xl xp=>⟨?_,?_⟩⟩
    ·obtain⟨i,_,rfl⟩:=List.mem_map.mp hu
     exact⟨by rw [List.length_map];show _+1<=10000;omega,hc _ ⟨is++[0+(i:Int)],by rw [List.map_append];rfl,by rw [List.length_append];show _+1<=_;omega⟩⟩
    ·rw [cO]at xl
     show lg.length+([]++xs).length<=10000
     rw [List.nil_append];omega
    ·rw [cO]at xl
     refine ih2 _ ⟨lg++xs,_,rfl,fun u hu=>h2 u (List.mem_cons_of_mem _ hu),?_,fun u hu=>(List.mem_append.mp hu).elim (hg u) (xp u)⟩
     rw [List.length_append]
     omega
end
end Q
namespace Q
open PySem PyProof.Rows L2 KR
theorem aJt {ys:List Tk} {k:Nat} {a b:Int} (h1:zA ys k a) (h2:zA ys k b):a=b:=by
 rcases h1 with ⟨e,rfl⟩|⟨m1,l1⟩<;>rcases h2 with ⟨e',rfl⟩|⟨m2,l2⟩
 ·rfl
 ·rw [e]at m2;cases m2
 ·rw [e']at m1;cases m1
 ·have:=l1 _ m2
  have:=l2 _ m1
  omega
theorem aHo {ys:List Tk} {n:Nat} {a b:List Int} (h1:aB0 ys n a) (h2:aB0 ys n b):a=b:=by
 refine List.ext_getElem? fun k=>?_
 by_cases hk:k<n
 ·obtain⟨x,hx⟩:∃x,a[k]? =some x:=⟨_,List.getElem?_eq_getElem (by rw [h1.1];exact hk)⟩
  obtain⟨y,hy⟩:∃y,b[k]? =some y:=⟨_,List.getElem?_eq_getElem (by rw [h2.1];exact hk)⟩
  rw [hx,hy,aJt (h1.2 k x hx) (h2.2 k y hy)]
 ·rw [List.getElem?_eq_none (by rw [h1.1];omega),List.getElem?_eq_none (by rw [h2.1];omega)]
theorem aMu (ms:List Int):U.eq (.ls (ms.map U.n)) (.ls (ms.map U.n))=true:=by
 show D.eqs (U.ds _) (U.ds _)=true
 induction ms with
 |nil=>rfl
 |cons a l ih=>
  show(eqV (.int a) (.int a) && D.eqs (U.ds (l.map U.n)) (U.ds (l.map U.n)))=true
  rw [ih]
  simp [eqV]
def aJn (K:PySem.W.Frag):Fv:=fun us R=>∃sc:List Int,us=[.op (aB1 K sc)]/\R (.sh (.b true))
section
variable {P:Program} {w:World} {K:PySem.W.Frag} {mg:Str->Option Value} {base:Heap} {f C:Addr} {fd:FuncData} {N:Cn} {d:Nat}
abbrev aOw:List Str:=["_law_script","_law_k","_law_world_here","_law_job_here","_law_due","_law_turn","_law_found"]
theorem sO:aM ["_law_script","_law_k","_law_world_here","_law_job_here","_law_due","_law_turn","_law_found"] ["_law_script"] (aC vR):=⟨rfl,rfl,rfl,by decide+kernel,rfl,by decide+kernel,by decide+kernel⟩
theorem aRj {CG CJ:Addr} (F:Fun K "law" "law" vR f fd) (c__law_world:Cal P w K mg base CX0 30 "_law_world" ["_law_script","_law_k","_law_most"] (spV (aLg K))) (c__law_job:Cal P w K mg base CX0 30 "_law_job" ["_law_world_here"] (spV (aOn N CG CJ))) (c__law_reach:Cal P w K mg base CX0 1 "_law_reach" ["_law_world_here","_law_k"] (spV aGo)) (c_reach_of:Cal P w K mg base CX0 10 "reach_of" ["job"] (spV (aKw N CG CJ))) (T:Txt mg):bB P w K mg base CX0 31 f fd ["_law_script"] (spV (aJn K)):=by
 refine vfn F sO (fun cdv A outer s H E hr=>(aH (nZ PassesOwn.never rfl (aIi T.range (aN aF (aN aF aV))) (lN (i:=1) sO.nd) (aH (cA (i:=2) sO.nd (aO c__law_world (hr.mono (by omega)) rfl (aA (aB 0) (aA (aB 1) (aA aF aG))))) (aH (cA (i:=3) sO.nd (aO c__law_job (hr.mono (by omega)) rfl (aA (aB 2) aG))) (aH (aC1 (i:=4) (own:=["_law_j"]) (cap:=[("_law_world_here",2)]) sO.nd (aC vR) aOw rfl rfl (fun x h=>bM h) (by decide+kernel) rfl (vic (gZ T.range (aN (bD aR cZ T.len boot_len (aN (kE (iQ hr) (aB 2)) aV)) aV))) (fun cl C s2 H2 fp=>(bJ (i:=0) (show(["_law_j","_law_world_here"]:List Str).Nodup by decide+kernel) rfl (Or.inl rfl) (Or.inr rfl))) (cH (by decide)) (fun cl C s2 H2 fp=>(aO c__law_reach (hr.mono (by omega)) rfl (aA (aB 1) (aA (aB 0) aG))))) (aK (nZ PassesOwn.never rfl (gZ T.range (aN aF aV)) (lN (i:=5) sO.nd) (aH (cA (i:=6) sO.nd (aO c_reach_of (hr.mono (by omega)) rfl (aA (aB 3) aG))) (aH (fO (sS (rJ (gO (fV (nO .ls nofun T.isinstance T.list boot_list (aB 6)))) (rJ (dC (zB (huD hr)) pH (aB 6) (aB 4)) (oG (dC (zB (huD hr)) pH (aQd (own:=["_law_one"]) (cap:=[]) (aC vR) aOw rfl rfl (fun x h=>bM h) (by decide+kernel) rfl (aT7 (aB 6)) (fun cl C s2 H2 fp=>(bJ (i:=0) (show(["_law_one"]:List Str).Nodup by decide+kernel) rfl (Or.inl rfl) (Or.inr rfl))) (cH (by decide)) (fun cl C s2 H2 fp=>(fV (nO .bl nofun T.isinstance T.bool boot_bool (aB 0)))) (fun cl C s2 H2 fp=>(aB 0))) (cD aG)))))) (aK (aZ zJ)) cB) (aK (aE0 6 aF)))))))))) (aK (aZ zJ)))) ?_
 rintro _ R ⟨sc,rfl,q⟩
 refine⟨rfl,by decide,?_⟩
 refine gG (fun l ρ=>(∀u∈l,∃k:Nat,u= .n (k:Int))/\∃a b c d e x:Sl,ρ=[.sh (.op (aB1 K sc)),a,b,c,d,e,x]) ?_ ?_ ⟨fun u hu=>?_,_,_,_,_,_,_,rfl⟩
 ·rintro ρ ⟨_,a,b,c,d,e,x,rfl⟩
  exact q
 ·rintro u l ρ ⟨hl,a,b,c,d,e,x,rfl⟩ ih
  obtain⟨k,rfl⟩:=hl u List.mem_cons_self
  refine⟨sc,k,rfl,fun ns rs pl r ys dp m t ls sp g=>?_⟩
  refine⟨ns,rs,pl,r,ys,dp,m,t,ls,sp,rfl,g,fun zs hz=>?_⟩
  refine wF 0 rfl rfl ⟨by omega,by have:=g.gj.gs.l3;rw [List.length_map];omega,by rw [cO,List.length_map];have:=g.gj.gs.l3;omega,?_⟩
  have l3:=g.gj.gs.l3
  refine aAq (fun k x=>∃z,x= .n z/\zA ys k z) _ (fun k hk c hc=>⟨ns,rs,pl,r,ys,dp,m,t,ls,sp,k,by rw [Int.zero_add],g,by rw [List.length_map]at hk;omega,fun z hz=>hc _ ⟨z,rfl,hz⟩⟩) fun xs xl xp=>?_
  obtain⟨ms,rfl,_⟩:=pull (p:=fun _=>True) (g:=U.n) (xs:=xs) fun x hx=>by
   obtain⟨i,hi,e⟩:=List.getElem_of_mem hx
   obtain⟨m,e2,_⟩:=xp i x (by rw [List.getElem?_eq_getElem hi,e])
   exact⟨m,e2,trivial⟩
  have hm:aB0 ys ns.length ms:=⟨by rw [List.length_map,Int.toNat_natCast,List.length_map]at xl;exact xl,fun k m h=>by
   obtain⟨m',e,h'⟩:=xp k (.n m) (by rw [List.getElem?_map,h];rfl)
   cases e
   exact h'⟩
  refine⟨by decide,by decide,?_⟩
  refine gG (fun _ ρ=>∃x y:Sl,ρ=[.sh (.op (aB1 K sc)),.sh (.n (k:Int)),.sh (wU ns rs pl r ys dp m t ls sp),.sh (aPy N CG CJ ns rs t zs m r ls),.ow (ms.map U.n),x,y]) ?_ ?_ ⟨_,_,rfl⟩
  ·rintro ρ ⟨x,y,rfl⟩
   exact ih _ ⟨fun u hu=>hl u (List.mem_cons_of_mem _ hu),_,_,_,_,_,_,rfl⟩
  ·rintro u2 l2 ρ ⟨x,y,rfl⟩ ih2
   refine⟨ns,rs,t,zs,m,r,ls,rfl,g.gj,fun zs' ms' hz' hm'=>?_⟩
   have ez:zs'=ys:=hz'.uniq g.tk
   subst ez
   have em:ms'=ms:=aHo hm' hm
   subst em
   have ml:=hm.1
   refine⟨_,rfl,nofun,fun _=>⟨pM 39 _,pM 39 _,fun h=>?_,fun _=>?_⟩⟩
   ·have h:(!U.eq (.ls (ms'.map U.n)) (.ls (ms'.map U.n)))=true:=h
    rw [aMu]at h
    cases h
   ·refine⟨by rw [List.length_map];omega,pU (h:=fun _=>none) (fun u hu c hc=>?_) ?_⟩
    ·obtain⟨n,_,rfl⟩:=List.mem_map.mp hu
     exact⟨_,rfl,nofun,fun _=>hc⟩
    ·rw [show(ms'.map U.n).filterMap (fun _=>(none:Option U))=[] by simp]
     exact⟨trivial,trivial,nofun,fun _=>⟨by rw [List.length_map];omega,ih2 _ ⟨_,_,rfl⟩⟩⟩
 ·unfold rE at hu
  obtain⟨i,_,rfl⟩:=List.mem_map.mp hu
  exact⟨1+i,by simp⟩
end
end Q
namespace Q
open PySem PyProof.Rows L2 KR
def tag:Tm->Nat
 | .num _=>0
 | .take _ _=>1
 | .rest _ _=>2
 | .cho _ _ _=>3
 | .bin k _ _=>4+k.val
def wZ (N:Cn):List Addr:=[N.num,N.take,N.rest,N.cho,N.bin 0,N.bin 1,N.bin 2,N.bin 3,N.bin 4]
theorem aEt (N:Cn):∀t:Tm,(wZ N)[tag t]? =some (cls N t)
 | .num _=>rfl
 | .take _ _=>rfl
 | .rest _ _=>rfl
 | .cho _ _ _=>rfl
 | .bin k _ _=>by
  match k with
  |0=>rfl
  |1=>rfl
  |2=>rfl
  |3=>rfl
  |4=>rfl
theorem yX {N:Cn} (nd:(wZ N).Nodup) {t u:Tm} (h:cls N t=cls N u):tag t=tag u:=by
 have h1:=aEt N t
 have h2:=aEt N u
 rw [h]at h1
 exact(List.getElem?_inj (List.getElem?_eq_some_iff.mp h1).1 nd).mp (h1.trans h2.symm)
theorem aKs {N:Cn} (nd:(wZ N).Nodup) {t:Tm} (h:cls N t=N.num):∃n,t= .num n:=by
 have:=yX nd (u:= .num 0) h
 cases t<;>simp [tag]at this<;>first|exact⟨_,rfl⟩|omega
theorem aBh {N:Cn} (nd:(wZ N).Nodup) {t:Tm} (h:cls N t=N.take):∃b ss,t= .take b ss:=by
 have:=yX nd (u:= .take 0 []) h
 cases t<;>simp [tag]at this<;>first|exact⟨_,_,rfl⟩|omega
theorem aGn {N:Cn} (nd:(wZ N).Nodup) {t:Tm} (h:cls N t=N.rest):∃a y,t= .rest a y:=by
 have:=yX nd (u:= .rest (.num 0) 0) h
 cases t<;>simp [tag]at this<;>first|exact⟨_,_,rfl⟩|omega
theorem aPl {N:Cn} (nd:(wZ N).Nodup) {t:Tm} (h:cls N t=N.cho):∃a b c,t= .cho a b c:=by
 have:=yX nd (u:= .cho (.num 0) (.num 0) (.num 0)) h
 cases t<;>simp [tag]at this<;>first|exact⟨_,_,_,rfl⟩|omega
theorem aPd {N:Cn} (nd:(wZ N).Nodup) {t:Tm} {k:Fin 5} (h:cls N t=N.bin k):∃a b,t= .bin k a b:=by
 have:=yX nd (u:= .bin k (.num 0) (.num 0)) h
 cases t with
 |bin j a b=>
  have e:j=k:=Fin.ext (by simp only [tag]at this;omega)
  exact⟨a,b,by rw [e]⟩
 |_=>simp [tag]at this<;>omega
theorem knS {us:List Value} {n:Nat} {P:List Value->Prop} (h:us.length=n+1) (k:∀a t,t.length=n->P (a::t)):P us:=by
 cases us with
 |nil=>cases h
 |cons a t=>exact k a t (Nat.succ.inj h)
theorem kn1 {us:List Value} {P:List Value->Prop} (h:us.length=1) (k:∀a,P [a]):P us:=knS h fun a t ht=>by cases t with|nil=>exact k a|cons=>cases ht
theorem kn2 {us:List Value} {P:List Value->Prop} (h:us.length=2) (k:∀a b,P [a,b]):P us:=knS h fun a t ht=>kn1 (P:=fun t=>P (a::t)) ht fun b=>k a b
theorem kn3 {us:List Value} {P:List Value->Prop} (h:us.length=3) (k:∀a b c,P [a,b,c]):P us:=knS h fun a t ht=>kn2 (P:=fun t=>P (a::t)) ht fun b c=>k a b c
theorem kn4 {us:List Value} {P:List Value->Prop} (h:us.length=4) (k:∀a b c d,P [a,b,c,d]):P us:=knS h fun a t ht=>kn3 (P:=fun t=>P (a::t)) ht fun b c d=>k a b c d
theorem kn5 {us:List Value} {P:List Value->Prop} (h:us.length=5) (k:∀a b c d e,P [a,b,c,d,e]):P us:=knS h fun a t ht=>kn4 (P:=fun t=>P (a::t)) ht fun b c d e=>k a b c d e
theorem kn6 {us:List Value} {P:List Value->Prop} (h:us.length=6) (k:∀a b c d e f,P [a,b,c,d,e,f]):P us:=knS h fun a t ht=>kn5 (P:=fun t=>P (a::t)) ht fun b c d e f=>k a b c d e f
theorem kb1 {fd:FuncData} {ps:List Str} {us:List Value} (h:us.length=1) (k:∀a,bindArgs fd ⟨[a],[]⟩=pure (ps.zip [a])):bindArgs fd ⟨us,[]⟩=pure (ps.zip us):=kn1 (P:=fun us=>bindArgs fd ⟨us,[]⟩=pure (ps.zip us)) h k
theorem kb2 {fd:FuncData} {ps:List Str} {us:List Value} (h:us.length=2) (k:∀a b,bindArgs fd ⟨[a,b],[]⟩=pure (ps.zip [a,b])):bindArgs fd ⟨us,[]⟩=pure (ps.zip us):=kn2 (P:=fun us=>bindArgs fd ⟨us,[]⟩=pure (ps.zip us)) h k
theorem kb3 {fd:FuncData} {ps:List Str} {us:List Value} (h:us.length=3) (k:∀a b c,bindArgs fd ⟨[a,b,c],[]⟩=pure (ps.zip [a,b,c])):bindArgs fd ⟨us,[]⟩=pure (ps.zip us):=kn3 (P:=fun us=>bindArgs fd ⟨us,[]⟩=pure (ps.zip us)) h k
theorem kb4 {fd:FuncData} {ps:List Str} {us:List Value} (h:us.length=4) (k:∀a b c d,bindArgs fd ⟨[a,b,c,d],[]⟩=pure (ps.zip [a,b,c,d])):bindArgs fd ⟨us,[]⟩=pure (ps.zip us):=kn4 (P:=fun us=>bindArgs fd ⟨us,[]⟩=pure (ps.zip us)) h k
theorem kb6 {fd:FuncData} {ps:List Str} {us:List Value} (h:us.length=6) (k:∀a b c d e f,bindArgs fd ⟨[a,b,c,d,e,f],[]⟩=pure (ps.zip [a,b,c,d,e,f])):bindArgs fd ⟨us,[]⟩=pure (ps.zip us):=kn6 (P:=fun us=>bindArgs fd ⟨us,[]⟩=pure (ps.zip us)) h k
section
variable {P:Program} {w:World} {K:PySem.W.Frag} {mg:Str->Option Value} {base:Heap} {N:Cn}
abbrev GN (K:PySem.W.Frag) (n:Str) (f:Addr):Prop:=PySem.W.nsIn K mainGlobals n=some (some (.ref f))
abbrev FI (K:PySem.W.Frag) (C:Addr) (n:Str) (f:Addr):Prop:=PySem.W.findIn K (.ref C) n=some (some (.ref f))
structure CK (K:PySem.W.Frag) (C:Addr) (fs:List Str):Prop where
 c:Cls K C
 na:∀f∈fs,iU K C f
 ms:PySem.W.makesIn K C=true
 kc:PySem.W.keepIn K (.ref C)=true
theorem CK.cf {K:PySem.W.Frag} {C:Addr} {fs:List Str} (h:CK K C fs):Cf K C fs:=⟨h.c,h.na⟩
theorem CK.fl {K:PySem.W.Frag} {C:Addr} {fs:List Str} (h:CK K C fs):Cfl K C fs:=⟨h.c,h.na⟩
theorem na0 {K:PySem.W.Frag} {C:Addr}:∀f∈([]:List Str),iU K C f:=fun _ h=>nomatch h
theorem naS {K:PySem.W.Frag} {C:Addr} {x:Str} {l:List Str} (h:PySem.W.findIn K (.ref C) x=some none) (k:∀f∈l,iU K C f):∀f∈x::l,iU K C f:=fun f hf=>(List.mem_cons.mp hf).elim (fun e=>e▸h) (k f)
theorem mth {K:PySem.W.Frag} {C D f:Addr} {n:Str} (h:Meth K C n f) (g:FI K D n f):Meth K D n f:=⟨g,h.fn,h.kp⟩
theorem mkO {K:PySem.W.Frag} {C f:Addr} {fs:List Str} (h:CK K C fs) (g:Meth K C "__init__" f):Mk K C f:=⟨h.ms,g.at_,g.fn,h.kc⟩
theorem fb1 (a:Str) {x q:Str} {st:Stmt} {f:Addr} {fd:FuncData} (F:Fun K x q st f fd) (h:∀kV doc pm an cdv ct u,bindArgs (PySem.W.fnOf x q (iY st) (fH st) (aC st) .none kV doc pm an cdv ct) ⟨[u],[]⟩=pure ([a].zip [u]):=by intros;rfl):Binds K fd [a] []:=F.binds fun _ _ _ _ _ _ us hl=>kb1 hl (h _ _ _ _ _ _)
theorem fb2 (a b:Str) {x q:Str} {st:Stmt} {f:Addr} {fd:FuncData} (F:Fun K x q st f fd) (h:∀kV doc pm an cdv ct u v,bindArgs (PySem.W.fnOf x q (iY st) (fH st) (aC st) .none kV doc pm an cdv ct) ⟨[u,v],[]⟩=pure ([a,b].zip [u,v]):=by intros;rfl):Binds K fd [a,b] []:=F.binds fun _ _ _ _ _ _ us hl=>kb2 hl (h _ _ _ _ _ _)
theorem fb3 (a b c:Str) {x q:Str} {st:Stmt} {f:Addr} {fd:FuncData} (F:Fun K x q st f fd) (h:∀kV doc pm an cdv ct u v y,bindArgs (PySem.W.fnOf x q (iY st) (fH st) (aC st) .none kV doc pm an cdv ct) ⟨[u,v,y],[]⟩=pure ([a,b,c].zip [u,v,y]):=by intros;rfl):Binds K fd [a,b,c] []:=F.binds fun _ _ _ _ _ _ us hl=>kb3 hl (h _ _ _ _ _ _)
theorem fb4 (a b c d:Str) {x q:Str} {st:Stmt} {f:Addr} {fd:FuncData} (F:Fun K x q st f fd) (h:∀kV doc pm an cdv ct u v y z,bindArgs (PySem.W.fnOf x q (iY st) (fH st) (aC st) .none kV doc pm an cdv ct) ⟨[u,v,y,z],[]⟩=pure ([a,b,c,d].zip [u,v,y,z]):=by intros;rfl):Binds K fd [a,b,c,d] []:=F.binds fun _ _ _ _ _ _ us hl=>kb4 hl (h _ _ _ _ _ _)
theorem fb6 (a b c d e g:Str) {x q:Str} {st:Stmt} {f:Addr} {fd:FuncData} (F:Fun K x q st f fd) (h:∀kV doc pm an cdv ct u v y z o p,bindArgs (PySem.W.fnOf x q (iY st) (fH st) (aC st) .none kV doc pm an cdv ct) ⟨[u,v,y,z,o,p],[]⟩=pure ([a,b,c,d,e,g].zip [u,v,y,z,o,p]):=by intros;rfl):Binds K fd [a,b,c,d,e,g] []:=F.binds fun _ _ _ _ _ _ us hl=>kb6 hl (h _ _ _ _ _ _)
theorem qG {CX:CXT} {k:Nat} {f:Addr} {fd:FuncData} {ps:List Str} {sp:Sp} (h:∀vs H Q E,¬sp vs H Q E):bB P w K mg base CX k f fd ps sp:=
 ⟨fun vs H Q E z=>absurd z (h vs H Q E),fun _ _ _ H _ _ vs Q E _ _ _ _ z=>absurd z (h vs H Q E)⟩
theorem aHl {f1 f2 f3 f4:Addr} {g1 g2 g3 g4:FuncData} (nd:(wZ N).Nodup) (F1:Fun K "inner" "Term.inner" jU f1 g1) (F2:Fun K "inner" "Paired.inner" iG f2 g2) (F3:Fun K "inner" "Rest.inner" jX f3 g3) (F4:Fun K "inner" "Chosen.inner" gU f4 g4)
  (cl:∀C,IsC N C->Cls K C) (c3:Cfl K N.rest ["one","by"]) (c4:Cfl K N.cho ["test","one","other"]) (c5:∀k,Cfl K (N.bin k) ["one","other"])
  (m1:Meth K N.num "inner" f1) (m2:Meth K N.take "inner" f1) (m3:Meth K N.rest "inner" f3) (m4:Meth K N.cho "inner" f4) (m5:∀k,Meth K (N.bin k) "inner" f2):jG P w K mg base N 1 "inner" (gY N):=by
 refine⟨fun C hC=>⟨cl C hC,?_⟩⟩
 rcases hC with rfl|rfl|rfl|rfl|⟨k,rfl⟩
 ·exact⟨f1,g1,m1,aAc F1 (fun t h=>by obtain⟨n,rfl⟩:=aKs nd h;rfl),fb1 "self" F1⟩
 ·exact⟨f1,g1,m2,aAc F1 (fun t h=>by obtain⟨b,ss,rfl⟩:=aBh nd h;rfl),fb1 "self" F1⟩
 ·exact⟨f3,g3,m3,aIs F3 c3 fun t h=>aGn nd h,fb1 "self" F3⟩
 ·exact⟨f4,g4,m4,aIf F4 c4 fun t h=>aPl nd h,fb1 "self" F4⟩
 ·exact⟨f2,g2,m5 k,aIv F2 (c5 k) fun t h=>aPd nd h,fb1 "self" F2⟩
theorem aAy {f1 f2:Addr} {g1 g2:FuncData} (nd:(wZ N).Nodup) (F1:Fun K "takes" "Term.takes" jR f1 g1) (F2:Fun K "takes" "Take.takes" jT f2 g2) (cl:∀C,IsC N C->Cls K C) (c2:Cfl K N.take ["back","steps"])
  (m1:∀C,IsC N C->C≠N.take->Meth K C "takes" f1) (m2:Meth K N.take "takes" f2) (D_inner:jG P w K mg base N 1 "inner" (gY N)) (T:Txt mg):∀d,jG P w K mg base N (d+1) "takes" (mY N d)
 |0=>⟨fun C hC=>⟨cl C hC,by
   have no:∀vs H Q E,¬spV (mY N 0 C) vs H Q E:=fun vs H Q E ⟨_,_,_,_,_,_,⟨t,_,_,h,_⟩,_⟩=>absurd (nU t) (by omega)
   by_cases e:C=N.take
   ·subst e
    exact⟨f2,g2,m2,qG no,fb1 "self" F2⟩
   ·exact⟨f1,g1,m1 C hC e,qG no,fb1 "self" F1⟩⟩⟩
 |d+1=>⟨fun C hC=>⟨cl C hC,by
   by_cases e:C=N.take
   ·subst e
    exact⟨f2,g2,m2,aH7 F2 c2 fun t h=>aBh nd h,fb1 "self" F2⟩
   ·exact⟨f1,g1,m1 C hC e,aHy F1 (fun t h b ss z=>e (by rw [<-h,z];rfl)) D_inner (aAy nd F1 F2 cl c2 m1 m2 D_inner T d) T,fb1 "self" F1⟩⟩⟩
theorem aAv {f1:Addr} {g1:FuncData} (F1:Fun K "depth" "Term.depth" iB f1 g1) (cl:∀C,IsC N C->Cls K C) (m1:∀C,IsC N C->Meth K C "depth" f1) (D_inner:jG P w K mg base N 1 "inner" (gY N)) (T:Txt mg):∀d,jG P w K mg base N (d+1) "depth" (aCz N ht d)
 |0=>⟨fun C hC=>⟨cl C hC,f1,g1,m1 C hC,qG (fun vs H Q E ⟨_,_,_,_,_,_,⟨t,_,_,h,_⟩,_⟩=>absurd (nU t) (by omega)),fb1 "self" F1⟩⟩
 |d+1=>⟨fun C hC=>⟨cl C hC,f1,g1,m1 C hC,aHk F1 D_inner (aAv F1 cl m1 D_inner T d) T,fb1 "self" F1⟩⟩
theorem aAw {f1:Addr} {g1:FuncData} (F1:Fun K "parts" "Term.parts" iJ f1 g1) (cl:∀C,IsC N C->Cls K C) (m1:∀C,IsC N C->Meth K C "parts" f1) (D_inner:jG P w K mg base N 1 "inner" (gY N)) (T:Txt mg):∀d,jG P w K mg base N (d+1) "parts" (aCz N cV d)
 |0=>⟨fun C hC=>⟨cl C hC,f1,g1,m1 C hC,qG (fun vs H Q E ⟨_,_,_,_,_,_,⟨t,_,_,h,_⟩,_⟩=>absurd (nU t) (by omega)),fb1 "self" F1⟩⟩
 |d+1=>⟨fun C hC=>⟨cl C hC,f1,g1,m1 C hC,aH1 F1 D_inner (aAw F1 cl m1 D_inner T d) T,fb1 "self" F1⟩⟩
theorem aJo {f:Addr} {fd:FuncData} (F:Fun K "first_fault" "first_fault" iZ f fd) (m:mg "first_fault"=some (.ref f)) (D_inner:jG P w K mg base N 1 "inner" (gY N)) (D_fault:jG P w K mg base N 4 "own_fault" (pP N)):∀d,Cal P w K mg base CX0 (d+4) "first_fault" ["term"] (spV (fFF N d))
 |0=>⟨_,_,qG (fun vs H Q E ⟨_,_,_,_,_,_,⟨t,_,h,_⟩,_⟩=>absurd (nU t) (by omega)),m,F.kp,fb1 "term" F⟩
 |d+1=>⟨_,_,aS3 F (aJo F m D_inner D_fault d) D_inner D_fault,m,F.kp,fb1 "term" F⟩
theorem aHx {f1 f2 f3 f4:Addr} {g1 g2 g3 g4:FuncData} (nd:(wZ N).Nodup) (F1:Fun K "own_fault" "Term.own_fault" fL f1 g1) (F2:Fun K "own_fault" "Number.own_fault" dI f2 g2) (F3:Fun K "own_fault" "Take.own_fault" fD f3 g3) (F4:Fun K "own_fault" "Rest.own_fault" fK f4 g4)
  (cl:∀C,IsC N C->Cls K C) (c1:Cfl K N.num ["value"]) (c2:Cfl K N.take ["back","steps"]) (c3:Cfl K N.rest ["one","by"])
  (c_within:Cal P w K mg base CX0 2 "is_within" PW3 (spV jA)) (c_steps:Cal P w K mg base CX0 3 "are_steps" ["thing"] (spV aFn)) (T:Txt mg)
  (m1:Meth K N.num "own_fault" f2) (m2:Meth K N.take "own_fault" f3) (m3:Meth K N.rest "own_fault" f4) (m4:Meth K N.cho "own_fault" f1) (m5:∀k,Meth K (N.bin k) "own_fault" f1):jG P w K mg base N 4 "own_fault" (pP N):=by
 refine⟨fun C hC=>⟨cl C hC,?_⟩⟩
 rcases hC with rfl|rfl|rfl|rfl|⟨k,rfl⟩
 ·exact⟨f2,g2,m1,aIt F2 c1 (fun t h=>aKs nd h) c_within T,fb1 "self" F2⟩
 ·exact⟨f3,g3,m2,aIg F3 c2 (fun t h=>aBh nd h) c_within c_steps T,fb1 "self" F3⟩
 ·exact⟨f4,g4,m3,aH4 F4 c3 (fun t h=>aGn nd h) c_within T,fb1 "self" F4⟩
 ·exact⟨f1,g1,m4,aAr F1,fb1 "self" F1⟩
 ·exact⟨f1,g1,m5 k,aAr F1,fb1 "self" F1⟩
theorem lR {CR f:Addr} {fd:FuncData} {k:Nat} {m:Str} {ps:List Str} {sp:Sp} (cl:Cls K CR) (h:Meth K CR m f) (b:Binds K fd ps []) (F:bB P w K mg base CX0 k f fd ps sp):Dis P w K mg base CX0 k (·=CR) m ps fun _=>sp:=⟨fun C hC=>by
 have hC:C=CR:=hC
 subst hC
 exact⟨cl,f,fd,h,F,b⟩⟩
theorem aDd {CR fB fE fP:Addr} {gB gE gP:FuncData} (cl:Cls K CR) (n:aC6 N CR) (M:aDn P w K mg base N) (T:KR.Txt K mg) (F1:Fun K "read_bracket" "TermReader.read_bracket" tE fB gB) (F2:Fun K "read_behind" "TermReader.read_behind" qJ fE gE) (F3:Fun K "read_part" "TermReader.read_part" wR fP gP)
  (m1:Meth K CR "read_bracket" fB) (m2:Meth K CR "read_behind" fE) (m3:Meth K CR "read_part" fP)
  (D_ahead:DR P w K mg base 1 CR "ahead" ["self"] (jW CR)) (D_pass_by:DR P w K mg base 2 CR "pass_by" ["self","signs"] (pR CR)) (D_read_figures:DR P w K mg base 3 CR "read_figures" ["self"] (aCd CR)) (D_read_number:DR P w K mg base 4 CR "read_number" ["self"] (aCf CR)) (D_read_take:DR P w K mg base 5 CR "read_take" ["self"] (aBs N CR)) (D_read_word:DR P w K mg base 3 CR "read_word" ["self"] (aFg CR)) (c_pairBy:Cal P w K mg base CX0 3 "pair_by" ["word","one","other"] (xX N)):∀d,DR P w K mg base (3*d+3) CR "read_part" ["self","within"] (zE N CR d)
 |0=>lR cl m3 (fb2 "self" "within" F3) (qG fun vs H Q E ⟨_,_,_,t,_,_,_,_,_,_,_,h,_⟩=>absurd (nU t) (by omega))
 |d+1=>by
  have D:=aDd cl n M T F1 F2 F3 m1 m2 m3 D_ahead D_pass_by D_read_figures D_read_number D_read_take D_read_word c_pairBy d
  have DE:=lR cl m2 (fb4 "self" "one" "word" "within" F2) (aIn F2 n M D_pass_by D_read_figures D c_pairBy)
  have DB:=lR cl m1 (fb2 "self" "within" F1) (aJg F1 n D_pass_by D_read_word D DE T)
  exact lR cl m3 (fb2 "self" "within" F3) (aMv F3 M D_ahead D_read_number D_read_take DB)
theorem aPw {H:Hp} {a:Addr} {ns:List Int} {E:XK} (h:SqL K H a (ns.map V.int)):spV (aJn K) [.ref a] H (fun v _=>v= .bl true) E:=
 ⟨fun _=>False,fun _=>False,[.op (aB1 K ns)],fun s=>s= .sh (.b true),⟨nofun,nofun,nofun⟩,⟨_,_,rfl,⟨a,rfl,h.imp (fun h=>⟨id,h⟩) fun h _=> .inr h⟩,rfl⟩,⟨ns,rfl,rfl⟩,fun s v H' hs _ r=>by
  subst hs
  exact r.1⟩
end
end Q
namespace Q
open PySem PyProof.Rows L2 KR
theorem aPe {l:W.OpenLaw} {w:World} {K:W.Frag} {h:Heap} {mg:Str->Option Value} {fa aW Cnum Ctake Crest Ccho Cb0 Cb1 Cb2 Cb3 Cb4 CR CG CJ f10 f11 f12 f13 f14 f15 f16 f17 f18 f19 f20 f21 f22 f23 f24 f25 f26 f27 f28 f29 f30 f31 f32 f33 f34 f35 f36 f37 f38 f39 f40 f41 f42 f43 f44 f45 f46 f47 f48 f49 f50 f51 f52 f53 f54 f55 f56 f57 f58 f59 f60 f61 f62 f63 f64 f65 f66 f67 f68 f69 f70:Addr} {g10 g11 g12 g13 g14 g15 g16 g17 g18 g19 g20 g21 g22 g23 g24 g25 g26 g27 g28 g29 g30 g31 g32 g33 g34 g35 g36 g37 g38 g39 g40 g41 g42 g43 g44 g45 g46 g47 g48 g49 g50 g51 g52 g53 g54 g55 g56 g57 g58 g59 g60 g61 g62 g63 g64 g65 g66 g67 g68 g69 g70:FuncData} {odW:Option Addr} {nW:Nat} {slW:Array (Option Value)} {tF tW1 tW2 tW3 tW4 tW5 tW6 tW7 t_GREATEST_NUMBER t_GREATEST_DIVISOR t_GREATEST_BACK t_GREATEST_STEP t_MOST_STEPS_terms t_MOST_DEPTH t_MOST_PARTS t_MOST_TAKES t_GREATEST_MODULUS t_MOST_ROUNDS t_MOST_SPOTS t_GREATEST_FIXED t_MOST_LINES t_GREATEST_SIZE t_MOST_PLACES t_MOST_FIGURES t_MOST_STEPS_term_texts t_MOST_WITHIN:Tok} (X:K.In h) (G:h.Ns mainGlobals mg) (hfa:mg "law"=some (.ref fa))
  (aCnum:GN K "Number" Cnum) (aCtake:GN K "Take" Ctake) (aCrest:GN K "Rest" Crest) (aCcho:GN K "Chosen" Ccho)
  (aCb0:GN K "Added" Cb0) (aCb1:GN K "Lessened" Cb1) (aCb2:GN K "Multiplied" Cb2) (aCb3:GN K "Least" Cb3)
  (aCb4:GN K "Most" Cb4) (aCR:GN K "TermReader" CR) (aCG:GN K "Grid" CG) (aCJ:GN K "Job" CJ)
  (a10:GN K "is_whole" f10) (F10:Fun K "is_whole" "is_whole" rQ f10 g10) (a11:GN K "is_within" f11) (F11:Fun K "is_within" "is_within" pX f11 g11)
  (a12:GN K "is_rim" f12) (F12:Fun K "is_rim" "is_rim" xG f12 g12) (a13:GN K "product" f13) (F13:Fun K "product" "product" uU f13 g13)
  (a14:GN K "check_lines" f14) (F14:Fun K "check_lines" "check_lines" mF f14 g14) (a15:GN K "are_steps" f15) (F15:Fun K "are_steps" "are_steps" lJ f15 g15)
  (a16:GN K "lines_of" f16) (F16:Fun K "lines_of" "lines_of" oN f16 g16) (a17:GN K "first_fault" f17) (F17:Fun K "first_fault" "first_fault" iZ f17 g17)
  (a18:GN K "check_term" f18) (F18:Fun K "check_term" "check_term" nC f18 g18) (a19:GN K "read_term" f19) (F19:Fun K "read_term" "read_term" oZ f19 g19)
  (a20:GN K "is_row" f20) (F20:Fun K "is_row" "is_row" sZ f20 g20) (a21:GN K "are_rows" f21) (F21:Fun K "are_rows" "are_rows" oH f21 g21)
  (a22:GN K "reach_along" f22) (F22:Fun K "reach_along" "reach_along" jB f22 g22) (a23:GN K "reach_of" f23) (F23:Fun K "reach_of" "reach_of" nM f23 g23)
  (a24:GN K "_law_cell" f24) (F24:Fun K "_law_cell" "_law_cell" pI f24 g24) (a25:GN K "_law_mixed" f25) (F25:Fun K "_law_mixed" "_law_mixed" nJ f25 g25)
  (a26:GN K "_law_twice" f26) (F26:Fun K "_law_twice" "_law_twice" nQ f26 g26) (a27:GN K "_law_draw" f27) (F27:Fun K "_law_draw" "_law_draw" pC f27 g27)
  (a28:GN K "_law_well" f28) (F28:Fun K "_law_well" "_law_well" pF f28 g28) (a29:GN K "_law_lines" f29) (F29:Fun K "_law_lines" "_law_lines" iC f29 g29)
  (a30:GN K "_law_take" f30) (F30:Fun K "_law_take" "_law_take" lV f30 g30) (a31:GN K "_law_term" f31) (F31:Fun K "_law_term" "_law_term" lK f31 g31)
  (a32:GN K "_law_world" f32) (F32:Fun K "_law_world" "_law_world" bO f32 g32) (a33:GN K "_law_job" f33) (F33:Fun K "_law_job" "_law_job" rP f33 g33)
  (a34:GN K "_law_reach" f34) (F34:Fun K "_law_reach" "_law_reach" jY f34 g34) (a35:GN K "law" f35) (F35:Fun K "law" "law" vR f35 g35)
  (a36:GN K "pair_by" f36) (F36:Fun K "pair_by" "pair_by" aJh f36 g36) (a37:GN K "read_written" f37) (F37:Fun K "read_written" "read_written" xW f37 g37)
  (M38:Meth K Cnum "inner" f38) (F38:Fun K "inner" "Term.inner" jU f38 g38) (M39:Meth K Cnum "takes" f39) (F39:Fun K "takes" "Term.takes" jR f39 g39)
  (M40:Meth K Cnum "depth" f40) (F40:Fun K "depth" "Term.depth" iB f40 g40) (M41:Meth K Cnum "parts" f41) (F41:Fun K "parts" "Term.parts" iJ f41 g41)
  (M42:Meth K Ccho "own_fault" f42) (F42:Fun K "own_fault" "Term.own_fault" fL f42 g42) (M43:Meth K Cnum "__init__" f43) (F43:Fun K "__init__" "Number.__init__" aFc f43 g43)
  (M44:Meth K Cnum "own_fault" f44) (F44:Fun K "own_fault" "Number.own_fault" dI f44 g44) (M45:Meth K Ctake "__init__" f45) (F45:Fun K "__init__" "Take.__init__" aFf f45 g45)
  (M46:Meth K Ctake "takes" f46) (F46:Fun K "takes" "Take.takes" jT f46 g46) (M47:Meth K Ctake "own_fault" f47) (F47:Fun K "own_fault" "Take.own_fault" fD f47 g47)
  (M48:Meth K Cb0 "__init__" f48) (F48:Fun K "__init__" "Paired.__init__" aE8 f48 g48) (M49:Meth K Cb0 "inner" f49) (F49:Fun K "inner" "Paired.inner" iG f49 g49)
  (M50:Meth K Crest "__init__" f50) (F50:Fun K "__init__" "Rest.__init__" aFs f50 g50) (M51:Meth K Crest "inner" f51) (F51:Fun K "inner" "Rest.inner" jX f51 g51)
  (M52:Meth K Crest "own_fault" f52) (F52:Fun K "own_fault" "Rest.own_fault" fK f52 g52) (M53:Meth K Ccho "__init__" f53) (F53:Fun K "__init__" "Chosen.__init__" aEv f53 g53)
  (M54:Meth K Ccho "inner" f54) (F54:Fun K "inner" "Chosen.inner" gU f54 g54) (M55:Meth K CR "__init__" f55) (F55:Fun K "__init__" "TermReader.__init__" aCs f55 g55)
  (M56:Meth K CR "ahead" f56) (F56:Fun K "ahead" "TermReader.ahead" xJ f56 g56) (M57:Meth K CR "pass_by" f57) (F57:Fun K "pass_by" "TermReader.pass_by" aCo f57 g57)
  (M58:Meth K CR "figure_is_ahead" f58) (F58:Fun K "figure_is_ahead" "TermReader.figure_is_ahead" aE9 f58 g58) (M59:Meth K CR "read_figures" f59) (F59:Fun K "read_figures" "TermReader.read_figures" aBk f59 g59)
  (M60:Meth K CR "read_number" f60) (F60:Fun K "read_number" "TermReader.read_number" aFd f60 g60) (M61:Meth K CR "read_take" f61) (F61:Fun K "read_take" "TermReader.read_take" aBr f61 g61)
  (M62:Meth K CR "read_word" f62) (F62:Fun K "read_word" "TermReader.read_word" wV f62 g62) (M63:Meth K CR "read_bracket" f63) (F63:Fun K "read_bracket" "TermReader.read_bracket" tE f63 g63)
  (M64:Meth K CR "read_behind" f64) (F64:Fun K "read_behind" "TermReader.read_behind" qJ f64 g64) (M65:Meth K CR "read_part" f65) (F65:Fun K "read_part" "TermReader.read_part" wR f65 g65)
  (M66:Meth K CG "__init__" f66) (F66:Fun K "__init__" "Grid.__init__" jM f66 g66) (M67:Meth K CG "lines" f67) (F67:Fun K "lines" "Grid.lines" oF f67 g67)
  (M68:Meth K CG "places_many" f68) (F68:Fun K "places_many" "Grid.places_many" gQ f68 g68) (M69:Meth K CJ "__init__" f69) (F69:Fun K "__init__" "Job.__init__" iH f69 g69)
  (M70:Meth K CJ "deep" f70) (F70:Fun K "deep" "Job.deep" oA f70 g70) (kCnum:CK K Cnum ["value"]) (kCtake:CK K Ctake ["back","steps"])
  (kCrest:CK K Crest ["one","by"]) (kCcho:CK K Ccho ["test","one","other"]) (kCb0:CK K Cb0 ["one","other"]) (kCb1:CK K Cb1 ["one","other"])
  (kCb2:CK K Cb2 ["one","other"]) (kCb3:CK K Cb3 ["one","other"]) (kCb4:CK K Cb4 ["one","other"]) (kCR:CK K CR ["text","gone"])
  (kCG:CK K CG ["sizes","rims"]) (kCJ:CK K CJ ["taken","grid","term","modulus","rounds","first"]) (e0:FI K Cb1 "__init__" f48) (e1:FI K Cb2 "__init__" f48)
  (e2:FI K Cb3 "__init__" f48) (e3:FI K Cb4 "__init__" f48) (e4:FI K Ctake "inner" f38) (e5:FI K Cb1 "inner" f49)
  (e6:FI K Cb2 "inner" f49) (e7:FI K Cb3 "inner" f49) (e8:FI K Cb4 "inner" f49) (e9:FI K Crest "takes" f39)
  (e10:FI K Ccho "takes" f39) (e11:FI K Cb0 "takes" f39) (e12:FI K Cb1 "takes" f39) (e13:FI K Cb2 "takes" f39)
  (e14:FI K Cb3 "takes" f39) (e15:FI K Cb4 "takes" f39) (e16:FI K Ctake "depth" f40) (e17:FI K Crest "depth" f40)
  (e18:FI K Ccho "depth" f40) (e19:FI K Cb0 "depth" f40) (e20:FI K Cb1 "depth" f40) (e21:FI K Cb2 "depth" f40)
  (e22:FI K Cb3 "depth" f40) (e23:FI K Cb4 "depth" f40) (e24:FI K Ctake "parts" f41) (e25:FI K Crest "parts" f41)
  (e26:FI K Ccho "parts" f41) (e27:FI K Cb0 "parts" f41) (e28:FI K Cb1 "parts" f41) (e29:FI K Cb2 "parts" f41)
  (e30:FI K Cb3 "parts" f41) (e31:FI K Cb4 "parts" f41) (e32:FI K Cb0 "own_fault" f42) (e33:FI K Cb1 "own_fault" f42)
  (e34:FI K Cb2 "own_fault" f42) (e35:FI K Cb3 "own_fault" f42) (e36:FI K Cb4 "own_fault" f42) (nd:[Cnum,Ctake,Crest,Ccho,Cb0,Cb1,Cb2,Cb3,Cb4].Nodup)
  (ndR:CR∉[Cnum,Ctake,Crest,Ccho,Cb0,Cb1,Cb2,Cb3,Cb4]) (qF:W.nsIn K mainGlobals "FIGURES"=some (some (.str "0123456789" tF))) (aWd:GN K "WORDS" aW) (lWd:K.lookup aW=some ⟨.type "tuple",odW,.seq #[.str "+" tW1,.str "-" tW2,.str "*" tW3,.str "min" tW4,.str "max" tW5,.str "rest" tW6,.str "?" tW7] nW,slW⟩)
  (z_isinstance:W.nsIn K mainGlobals "isinstance"=some none) (z_int:W.nsIn K mainGlobals "int"=some none) (z_bool:W.nsIn K mainGlobals "bool"=some none) (z_str:W.nsIn K mainGlobals "str"=some none)
  (z_tuple:W.nsIn K mainGlobals "tuple"=some none) (z_list:W.nsIn K mainGlobals "list"=some none) (z_len:W.nsIn K mainGlobals "len"=some none) (z_range:W.nsIn K mainGlobals "range"=some none)
  (z_enumerate:W.nsIn K mainGlobals "enumerate"=some none) (z_max:W.nsIn K mainGlobals "max"=some none) (z_min:W.nsIn K mainGlobals "min"=some none) (z_sorted:W.nsIn K mainGlobals "sorted"=some none)
  (z_sum:W.nsIn K mainGlobals "sum"=some none) (z_set:W.nsIn K mainGlobals "set"=some none) (z_all:W.nsIn K mainGlobals "all"=some none) (z_any:W.nsIn K mainGlobals "any"=some none)
  (z_zip:W.nsIn K mainGlobals "zip"=some none) (z_abs:W.nsIn K mainGlobals "abs"=some none) (z_dict:W.nsIn K mainGlobals "dict"=some none) (q_GREATEST_NUMBER:W.nsIn K mainGlobals "GREATEST_NUMBER"=some (some (.int 1000000000000 t_GREATEST_NUMBER)))
  (q_GREATEST_DIVISOR:W.nsIn K mainGlobals "GREATEST_DIVISOR"=some (some (.int 1000000000 t_GREATEST_DIVISOR))) (q_GREATEST_BACK:W.nsIn K mainGlobals "GREATEST_BACK"=some (some (.int 3 t_GREATEST_BACK))) (q_GREATEST_STEP:W.nsIn K mainGlobals "GREATEST_STEP"=some (some (.int 9 t_GREATEST_STEP))) (q_MOST_STEPS_terms:W.nsIn K mainGlobals "MOST_STEPS_terms"=some (some (.int 3 t_MOST_STEPS_terms)))
  (q_MOST_DEPTH:W.nsIn K mainGlobals "MOST_DEPTH"=some (some (.int 12 t_MOST_DEPTH))) (q_MOST_PARTS:W.nsIn K mainGlobals "MOST_PARTS"=some (some (.int 60 t_MOST_PARTS))) (q_MOST_TAKES:W.nsIn K mainGlobals "MOST_TAKES"=some (some (.int 6 t_MOST_TAKES))) (q_GREATEST_MODULUS:W.nsIn K mainGlobals "GREATEST_MODULUS"=some (some (.int 1000000000 t_GREATEST_MODULUS)))
  (q_MOST_ROUNDS:W.nsIn K mainGlobals "MOST_ROUNDS"=some (some (.int 12 t_MOST_ROUNDS))) (q_MOST_SPOTS:W.nsIn K mainGlobals "MOST_SPOTS"=some (some (.int 120 t_MOST_SPOTS))) (q_GREATEST_FIXED:W.nsIn K mainGlobals "GREATEST_FIXED"=some (some (.int 1000000000 t_GREATEST_FIXED))) (q_MOST_LINES:W.nsIn K mainGlobals "MOST_LINES"=some (some (.int 3 t_MOST_LINES)))
  (q_GREATEST_SIZE:W.nsIn K mainGlobals "GREATEST_SIZE"=some (some (.int 9 t_GREATEST_SIZE))) (q_MOST_PLACES:W.nsIn K mainGlobals "MOST_PLACES"=some (some (.int 40 t_MOST_PLACES))) (q_MOST_FIGURES:W.nsIn K mainGlobals "MOST_FIGURES"=some (some (.int 13 t_MOST_FIGURES))) (q_MOST_STEPS_term_texts:W.nsIn K mainGlobals "MOST_STEPS_term_texts"=some (some (.int 3 t_MOST_STEPS_term_texts)))
  (q_MOST_WITHIN:W.nsIn K mainGlobals "MOST_WITHIN"=some (some (.int 12 t_MOST_WITHIN)))
  :∃fd:FuncData,(∀(s:Shared) (v:Value),BindsTo s fd ⟨[v],[]⟩ [("_law_script",v)])/\∀base:Heap,K.In base->base.Ns mainGlobals mg->bB l.prog w K mg base CX0 31 fa fd ["_law_script"] (spV (aJn K)):=by
 have m:∀{n:Str} {f:Addr},GN K n f->mg n=some (.ref f):=fun h=>W.mg_of X G h
 have mn:∀{n:Str},W.nsIn K mainGlobals n=some none->mg n=none:=fun h=>W.mg_none_of X G h
 have e:=hfa.symm.trans (m a35)
 cases e
 have T:Txt mg:=⟨mn z_isinstance,mn z_int,mn z_bool,mn z_str,mn z_tuple,mn z_list,mn z_len,mn z_range,mn z_enumerate,mn z_max,mn z_min,mn z_sorted,mn z_sum,mn z_set,mn z_all,mn z_any,mn z_zip,mn z_abs,mn z_dict,⟨_,W.mg_of X G q_GREATEST_NUMBER⟩,⟨_,W.mg_of X G q_GREATEST_DIVISOR⟩,⟨_,W.mg_of X G q_GREATEST_BACK⟩,⟨_,W.mg_of X G q_GREATEST_STEP⟩,⟨_,W.mg_of X G q_MOST_STEPS_terms⟩,⟨_,W.mg_of X G q_MOST_DEPTH⟩,⟨_,W.mg_of X G q_MOST_PARTS⟩,⟨_,W.mg_of X G q_MOST_TAKES⟩,⟨_,W.mg_of X G q_GREATEST_MODULUS⟩,⟨_,W.mg_of X G q_MOST_ROUNDS⟩,⟨_,W.mg_of X G q_MOST_SPOTS⟩,⟨_,W.mg_of X G q_GREATEST_FIXED⟩,⟨_,W.mg_of X G q_MOST_LINES⟩,⟨_,W.mg_of X G q_GREATEST_SIZE⟩,⟨_,W.mg_of X G q_MOST_PLACES⟩,⟨_,W.mg_of X G q_MOST_FIGURES⟩,⟨_,W.mg_of X G q_MOST_STEPS_term_texts⟩,⟨_,W.mg_of X G q_MOST_WITHIN⟩⟩
 have T2:KR.Txt K mg:=⟨T.isinstance,T.int,T.tuple,T.len,T.any,T.str,T.c_MOST_FIGURES,T.c_MOST_STEPS_term_texts,T.c_MOST_WITHIN⟩
 have F0:=F35
 obtain⟨⟨_,_,y1,y2,y3,y4,y5,y6,_,rfl,_⟩,_⟩:=F0
 refine⟨W.fnOf "law" "law" (iY vR) (fH vR) (aC vR) .none y1 y2 y3 y4 y5 y6,fun s v=> .of_eq rfl,fun base _ _=>?_⟩
 have cal:∀{CX:CXT} {k:Nat} {f:Addr} {fd:FuncData} {n x qn:Str} {st:Stmt} {ps:List Str} {sp:Sp},Fun K x qn st f fd->bB l.prog w K mg base CX k f fd ps sp->GN K n f->Binds K fd ps []->Cal l.prog w K mg base CX k n ps sp:=fun F h a b=>⟨_,_,h,m a,F.kp,b⟩
 let N:Cn:=⟨Cnum,Ctake,Crest,Ccho,fun k=>match k with|0=>Cb0|1=>Cb1|2=>Cb2|3=>Cb3|4=>Cb4⟩
 have nd:(wZ N).Nodup:=nd
 have c5:∀k,CK K (N.bin k) ["one","other"]:=fun k=>by
  match k with
  |0=>exact kCb0
  |1=>exact kCb1
  |2=>exact kCb2
  |3=>exact kCb3
  |4=>exact kCb4
 have nR:aC6 N CR:=fun t e=>ndR (e▸List.mem_of_getElem? (aEt N t))
 have cl:∀C,IsC N C->Cls K C:=fun C hC=>by
  rcases hC with rfl|rfl|rfl|rfl|⟨k,rfl⟩
  ·exact kCnum.c
  ·exact kCtake.c
  ·exact kCrest.c
  ·exact kCcho.c
  ·exact(c5 k).c
 have D_i:jG l.prog w K mg base N 1 "inner" (gY N):=aHl nd F38 F49 F51 F54 cl kCrest.fl kCcho.fl (fun k=>(c5 k).fl) M38 (mth M38 e4) M51 M54 (fun k=>by
  match k with
  |0=>exact M49
  |1=>exact(mth M49 e5)
  |2=>exact(mth M49 e6)
  |3=>exact(mth M49 e7)
  |4=>exact(mth M49 e8))
 have D_t:=aAy (P:=l.prog) (w:=w) (base:=base) nd F39 F46 cl kCtake.fl (fun C hC ne=>by
  rcases hC with rfl|rfl|rfl|rfl|⟨k,rfl⟩
  ·exact M39
  ·exact absurd rfl ne
  ·exact(mth M39 e9)
  ·exact(mth M39 e10)
  ·match k with
   |0=>exact(mth M39 e11)
   |1=>exact(mth M39 e12)
   |2=>exact(mth M39 e13)
   |3=>exact(mth M39 e14)
   |4=>exact(mth M39 e15)) M46 D_i T 8
 have D_d:=aAv (P:=l.prog) (w:=w) (base:=base) F40 cl (fun C hC=>by
  rcases hC with rfl|rfl|rfl|rfl|⟨k,rfl⟩
  ·exact M40
  ·exact(mth M40 e16)
  ·exact(mth M40 e17)
  ·exact(mth M40 e18)
  ·match k with
   |0=>exact(mth M40 e19)
   |1=>exact(mth M40 e20)
   |2=>exact(mth M40 e21)
   |3=>exact(mth M40 e22)
   |4=>exact(mth M40 e23)) D_i T 8
 have D_p:=aAw (P:=l.prog) (w:=w) (base:=base) F41 cl (fun C hC=>by
  rcases hC with rfl|rfl|rfl|rfl|⟨k,rfl⟩
  ·exact M41
  ·exact(mth M41 e24)
  ·exact(mth M41 e25)
  ·exact(mth M41 e26)
  ·match k with
   |0=>exact(mth M41 e27)
   |1=>exact(mth M41 e28)
   |2=>exact(mth M41 e29)
   |3=>exact(mth M41 e30)
   |4=>exact(mth M41 e31)) D_i T 8
 have c10:=cal F10 (aKf F10 T) a10 (fb1 "thing" F10)
 have c11:=cal F11 (aI0 F11 c10) a11 (fb3 "thing" "least" "most" F11)
 have c15:=cal F15 (aLr F15 c11 T) a15 (fb1 "thing" F15)
 have D_f:jG l.prog w K mg base N 4 "own_fault" (pP N):=aHx nd F42 F44 F47 F52 cl kCnum.fl kCtake.fl kCrest.fl c11 c15 T M44 M47 M52 M42 (fun k=>by
  match k with
  |0=>exact(mth M42 e32)
  |1=>exact(mth M42 e33)
  |2=>exact(mth M42 e34)
  |3=>exact(mth M42 e35)
  |4=>exact(mth M42 e36))
 have c17:=aJo F17 (m a17) D_i D_f 8
 have c16:=cal F16 (aE2 F16 D_t T) a16 (fb1 "term" F16)
 have c18:=cal F18 (aHs F18 (by decide) c17 c16 D_t D_d D_p T) a18 (fb1 "term" F18)
 have R5:∀k,Mkr l.prog w K mg base (N.bin k) (bnm k) ["self","one","other"] (aB7 K "one" "other"):=fun k=>by
  match k with
  |0=>exact⟨⟨_,_,pK F48,mkO kCb0 M48,m aCb0,(fb3 "self" "one" "other" F48)⟩⟩
  |1=>exact⟨⟨_,_,pK F48,mkO kCb1 (mth M48 e0),m aCb1,(fb3 "self" "one" "other" F48)⟩⟩
  |2=>exact⟨⟨_,_,pK F48,mkO kCb2 (mth M48 e1),m aCb2,(fb3 "self" "one" "other" F48)⟩⟩
  |3=>exact⟨⟨_,_,pK F48,mkO kCb3 (mth M48 e2),m aCb3,(fb3 "self" "one" "other" F48)⟩⟩
  |4=>exact⟨⟨_,_,pK F48,mkO kCb4 (mth M48 e3),m aCb4,(fb3 "self" "one" "other" F48)⟩⟩
 have M:aDn l.prog w K mg base N:=⟨⟨⟨_,_,aLa F43,mkO kCnum M43,m aCnum,(fb2 "self" "value" F43)⟩⟩,⟨⟨_,_,aJv F45,mkO kCtake M45,m aCtake,(fb3 "self" "back" "steps" F45)⟩⟩,⟨⟨_,_,aKr F50,mkO kCrest M50,m aCrest,(fb3 "self" "one" "by" F50)⟩⟩,⟨⟨_,_,aL2 F53,mkO kCcho M53,m aCcho,(fb4 "self" "test" "one" "other" F53)⟩⟩,R5,kCnum.cf,kCtake.cf,kCrest.cf,kCcho.cf,fun k=>(c5 k).cf⟩
 have Wd:Words K aW:=fun H=> .inr ⟨_,_,_,lWd,rfl,rfl,(by show 7<=sizeLine;decide),.cons ⟨_,rfl⟩ (.cons ⟨_,rfl⟩ (.cons ⟨_,rfl⟩ (.cons ⟨_,rfl⟩ (.cons ⟨_,rfl⟩ (.cons ⟨_,rfl⟩ (.cons ⟨_,rfl⟩ .nil))))))⟩
 have D_ahead:=lR (P:=l.prog) (w:=w) (mg:=mg) (base:=base) kCR.c M56 (fb1 "self" F56) (aMp F56 kCR.cf)
 have D_pass:=lR (P:=l.prog) (w:=w) (mg:=mg) (base:=base) kCR.c M57 (fb2 "self" "signs" F57) (aNa F57 kCR.cf D_ahead)
 have D_fig:=lR (P:=l.prog) (w:=w) (mg:=mg) (base:=base) kCR.c M58 (fb1 "self" F58) (aPi F58 D_ahead (W.mg_of X G qF))
 have D_figs:=lR (P:=l.prog) (w:=w) (mg:=mg) (base:=base) kCR.c M59 (fb1 "self" F59) (aMs F59 kCR.cf D_ahead D_pass D_fig T2)
 have D_num:=lR (P:=l.prog) (w:=w) (mg:=mg) (base:=base) kCR.c M60 (fb1 "self" F60) (aQ1 F60 D_ahead D_pass D_figs)
 have D_rtake:=lR (P:=l.prog) (w:=w) (mg:=mg) (base:=base) kCR.c M61 (fb1 "self" F61) (aKx F61 D_ahead D_pass D_num M.take M.c2 T2)
 have D_word:=lR (P:=l.prog) (w:=w) (mg:=mg) (base:=base) kCR.c M62 (fb1 "self" F62) (aMw F62 D_ahead D_pass (m aWd) Wd T2)
 have c36:=cal F36 (aIw F36 M) a36 (fb3 "word" "one" "other" F36)
 have D_part:=aDd kCR.c nR M T2 F63 F64 F65 M63 M64 M65 D_ahead D_pass D_figs D_num D_rtake D_word c36 8
 have R_rd:Mkr l.prog w K mg base CR "TermReader" ["self","text"] (aPj K):=⟨⟨_,_,aHt F55,mkO kCR M55,m aCR,(fb2 "self" "text" F55)⟩⟩
 have c37:=cal F37 (aHj (aF2 F37 R_rd kCR.cf nR D_part T2)) a37 (fb1 "text" F37)
 have c19:=cal F19 (aJ3 (k:=15) F19 c37 c18) a19 (fb1 "text" F19)
 have c12:=cal F12 (aMc F12 c11 T) a12 (fb1 "thing" F12)
 have c13:=cal F13 (aM5 F13) a13 (fb1 "sizes" F13)
 have c14:=cal F14 (aMd F14 c11 c12 T) a14 (fb2 "sizes" "rims" F14)
 have c20:=cal F20 (aKm F20 c11 T) a20 (fb3 "thing" "many" "modulus" F20)
 have c21:=cal F21 (aFj F21 c20 T) a21 (fb4 "thing" "deep" "many" "modulus" F21)
 have D_lines:=lR (P:=l.prog) (w:=w) (mg:=mg) (base:=base) kCG.c M67 (fb1 "self" F67) (aK8 F67 kCG.fl T)
 have D_many:=lR (P:=l.prog) (w:=w) (mg:=mg) (base:=base) kCG.c M68 (fb1 "self" F68) (aOb F68 kCG.fl c13)
 have D_deep:=lR (P:=l.prog) (w:=w) (mg:=mg) (base:=base) kCJ.c M70 (fb1 "self" F70) (aN0 F70 ⟨kCJ.c,fun f hf=>kCJ.na f (by rw [List.mem_singleton.mp hf];exact List.mem_cons_self)⟩ T)
 have M_Grid:MkU l.prog w K mg base 5 CG "Grid" ["self","sizes","rims"] aE1:=⟨⟨_,_,aMl F66 kCG.fl c14 c13 T,mkO kCG M66,m aCG,(fb3 "self" "sizes" "rims" F66)⟩⟩
 have M_Job:MkU l.prog w K mg base 14 CJ "Job" ["self","grid","term","modulus","rounds","first"] (aFe N CG):=⟨⟨_,_,aLb F69 kCJ.fl c18 c16 c11 c21 D_t D_lines D_many D_deep T,mkO kCJ M69,m aCJ,(fb6 "self" "grid" "term" "modulus" "rounds" "first" F69)⟩⟩
 have c22:=cal F22 (aJ6 F22 T) a22 (fb2 "takes" "line" F22)
 have c23:=cal F23 (aK2 F23 kCJ.fl D_t D_lines c22 T) a23 (fb1 "job" F23)
 have c24:=cal F24 (aNo F24 T) a24 (fb2 "_law_script" "_law_k" F24)
 have c25:=cal F25 (aKl F25) a25 (fb2 "_law_cell_here" "_law_k" F25)
 have c26:=cal F26 (aKq F26 c25) a26 (fb2 "_law_cell_here" "_law_k" F26)
 have c27:=cal F27 (aNn F27 c26) a27 (fb2 "_law_well_here" "_law_most" F27)
 have c28:=cal F28 (aN1 F28 c24 T) a28 (fb2 "_law_script" "_law_k" F28)
 have c29:=cal F29 (aHv F29 c27 T) a29 (fb1 "_law_well_here" F29)
 have c30:=cal F30 (aKy F30 c27 T) a30 (fb2 "_law_well_here" "_law_many" F30)
 have c31:=cal F31 (aLz F31 c27 T) a31 (fb2 "_law_well_here" "_law_takes" F31)
 have c32:=cal F32 (aKo F32 c28 c29 c30 c27 c31 T) a32 (fb3 "_law_script" "_law_k" "_law_most" F32)
 have c33:=cal F33 (aNy F33 M_Grid M_Job c19 T) a33 (fb1 "_law_world_here" F33)
 have c34:=cal F34 (aH2 F34 T) a34 (fb2 "_law_world_here" "_law_k" F34)
 exact aRj F35 c32 c33 c34 c23 T
theorem aQ0 {l:W.OpenLaw} {q:Program} {loose:List Str} {XP:(Str->Option Value)->Heap->Prop} {YP:World->Heap->Prop} {d:DefRec} {K:Params->W.Frag} (hn:l.most=some 63) (hdf:d.params.defaults=[])
  (hY:∀(w:World) (h:Heap),YP w h->(K w.params).In h)
  (F:∀(w:World) (mg:Str->Option Value) (fa:Addr) (h:Heap),(K w.params).In h->h.Ns mainGlobals mg->mg d.name=some (.ref fa)->
   ∃fd:FuncData,(∀(s:Shared) (u:Value),BindsTo s fd ⟨[u],[]⟩ [("_law_script",u)])/\∀base:Heap,(K w.params).In base->base.Ns mainGlobals mg->bB l.prog w (K w.params) mg base CX0 31 fa fd ["_law_script"] (spV (aJn (K w.params)))):
  W.WalkO q loose XP YP l.row.toRowW d [] (fun f vs=>PySem.call f vs):=
 L2.aGj (n:=63) (k:=31) (x:="_law_script") (CX:=fun _=>CX0) (sp:=fun w=>spV (aJn (K w.params))) hn (by decide) hdf ⟨rfl,by decide,by decide⟩ hY F (fun _ _ _ _ _ _ hS=>aPw hS) fun _ _ _ _ _ z=>z
end Q
namespace PySem.W.Fast
def tw4950394563994736881:=()
def tw16655759257250272554:=()
def tw9015620065234719197:=()
def tw17865342369045335572:=()
def tw12483924597123473201:=()
def tw4016854171501919365:=()
def tw3338664754949012632:=()
def tw6370673833108247188:=()
def tw426118627944799929:=()
def tw12418038302624668642:=()
def tw4972887023034338586:=()
def tw1316674367804224962:=()
def tw15048849136588600985:=()
def tw15023305513399405936:=()
def tw7029171901149020083:=()
def tw11006768854268855814:=()
def tw11497896088609784376:=()
def tw11202113067875717225:=()
def tw14402377914632001296:=()
def tw9402819717272446193:=()
def tw4906086245015791405:=()
def tw3618378821658552087:=()
def tw6347235717914412355:=()
def tw10211184920672926964:=()
def tw16905722691905882515:=()
def tw12153569241859982310:=()
def tw10899926547150175819:=()
def tw2354617342199717545:=()
def tw5798654934878190104:=()
def tw16201356943256482560:=()
def tw12506679157542054413:=()
def tw2154608268297237271:=()
def tw154762752091727347:=()
def tw8930074910931686491:=()
def tw10393209369849649705:=()
def tw13444720569152159631:=()
def tw17727243673340342687:=()
def tw11368708503897950630:=()
def tw9169884156185377897:=()
def tw18105188553872463053:=()
def tw16385466417887596140:=()
def tw12894167863471421361:=()
def tw12078377723729106597:=()
def tw3173058788266354122:=()
def tw718677455422520611:=()
def tw15847227824180524840:=()
def tw16562667708425919169:=()
def tw2538658355454209299:=()
def tw9726078833091022388:=()
def tw6931918951158142249:=()
def tw8284864216990530866:=()
def tw18068162752826284183:=()
def tw5161769613910294798:=()
def tw6155955825949348243:=()
def tw13998678135491819915:=()
def tw8503196457797050290:=()
def tw10684447348998945585:=()
def tw14803446078801960839:=()
def tw6577874059417282760:=()
def tw18083030032884142677:=()
def tw16749387420666842962:=()
def tw12934134702702315662:=()
def tw5472009508830249503:=()
def tw10836140091101782674:=()
def tw7969394545920164395:=()
def tw2952214566456459289:=()
def tw8294363494619268732:=()
def tw7736132335680375830:=()
def tw1772192725646603657:=()
def tw18030524978265750177:=()
def tw1413936543043531011:=()
def tw13835011140226296693:=()
def tw6457128721913590143:=()
def tw16930922451661882002:=()
def tw17143544991451939392:=()
def tw13628354740217778658:=()
def tw2618226610021037845:=()
def tw11270007643020108304:=()
def tw3610991761448376742:=()
def tw910720074316869486:=()
def tw17631558087094712102:=()
def tw1285599044247968627:=()
def tw5960070659480867623:=()
def tw7601068086357232666:=()
def tw4542242029026489872:=()
def tw2995837628992453965:=()
def tw3729915786166979148:=()
def tw17964666142890985679:=()
def tw13948260446677798786:=()
def tw7521652887121661925:=()
def tw950438976575897300:=()
def tw12738006549063410959:=()
def tw5210722865856798454:=()
def tw8461230185010224616:=()
def tw14450136226113858165:=()
def tw9033402689202955063:=()
def tw2440008133315610372:=()
def tw9348606614337035188:=()
def tw10670806965532603351:=()
def tw3787081084583440430:=()
def tw3230328139982634470:=()
def tw14862379030906300432:=()
def tw16007791982010538266:=()
def tw3799842243453355942:=()
def tw5922426404924354297:=()
def tw2308394395649278835:=()
def tw17513371169249276288:=()
def tw11995704816547866596:=()
def tw14494097164842813153:=()
def tw14410691943477551482:=()
def tw4671039608574559356:=()
def tw16666569284108373920:=()
def tw4844053837323288974:=()
def tw8995105854547216851:=()
def tw17385770005140513817:=()
def tw9035509818505853766:=()
def tw8420770528826907664:=()
def tw6306747839619196023:=()
def tw9874669676181640977:=()
def tw13313755167548940762:=()
def tw15264894298807247757:=()
def tw4644358436093297001:=()
def tw13310146468569427396:=()
def tw15594020648469993887:=()
def tw15043846069240009279:=()
def tw10193220972346423258:=()
def tw3243560223233207691:=()
def tw10265105738464579472:=()
def tw126727180935913334:=()
def tw7767556482851269524:=()
def tw13363588432201611739:=()
def tw8645119959235799882:=()
def tw8031556467321634468:=()
def tw15455009279881548943:=()
def tw15945913124758838705:=()
def tw3914717533876081195:=()
def tw11937674214028051239:=()
def tw11115469798516174068:=()
def tw14226611200566378438:=()
def tw4775857054174308134:=()
def tw4652578782080570294:=()
def tw6671163433109667224:=()
def tw14634872067508899731:=()
def tw93662471924888327:=()
def tw2649078923481185241:=()
def tw16919061658637175091:=()
def tw639702969736592802:=()
def tw10365339621972445878:=()
def tw15617855413295872658:=()
def tw4429467785003260501:=()
def tw6801519060730032125:=()
def tw7946483077238826267:=()
def tw16436794657675470920:=()
def tw18052856866302100605:=()
def tw7880060010246710646:=()
def tw4010270104705041492:=()
def tw13630788222361735463:=()
def tw10040865770353667636:=()
def tw16200648337983976136:=()
def tw11932743397743851754:=()
def tw3976905015276090541:=()
def tw10690654215153047935:=()
def tw10892748431625469751:=()
def tw10317971865752127317:=()
def tw10005310032014954606:=()
def tw3281667395746105312:=()
def tw4001595713976264104:=()
def tw5146323906903324350:=()
def tw3015020901270570123:=()
def tw2325952333852669980:=()
def tw8561287333155831002:=()
def tw157417184461093426:=()
def tw17887113804412099998:=()
def tw17061561864454908838:=()
def tw14709131235390460188:=()
def tw14456469072014076030:=()
def tw9049912286234002239:=()
def tw2035282288248819981:=()
def tw13035760707107982228:=()
def tw12824013717274183221:=()
def tw1671705968692784440:=()
def tw11627589657807227202:=()
def tw15191573326860356443:=()
def tw10556602151632637077:=()
def tw5514440468368426107:=()
def tw14871204848371665812:=()
end PySem.W.Fast
open PySem PySem.W PyProof.Rows
set_option maxRecDepth 100000 in
set_option maxHeartbeats 0 in
theorem PySem.Challenge.cw_slanttiles_k33_how_far_takes_reach_holds : PySem.Challenge.rw_slanttiles_k33_how_far_takes_reach.Holds := by
  w_on; o_law; k_head; (case hw => w_witness2)
  k_fill
  refine Q.aQ0 (l := PySem.Challenge.rw_slanttiles_k33_how_far_takes_reach) rfl rfl (fun w h Y => PySem.W.kIn_of Y) ?F
  case F =>
    intro w mg fa h KY G hmg
    refine' Q.aPe KY G hmg ?aCnum ?aCtake ?aCrest ?aCcho ?aCb0 ?aCb1 ?aCb2 ?aCb3 ?aCb4 ?aCR ?aCG ?aCJ ?a10 ?F10 ?a11 ?F11 ?a12 ?F12 ?a13 ?F13 ?a14 ?F14 ?a15 ?F15 ?a16 ?F16 ?a17 ?F17 ?a18 ?F18 ?a19 ?F19 ?a20 ?F20 ?a21 ?F21 ?a22 ?F22 ?a23 ?F23 ?a24 ?F24 ?a25 ?F25 ?a26 ?F26 ?a27 ?F27 ?a28 ?F28 ?a29 ?F29 ?a30 ?F30 ?a31 ?F31 ?a32 ?F32 ?a33 ?F33 ?a34 ?F34 ?a35 ?F35 ?a36 ?F36 ?a37 ?F37 ?M38 ?F38 ?M39 ?F39 ?M40 ?F40 ?M41 ?F41 ?M42 ?F42 ?M43 ?F43 ?M44 ?F44 ?M45 ?F45 ?M46 ?F46 ?M47 ?F47 ?M48 ?F48 ?M49 ?F49 ?M50 ?F50 ?M51 ?F51 ?M52 ?F52 ?M53 ?F53 ?M54 ?F54 ?M55 ?F55 ?M56 ?F56 ?M57 ?F57 ?M58 ?F58 ?M59 ?F59 ?M60 ?F60 ?M61 ?F61 ?M62 ?F62 ?M63 ?F63 ?M64 ?F64 ?M65 ?F65 ?M66 ?F66 ?M67 ?F67 ?M68 ?F68 ?M69 ?F69 ?M70 ?F70 ?kCnum ?kCtake ?kCrest ?kCcho ?kCb0 ?kCb1 ?kCb2 ?kCb3 ?kCb4 ?kCR ?kCG ?kCJ ?e0 ?e1 ?e2 ?e3 ?e4 ?e5 ?e6 ?e7 ?e8 ?e9 ?e10 ?e11 ?e12 ?e13 ?e14 ?e15 ?e16 ?e17 ?e18 ?e19 ?e20 ?e21 ?e22 ?e23 ?e24 ?e25 ?e26 ?e27 ?e28 ?e29 ?e30 ?e31 ?e32 ?e33 ?e34 ?e35 ?e36 ?nd ?ndR ?qF ?aWd ?lWd ?z_isinstance ?z_int ?z_bool ?z_str ?z_tuple ?z_list ?z_len ?z_range ?z_enumerate ?z_max ?z_min ?z_sorted ?z_sum ?z_set ?z_all ?z_any ?z_zip ?z_abs ?z_dict ?q_GREATEST_NUMBER ?q_GREATEST_DIVISOR ?q_GREATEST_BACK ?q_GREATEST_STEP ?q_MOST_STEPS_terms ?q_MOST_DEPTH ?q_MOST_PARTS ?q_MOST_TAKES ?q_GREATEST_MODULUS ?q_MOST_ROUNDS ?q_MOST_SPOTS ?q_GREATEST_FIXED ?q_MOST_LINES ?q_GREATEST_SIZE ?q_MOST_PLACES ?q_MOST_FIGURES ?q_MOST_STEPS_term_texts ?q_MOST_WITHIN
    case aCnum | aCtake | aCrest | aCcho | aCb0 | aCb1 | aCb2 | aCb3 | aCb4 | aCR | aCG | aCJ | a10 | a11 | a12 | a13 | a14 | a15 | a16 | a17 | a18 | a19 | a20 | a21 | a22 | a23 | a24 | a25 | a26 | a27 | a28 | a29 | a30 | a31 | a32 | a33 | a34 | a35 | a36 | a37 | e0 | e1 | e2 | e3 | e4 | e5 | e6 | e7 | e8 | e9 | e10 | e11 | e12 | e13 | e14 | e15 | e16 | e17 | e18 | e19 | e20 | e21 | e22 | e23 | e24 | e25 | e26 | e27 | e28 | e29 | e30 | e31 | e32 | e33 | e34 | e35 | e36 | aWd => change _ = _; k_is
    case M38 | M39 | M40 | M41 | M42 | M43 | M44 | M45 | M46 | M47 | M48 | M49 | M50 | M51 | M52 | M53 | M54 | M55 | M56 | M57 | M58 | M59 | M60 | M61 | M62 | M63 | M64 | M65 | M66 | M67 | M68 | M69 | M70 => exact ⟨by k_is, by k_is, by k_is⟩
    case kCnum => exact ⟨⟨by k_is, by k_is, by k_is, by k_is⟩, Q.naS (by k_is) Q.na0, by k_is, by k_is⟩
    case kCtake | kCrest | kCb0 | kCb1 | kCb2 | kCb3 | kCb4 | kCR | kCG => exact ⟨⟨by k_is, by k_is, by k_is, by k_is⟩, Q.naS (by k_is) (Q.naS (by k_is) Q.na0), by k_is, by k_is⟩
    case kCcho => exact ⟨⟨by k_is, by k_is, by k_is, by k_is⟩, Q.naS (by k_is) (Q.naS (by k_is) (Q.naS (by k_is) Q.na0)), by k_is, by k_is⟩
    case kCJ => exact ⟨⟨by k_is, by k_is, by k_is, by k_is⟩, Q.naS (by k_is) (Q.naS (by k_is) (Q.naS (by k_is) (Q.naS (by k_is) (Q.naS (by k_is) (Q.naS (by k_is) Q.na0))))), by k_is, by k_is⟩
    case nd | ndR => decide
    case qF | lWd | z_isinstance | z_int | z_bool | z_str | z_tuple | z_list | z_len | z_range | z_enumerate | z_max | z_min | z_sorted | z_sum | z_set | z_all | z_any | z_zip | z_abs | z_dict | q_GREATEST_NUMBER | q_GREATEST_DIVISOR | q_GREATEST_BACK | q_GREATEST_STEP | q_MOST_STEPS_terms | q_MOST_DEPTH | q_MOST_PARTS | q_MOST_TAKES | q_GREATEST_MODULUS | q_MOST_ROUNDS | q_MOST_SPOTS | q_GREATEST_FIXED | q_MOST_LINES | q_GREATEST_SIZE | q_MOST_PLACES | q_MOST_FIGURES | q_MOST_STEPS_term_texts | q_MOST_WITHIN => k_is
    case F10 | F11 | F12 | F13 | F14 | F15 | F16 | F17 | F18 | F19 | F20 | F21 | F22 | F23 | F24 | F25 | F26 | F27 | F28 | F29 | F30 | F31 | F32 | F33 | F34 | F35 | F36 | F37 | F38 | F39 | F40 | F41 | F42 | F43 | F44 | F45 | F46 | F47 | F48 | F49 | F50 | F51 | F52 | F53 | F54 | F55 | F56 | F57 | F58 | F59 | F60 | F61 | F62 | F63 | F64 | F65 | F66 | F67 | F68 | F69 | F70 => exact L2.aQx (by k_is) (by k_is) (by k_is)


