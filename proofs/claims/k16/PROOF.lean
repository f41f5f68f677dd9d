import PyProof.Rows.All
import Wide.All
import OpenK.AllK
import Wide.FinOn
import Lean
import PyProof.EqAt
import PyProof.EqKinds
import PyProof.TupleCall
import PyProof.NeKinds
import PyProof.EnumStmt
import PyProof.EnumMake
import PyProof.EnumFor
import PyProof.ListMulRoad
import PyProof.CompFree
import PyProof.CompMap
import PyProof.Rows.SortWalk
import PyProof.Rows.MinMaxN
import PyProof.Rows.SeqMore2
import PyProof.Rows.SetFrom
import KE.KDictList
import PyProof.SumWalk
import PyProof.WalksMore
import PyProof.TupleIter
import PyProof.ListRange
import KE.KDictSum
import PyProof.AutoListH
import PyProof.FactsAll.list_3
import PyProof.MinMaxWalk
import PyProof.WalkInts
import KE.KMinBuiltin
import PyProof.Rows.CallKwBuiltin
import PyProof.ZipIter
import KE.KItemsList
import PyProof.DictWalks
import PyProof.FactsAll.dict_4
import PyProof.ConsumeWalk
import KE.KRevSl
import KE.KDictOf
import PyProof.Cells
import OpenK.KLine
import PyProof.ExcInit
import PyProof.ExcClass3
import PyProof.StationsW
import PyProof.ExcArgsOwn
import PyProof.InstStoreFacts
import PyProof.RulesTry
import PyProof.RulesAs
import PyProof.ExcFactsAll.ValueError
import PyProof.ExcBaseAll.ValueError
import PyProof.ExcAttrAll.ValueError
import KE.KTryMore
import KE.KIsAll
import PyProof.SetKind
import PyProof.DictFindH
import PyProof.IsRules
import PyProof.TupleKey
import PyProof.CollectIter
import PyProof.FactsAll.set
import PyProof.DictIter
import KE.KSortTup
import PyProof.PureInt
import PyProof.EqAt
import PyProof.FactsAll.list
import PyProof.FactsAll.tuple
import PyProof.Rows.SortShell
import PyProof.Rows.IntRules
import PyProof.Walks
import PyProof.SliceStr2
import PyProof.StrLaws
import PyProof.StrLawsIn
import PyProof.StrCalls
import PyProof.StrCalls2
import PyProof.FString
import PyProof.Draws
import PyProof.StrWalks
import PyProof.StrLoop
import PyProof.StrBlock2
import KE.KIntText
import KE.IntTextLaws
import PyProof.Rows.CountFlat
import PySem.Challenge.RW_slanttiles_k16_whole_any_text_of_a_term
set_option Elab.async false
set_option linter.all false
set_option maxRecDepth 100000
namespace L2
open PySem PySem.Spec PyProof.Rows
abbrev Key:=Sum Int Str
def aAo:Key->Value->Bool
 | .inl k,v=>Value.isInt k v
 | .inr x,v=>Value.isStrOf x v
def aV5 (w:World):Key->Int
 | .inl k=>hashInt k
 | .inr x=>hashStr w x
theorem dJ:∀{k:Key} {v:Value},aAo k v=true->(∃i t,k=Sum.inl i/\v=Value.int i t)∨(∃x t,k=Sum.inr x/\v=Value.str x t)
 | .inl i,v,h=>by
  obtain⟨t,e⟩:=Value.isInt_shape (k:=i) (v:=v) h
  exact .inl ⟨i,t,rfl,e⟩
 | .inr x,v,h=>by
  obtain⟨t,e⟩:=Value.isStrOf_shape (x:=x) (v:=v) h
  exact .inr ⟨x,t,rfl,e⟩
theorem aI7 (i:Int) (t:Tok):aAo (.inl i) (.int i t)=true:=by simp [aAo,Value.isInt]
theorem aKo (x:Str) (t:Tok):aAo (.inr x) (.str x t)=true:=by simp [aAo,Value.isStrOf]
theorem aS6 (a b:Int):decide ((Sum.inl a:Key)=Sum.inl b)=(a==b):=by
 by_cases e:a=b
 ·subst e;simp
 ·have h:¬(Sum.inl a:Key)=Sum.inl b:=fun q=>e (Sum.inl.inj q)
  rw [decide_eq_false h]
  exact(beq_eq_false_iff_ne.mpr e).symm
theorem aS9 (a b:Str):decide ((Sum.inr a:Key)=Sum.inr b)=decide (a=b):=by
 by_cases e:a=b
 ·subst e;simp
 ·have h:¬(Sum.inr a:Key)=Sum.inr b:=fun q=>e (Sum.inr.inj q)
  rw [decide_eq_false h,decide_eq_false e]
theorem aT1 (a:Int) (b:Str):decide ((Sum.inl a:Key)=Sum.inr b)=false:=decide_eq_false (fun q=>nomatch q)
theorem aTt (a:Str) (b:Int):decide ((Sum.inr a:Key)=Sum.inl b)=false:=decide_eq_false (fun q=>nomatch q)
def dI (prog:Program) (w:World):PySem.KeyKind prog w Key where
 is:=aAo
 hash:=aV5 w
 inj:=fun v a b ha hb=>by
  rcases dJ ha with ⟨i,t,rfl,rfl⟩|⟨x,t,rfl,rfl⟩
  ·rcases dJ hb with ⟨j,u,rfl,e⟩|⟨y,u,rfl,e⟩
   ·injection e with e1 _;rw [e1]
   ·exact nomatch e
  ·rcases dJ hb with ⟨j,u,rfl,e⟩|⟨y,u,rfl,e⟩
   ·exact nomatch e
   ·injection e with e1 _;rw [e1]
 byValue:=fun k v h=>by
  rcases dJ h with ⟨i,t,rfl,rfl⟩|⟨x,t,rfl,rfl⟩<;>rfl
 pyHash:=fun hv h=>by
  rcases dJ hv with ⟨i,t,rfl,rfl⟩|⟨x,t,rfl,rfl⟩
  ·exact wpAny_pyHash_int h
  ·exact wpAny_pyHash_str h
 eqBool:=fun hu hv h=>by
  rcases dJ hu with ⟨i,t,rfl,rfl⟩|⟨x,t,rfl,rfl⟩
  ·rcases dJ hv with ⟨j,u,rfl,rfl⟩|⟨y,u,rfl,rfl⟩
   ·rw [aS6]at h;exact wpAny_eqBool_int h
   ·rw [aT1]at h;exact SeqAt.EqAt.int_str i t y u _ _ _ _ h
  ·rcases dJ hv with ⟨j,u,rfl,rfl⟩|⟨y,u,rfl,rfl⟩
   ·rw [aTt]at h;exact SeqAt.EqAt.str_int x t j u _ _ _ _ h
   ·rw [aS9]at h;exact wpAny_eqBool_str h
 «strs»:=fun k x t v h=>by
  rcases dJ h with ⟨i,u,rfl,e⟩|⟨y,u,rfl,e⟩
  ·exact nomatch e
  ·injection e with e1 _
   subst e1
   cases v<;>rfl
theorem aEm (prog:Program) (w:World) (i:Int) (t:Tok):(dI prog w).is (.inl i) (.int i t)=true:=aI7 i t
theorem aDl (prog:Program) (w:World) (x:Str) (t:Tok):(dI prog w).is (.inr x) (.str x t)=true:=aKo x t
end L2
namespace L2
open PySem PySem.Spec PyProof.Rows
inductive V where
 |non|bl (b:Bool)|int (i:Int)|str (x:Str)|byt (b:Array UInt8)|flt (b:UInt64)|ref (a:Addr)|ty (n:String)
 deriving DecidableEq
def RelV:V->Value->Prop
 | .non,u=>u=Value.none
 | .bl b,u=>u=Value.bool b
 | .int i,u=>∃t,u=Value.int i t
 | .str x,u=>∃t,u=Value.str x t
 | .byt b,u=>∃t,u=Value.bytes b t
 | .flt b,u=>∃t,u=Value.float b t
 | .ref a,u=>u=Value.ref a
 | .ty n,u=>u=Value.type n
abbrev Vals:List V->List Value->Prop:=Paired RelV
theorem Vals.length {xs:List V} {us:List Value} (r:Vals xs us):xs.length=us.length:=Paired.length r
theorem Vals.get:∀{xs:List V} {us:List Value} {i:Nat} {x:V},Vals xs us->xs[i]? =some x->∃u,us[i]? =some u/\RelV x u
 |_,_,_,_,.nil,e=>by simp at e
 |_,_,0,_,.cons r _,e=>by simp at e;subst e;exact⟨_,rfl,r⟩
 |_,_,i+1,x,.cons _ t,e=>by
  obtain⟨u,h1,h2⟩:=Vals.get (i:=i) (x:=x) t (by simpa using e)
  exact⟨u,by simpa using h1,h2⟩
theorem Vals.set {x:V} {u:Value} (r:RelV x u):∀{xs:List V} {us:List Value} (i:Nat),Vals xs us->Vals (xs.set i x) (us.set i u)
 |_,_,_,.nil=> .nil
 |_,_,0,.cons _ t=> .cons r t
 |_,_,i+1,.cons q t=> .cons q (Vals.set r i t)
theorem Vals.append:∀{xs ys:List V} {us ws:List Value},Vals xs us->Vals ys ws->Vals (xs++ys) (us++ws)
 |_,_,_,_,.nil,s=>s
 |_,_,_,_,.cons r t,s=> .cons r (Vals.append t s)
def oK:Option V->Option Value->Prop
 |some v,some u=>RelV v u
 |none,none=>True
 |_,_=>False
def KV {κ:Type}:List (κ×V)->List (κ×Value)->Prop:=Paired fun(p:κ×V) (q:κ×Value)=>p.1=q.1/\RelV p.2 q.2
def kV:Key->V
 | .inl i=> .int i
 | .inr x=> .str x
inductive HO where
 |lst (xs:List V)
 |tup (xs:List V)
 |dK (kvs:List (Key×V))|dT (kvs:List (List Key×V))
 |set (S:Int->Bool) (n:Nat)
 |ins (C dx:Addr) (fs:List (Str×V))
 |own (x:Addr)
 |xd (fs:List (Str×V))
 |met (f x:Addr)
 |rng (lo hi:Int)
 |frz (o:Obj) (u:HO)
 |tbl (ps:Array Value)
 |ext (φ:Heap->Prop)
abbrev Hp:=Addr->Option HO
def upd (H:Hp) (a:Addr) (o:HO):Hp:=fun b=>if b=a then some o else H b
theorem aF {H:Hp} {a:Addr} {o:HO}:upd H a o a=some o:=by unfold upd;rw [if_pos rfl]
theorem aX {H:Hp} {a b:Addr} {o:HO} (h:b≠a):upd H a o b=H b:=by unfold upd;rw [if_neg h]
theorem aR6 {H:Hp} {a b:Addr} {o u:HO} (h:H a=some o) (h':H b=some u) (d:o≠u):a≠b:=by
 intro e;subst e;rw [h]at h';exact d (Option.some.inj h')
theorem bR {H:Hp} {a b:Addr} {o:HO} (h:H a=some o) (h':H b=none):a≠b:=by
 intro e;subst e;rw [h]at h';cases h'
section
variable (P:Program) (w:World)
def cY (H:Hp) (h:Heap) (a:Addr):HO->Prop
 | .lst xs=>xs.length<=sizeLine/\∃(its:List Value) (n:Nat),Vals xs its/\h.get? a=some {cls:= .type "list",data:= .seq its.toArray n}
 | .tup xs=>xs.length<=sizeLine/\∃its:List Value,Vals xs its/\IsTup h a its.toArray
 | .dK kvs=>kvs.length<=sizeLine/\(a==sysModules)=false/\∃vs,KV kvs vs/\h.DictOf (dI P w) a vs
 | .dT kvs=>kvs.length<=sizeLine/\(a==sysModules)=false/\∃xs:List (List Key×Addr×Value),
   Paired (fun(p:List Key×V) (q:List Key×Addr×Value)=>p.1=q.1/\H q.2.1=some (.tup (p.1.map kV))/\RelV p.2 q.2.2) kvs xs/\
   ∃o es ep,h.get? a=some o/\o.ExactDict/\o.data= .dict es ep/\es.toList=xs.map (entryOfKey (tupleKind (dI P w)))/\(xs.map (·.1)).Nodup
 | .set S n=>h.SetOf (intKind P w) a S n
 | .ins C dx fs=>H dx=some (.own a)/\fs.length<=1000/\dx≠a/\h.get? a=some (PySem.W.instObj C dx)/\
   ∃mA,h.Ns1 dx mA/\(∀f,oK (fs.lookup f) (mA f))/\PySem.Within mA (fs.map (·.1))
 | .own _=>∃o,h.get? a=some o
 | .xd fs=>∃mA,h.Ns1 a mA/\∀f,oK (fs.lookup f) (mA f)
 | .rng lo hi=>∃t u v,h.get? a=some {cls:= .type "range",data:= .fields #[.int lo t,.int hi u,.int 1 v]}
 | .frz o u=>h.get? a=some o/\cY H h a u
 | .tbl ps=>h.get? a=some {cls:= .none,data:= .fields ps}
 | .met f x=>h.get? a=some (PySem.W.methodObj (.ref f) (.ref x))
 | .ext φ=>φ h/\(∃o,h.get? a=some o)/\∀h1 h2:Heap,φ h1->(∀o,h1.get? a=some o->h2.get? a=some o)->φ h2
def HOk (H:Hp) (h:Heap):Prop:=∀a o,H a=some o->cY P w H h a o
end
section
variable {P:Program} {w:World} {H H':Hp} {h h':Heap} {a:Addr} {o:HO}
theorem cY.lt (x:cY P w H h a o):a<h.objs.size:=by
 cases o with
 |lst xs=>obtain⟨_,_,_,_,e⟩:=x;exact Heap.lt_size e
 |tup xs=>obtain⟨_,_,_,p⟩:=x;exact p.lt
 |dK kvs=>obtain⟨_,_,_,_,o,_,_,e,_⟩:=x;exact Heap.lt_size e
 |dT kvs=>obtain⟨_,_,_,_,o,_,_,e,_⟩:=x;exact Heap.lt_size e
 |set S n=>obtain⟨o,_,_,_,e,_⟩:=x;exact Heap.lt_size e
 |ins C dx fs=>obtain⟨_,_,_,e,_⟩:=x;exact Heap.lt_size e
 |own y=>obtain⟨_,e⟩:=x;exact Heap.lt_size e
 |xd fs=>obtain⟨_,⟨_,_,_,e,_⟩,_⟩:=x;exact Heap.lt_size e
 |rng lo hi=>obtain⟨_,_,_,e⟩:=x;exact Heap.lt_size e
 |frz ob u=>obtain⟨e,_⟩:=x;exact Heap.lt_size e
 |tbl ps=>exact Heap.lt_size (show h.get? a=some _ from x)
 |met f y=>exact Heap.lt_size (show h.get? a=some _ from x)
 |ext φ=>obtain⟨_,⟨_,e⟩,_⟩:=x;exact Heap.lt_size e
theorem Paired.mapP {α β:Type} {F G:α->β->Prop}:∀{l₁:List α} {l₂:List β},Paired F l₁ l₂->(∀a b,F a b->G a b)->Paired G l₁ l₂
 |_,_,.nil,_=> .nil
 |_,_,.cons r t,f=> .cons (f _ _ r) (Paired.mapP t f)
theorem cY.stay (x:cY P w H h a o) (k:∀b u,(b=a∨H b=some (.own a))->h.get? b=some u->h'.get? b=some u)
  (ho:∀b,H b=some (.own a)->H' b=some (.own a)) (ht:∀b xs,H b=some (.tup xs)->H' b=some (.tup xs)):cY P w H' h' a o:=by
 induction o with
 |lst xs=>obtain⟨z,its,n,r,e⟩:=x;exact⟨z,its,n,r,k _ _ (.inl rfl) e⟩
 |tup xs=>obtain⟨z,its,r,ob,e,c⟩:=x;exact⟨z,its,r,ob,k _ _ (.inl rfl) e,c⟩
 |dK kvs=>obtain⟨z,y,vs,r,ob,es,ep,e,c⟩:=x;exact⟨z,y,vs,r,ob,es,ep,k _ _ (.inl rfl) e,c⟩
 |dT kvs=>
  obtain⟨z,y,xs,r,ob,es,ep,e,c⟩:=x
  exact⟨z,y,xs,Paired.mapP r fun p q z=>⟨z.1,ht _ _ z.2.1,z.2.2⟩,ob,es,ep,k _ _ (.inl rfl) e,c⟩
 |set S n=>obtain⟨ob,es,ep,t,e,c⟩:=x;exact⟨ob,es,ep,t,k _ _ (.inl rfl) e,c⟩
 |ins C dx fs=>
  obtain⟨d,z,ne,e,mA,⟨od,es,ep,e2,c⟩,r⟩:=x
  exact⟨ho _ d,z,ne,k _ _ (.inl rfl) e,mA,⟨od,es,ep,k _ _ (.inr d) e2,c⟩,r⟩
 |own y=>obtain⟨ob,e⟩:=x;exact⟨ob,k _ _ (.inl rfl) e⟩
 |xd fs=>obtain⟨mA,⟨od,es,ep,e,c⟩,r⟩:=x;exact⟨mA,⟨od,es,ep,k _ _ (.inl rfl) e,c⟩,r⟩
 |rng lo hi=>obtain⟨t,u,v,e⟩:=x;exact⟨t,u,v,k _ _ (.inl rfl) e⟩
 |frz ob u ih=>obtain⟨e,q⟩:=x;exact⟨k _ _ (.inl rfl) e,ih q⟩
 |tbl ps=>
  have e:h.get? a=some {cls:= .none,data:= .fields ps}:=x
  show h'.get? a=some {cls:= .none,data:= .fields ps}
  exact k a _ (.inl rfl) e
 |met f y=>
  have e:h.get? a=some (PySem.W.methodObj (.ref f) (.ref y)):=x
  show h'.get? a=some (PySem.W.methodObj (.ref f) (.ref y))
  exact k a _ (.inl rfl) e
 |ext φ=>obtain⟨p,⟨o,e⟩,st⟩:=x;exact⟨st _ _ p fun o q=>k _ _ (.inl rfl) q,⟨o,k _ _ (.inl rfl) e⟩,st⟩
theorem HOk.lt (x:HOk P w H h) (e:H a=some o):a<h.objs.size:=(x a o e).lt
theorem HOk.fresh (x:HOk P w H h) (e:h.objs.size<=a):H a=none:=by
 cases q:H a with
 |none=>rfl
 |some u=>exact absurd (Nat.lt_of_lt_of_le (x.lt q) e) (Nat.lt_irrefl _)
theorem HOk.kept (x:HOk P w H h) (k:∀b u,h.get? b=some u->h'.get? b=some u):HOk P w H h':=fun a o e=>
 (x a o e).stay (fun b u _ q=>k b u q) (fun _ q=>q) fun _ _ q=>q
theorem HOk.laid (x:HOk P w H h) (k:∀b u,h.get? b=some u->h'.get? b=some u) (hp:h.objs.size<=a) (new:cY P w (upd H a o) h' a o):HOk P w (upd H a o) h':=fun b u e=>by
 have hn:=x.fresh hp
 by_cases hb:b=a
 ·subst hb;rw [aF]at e;cases e;exact new
 ·rw [aX hb]at e
  exact(x b u e).stay (fun c v _ q=>k c v q) (fun c q=>by rw [aX (bR q hn)];exact q) fun c xs q=>by rw [aX (bR q hn)];exact q
end
def Rd (H:Hp) (a:Addr) (u:HO):Prop:=H a=some u∨∃o,H a=some (.frz o u)
theorem Rd.ok {P:Program} {w:World} {H:Hp} {h:Heap} {a:Addr} {u:HO} (r:Rd H a u) (x:HOk P w H h):cY P w H h a u:=by
 rcases r with r|⟨o,r⟩
 ·exact x a u r
 ·obtain⟨_,q⟩:=x a _ r
  exact q
def Mut:Option HO->Prop
 |some (.lst _)=>True
 |some (.dK _)=>True
 |some (.dT _)=>True
 |some (.set _ _)=>True
 |some (.ins _ _ _)=>True
 |some (.ext _)=>True
 |_=>False
section
variable {P:Program} {w:World} {H:Hp} {h h':Heap} {x e:Addr} {o':HO}
theorem HOk.write (ok:HOk P w H h) (mu:Mut (H x)) (he:e=x∨H e=some (.own x)) (k:∀b u,b≠e->h.get? b=some u->h'.get? b=some u) (heo:∃u,h'.get? e=some u)
  (new:cY P w (upd H x o') h' x o'):HOk P w (upd H x o') h':=fun b u q=>by
 have nown:∀c y,H c=some (.own y)->c≠x:=fun c y r z=>by subst z;rw [r]at mu;exact mu
 have ntup:∀c xs,H c=some (.tup xs)->c≠x:=fun c xs r z=>by subst z;rw [r]at mu;exact mu
 by_cases hb:b=x
 ·subst hb;rw [aF]at q;cases q;exact new
 ·rw [aX hb]at q
  by_cases hbe:b=e
  ·have q':H b=some (.own x):=by
    rcases he with z|z
    ·exact absurd (hbe.trans z) hb
    ·rw [hbe];exact z
   rw [q]at q';cases q'
   obtain⟨v,hv⟩:=heo
   exact⟨v,by rw [hbe];exact hv⟩
  ·refine(ok b u q).stay (fun c v hc r=>k c v ?_ r) (fun c r=>by rw [aX (nown c b r)];exact r) fun c xs r=>by rw [aX (ntup c xs r)];exact r
   rcases hc with rfl|hc
   ·exact hbe
   ·rintro rfl
    rcases he with z|z
    ·exact nown c b hc z
    ·rw [hc]at z;cases z;exact hb rfl
end
structure Un (fs ex:List Addr) (H H':Hp) (h h':Heap):Prop where
 keep:∀b o,h.get? b=some o->H b=none->b∉fs->b∉ex->h'.get? b=some o
 slot:∀b o,h.get? b=some o->H b=none->b∈fs->b∉ex->∃sl,h'.get? b=some {o with slots:=sl}
 free:∀b o,h.get? b=some o->H b=none->b∉ex->H' b=none
 there:∀b o,h.get? b=some o->b∉ex->∃o',h'.get? b=some o'
 tups:∀b xs,H b=some (.tup xs)->H' b=some (.tup xs)
 frzs:∀b o u,H b=some (.frz o u)->H' b=some (.frz o u)
 tbls:∀b ps,H b=some (.tbl ps)->∃more,H' b=some (.tbl (ps++more))
section
variable {fs fs' ex ex':List Addr} {H H1 H2:Hp} {h h1 h2 h':Heap} {a x e:Addr} {o:HO}
theorem Un.any (u:Un fs ex H H1 h h1) {b:Addr} {ob:Obj} (q:h.get? b=some ob) (n:H b=none) (hx:b∉ex):∃sl,h1.get? b=some {ob with slots:=sl}:=by
 by_cases hb:b∈fs
 ·exact u.slot b ob q n hb hx
 ·exact⟨ob.slots,u.keep b ob q n hb hx⟩
theorem Un.kept (k:∀b u,h.get? b=some u->h'.get? b=some u):Un fs ex H H h h':=
 ⟨fun b ob q _ _ _=>k b ob q,fun b ob q _ _ _=>⟨ob.slots,k b ob q⟩,fun _ _ _ n _=>n,fun b ob q _=>⟨ob,k b ob q⟩,fun _ _ q=>q,fun _ _ _ q=>q,fun _ ps q=>⟨#[],by rw [q];simp⟩⟩
theorem Un.refl:Un fs ex H H h h:=Un.kept fun _ _ q=>q
theorem Un.laid (k:∀b u,h.get? b=some u->h'.get? b=some u) (hp:h.objs.size<=a) (hn:H a=none):Un fs ex H (upd H a o) h h' where
 keep:=fun b u q _ _ _=>k b u q
 slot:=fun b u q _ _ _=>⟨u.slots,k b u q⟩
 free:=fun b u q n _=>by rw [aX (Nat.ne_of_lt (Nat.lt_of_lt_of_le (Heap.lt_size q) hp))];exact n
 there:=fun b u q _=>⟨u,k b u q⟩
 tups:=fun b xs q=>by rw [aX (bR q hn)];exact q
 frzs:=fun b u xs q=>by rw [aX (bR q hn)];exact q
 tbls:=fun b ps q=>⟨#[],by rw [aX (bR q hn),q];simp⟩
theorem Un.write (mu:Mut (H x)) (he:e=x∨H e=some (.own x)) (k:∀b u,b≠e->h.get? b=some u->h'.get? b=some u) (heo:∃u,h'.get? e=some u):Un fs ex H (upd H x o) h h':=by
 have hx:∀b,H b=none->b≠x:=fun b n z=>by subst z;rw [n]at mu;exact mu
 have hb:∀b,H b=none->b≠e:=fun b n z=>by
  subst z
  rcases he with r|r
  ·exact hx b n r
  ·rw [n]at r;cases r
 have hm:∀b u,H b=some u->¬Mut (some u)->b≠x:=fun b u q nm z=>by subst z;rw [q]at mu;exact nm mu
 refine⟨fun b u q n _ _=>k b u (hb b n) q,fun b u q n _ _=>⟨u.slots,k b u (hb b n) q⟩,fun b u q n _=>by rw [aX (hx b n)];exact n,fun b u q _=>?_,
  fun b xs q=>by rw [aX (hm b _ q fun z=>z)];exact q,fun b u xs q=>by rw [aX (hm b _ q fun z=>z)];exact q,fun b ps q=>⟨#[],by rw [aX (hm b _ q fun z=>z),q];simp⟩⟩
 by_cases hbe:b=e
 ·subst hbe;exact heo
 ·exact⟨u,k b u hbe q⟩
end
def trk (h:Heap) (H:Hp):List Addr:=(List.range h.objs.size).filter fun a=>(H a).isSome
def aBf (h:Heap) (H:Hp):Heap:=PySem.W.hideAll h (trk h H)
theorem aK1 (h:Heap) (H:Hp):(aBf h H).objs.size=h.objs.size:=PySem.W.hideAll_size _ _
theorem aLa {h:Heap} {H:Hp} {b:Addr} {o:Obj} (e:h.get? b=some o) (n:H b=none):(aBf h H).get? b=some o:=
 PySem.W.hideAll_get _ e fun hm=>by
  have q:(H b).isSome=true:=(List.mem_filter.mp hm).2
  rw [n]at q;simp at q
theorem aRg {h:Heap} {H:Hp} {b:Addr} {o:Obj} (e:(aBf h H).get? b=some o):h.get? b=some o/\H b=none:=by
 have e':h.get? b=some o:=PySem.W.of_hideAll (trk h H) e
 refine⟨e',?_⟩
 cases q:H b with
 |none=>rfl
 |some x=>
  have hm:b∈trk h H:=List.mem_filter.mpr ⟨List.mem_range.mpr (Heap.lt_size e'),by simp [q]⟩
  have z:(aBf h H).get? b=none:=PySem.W.hideAll_none (trk h H) hm
  rw [z]at e;cases e
end L2
namespace L2
open PySem PySem.Spec PyProof.Rows
structure Mod (K:PySem.W.Frag) (mg:Str->Option Value) (base:Heap):Prop where
 kin:K.In base
 glob:base.Ns mainGlobals mg
 blt:∃mb,base.Ns builtinsNs mb/\∀x:Str,x≠"__name__"->mb x=bootBuiltins x
 nolimit:base.NoLimit
structure Cx where
 prog:Program
 w:World
 K:PySem.W.Frag
 mg:Str->Option Value
 base:Heap
 A:Around
 N:List Str
 s₀:Shared
 H₀:Hp
 env:Env
 outer:List Env
 stack:List Env
 ex:List Addr
 fn:Str->Bool
 calm:Bool
 pn:List (Addr×Obj)
 xe:Value->Shared->Prop
def frs (l:List Env):List Addr:=l.filterMap (·.frame)
abbrev Cx.fs (X:Cx):List Addr:=frs X.outer
def Vis (sc:Scope) (x:Str):Prop:=sc.names.lookup x=some .local∨sc.names.lookup x=some .cell∨sc.names.lookup x=some .free
def Loc (sc:Scope) (x:Str):Prop:=sc.names.lookup x=some .local∨sc.names.lookup x=some .cell
def Look (env:Env) (h:Heap) (m:Str->Option Value) (x:Str) (u:Value):Prop:=
 (env.kindOf x=some .local/\m x=some u)∨((env.kindOf x=some .cell∨env.kindOf x=some .free)/\∃c,env.cells.lookup x=some c/\h.IsCell c (some u))
structure Cx.Ok (X:Cx):Prop where
 mod:Mod X.K X.mg X.base
 kind:X.env.scope.kind= .function
 glob:X.env.globals=mainGlobals
 blt:X.env.builtins=builtinsNs
 above:X.s₀.heap.objs.size<=X.env.locals
 inj:∀x y c,X.env.cells.lookup x=some c->X.env.cells.lookup y=some c->x=y
 has:∀x,(X.env.kindOf x=some .cell∨X.env.kindOf x=some .free)->∃c,X.env.cells.lookup x=some c
 cab:∀x c,X.fn x=true->X.env.cells.lookup x=some c->X.s₀.heap.objs.size<=c
 hd:X.calm=true->X.A.handled=none
 frames:X.A.frames=some X.stack
 stk:X.stack=X.outer∨(X.stack=X.env::X.outer/\X.env.frame=some X.env.locals)
 exf:∀b∈X.ex,b≠X.env.locals/\∀x c,X.env.cells.lookup x=some c->c≠b
 bs:∀b o,X.base.get? b=some o->X.s₀.heap.get? b=some o/\X.H₀ b=none
 bsz:X.base.objs.size<=X.s₀.heap.objs.size
 noex:∀b o,X.base.get? b=some o->b∉X.ex
 exfs:∀b∈X.ex,b∉X.fs
 funs:X.s₀.heap.FunFrames X.base X.outer
 frf:∀b∈X.fs,X.H₀ b=none
structure Inv (X:Cx) (pins:List (Addr×Obj)) (σ:List (Option V)) (H:Hp) (s:Shared):Prop where
 ok:X.Ok
 os:s.os=X.s₀.os
 bare:AllBare s.gens
 base:Un X.fs X.ex X.H₀ H X.s₀.heap s.heap
 loc:∃m,s.heap.Ns X.env.locals m/\∀(i:Nat) (x:Str) (v:V),X.N[i]? =some x->σ[i]? =some (some v)->Vis X.env.scope x->∃u,RelV v u/\Look X.env s.heap m x u
 cell:∀x c,X.env.cells.lookup x=some c->∃v,s.heap.IsCell c v
 free:H X.env.locals=none
 freeC:∀x c,X.env.cells.lookup x=some c->H c=none
 pin:∀p∈X.pn++pins,s.heap.get? p.1=some p.2/\H p.1=none/\p.1≠X.env.locals/\p.1∉X.fs/\∀v,p.2.data≠ .cell v
 hok:HOk X.prog X.w H s.heap
 len:σ.length=X.N.length
section
variable {X:Cx} {pins:List (Addr×Obj)} {σ:List (Option V)} {H H':Hp} {s:Shared} {h':Heap}
theorem Cx.Ok.nofr (ok:X.Ok) {b:Addr} {o:Obj} (e:X.base.get? b=some o):b∉X.fs:=fun hb=>by
 have:=(ok.funs.mem hb).1
 rw [e]at this;cases this
theorem Inv.bs (I:Inv X pins σ H s):∀b o,X.base.get? b=some o->s.heap.get? b=some o/\H b=none:=fun b o e=>
 ⟨I.base.keep b o (I.ok.bs b o e).1 (I.ok.bs b o e).2 (I.ok.nofr e) (I.ok.noex b o e),I.base.free b o (I.ok.bs b o e).1 (I.ok.bs b o e).2 (I.ok.noex b o e)⟩
theorem Inv.bk (I:Inv X pins σ H s):∀b o,X.base.get? b=some o->s.heap.get? b=some o:=fun b o e=>(I.bs b o e).1
theorem Inv.mod (I:Inv X pins σ H s):Mod X.K X.mg X.base:=I.ok.mod
theorem Inv.kIn (I:Inv X pins σ H s):X.K.In s.heap:=I.ok.mod.kin.keeps I.bk
theorem Inv.lt (I:Inv X pins σ H s):X.env.locals<s.heap.objs.size:=let⟨_,hn,_⟩:=I.loc;hn.lt
theorem Inv.sz (I:Inv X pins σ H s):X.s₀.heap.objs.size<=s.heap.objs.size:=Nat.le_trans I.ok.above (Nat.le_of_lt I.lt)
theorem Inv.nofs (I:Inv X pins σ H s) {a:Addr} (h:s.heap.objs.size<=a):a∉X.fs:=fun hb=>by
 obtain⟨_,o,ho,_⟩:=I.ok.funs.mem hb
 exact absurd (Nat.lt_of_lt_of_le (Heap.lt_size ho) (Nat.le_trans I.sz h)) (Nat.lt_irrefl _)
theorem Inv.cne (I:Inv X pins σ H s):∀x c,X.env.cells.lookup x=some c->c≠X.env.locals:=fun x c e z=>by
 obtain⟨v,o,ho,hd⟩:=I.cell x c e
 obtain⟨m,⟨o',es,ep,ho',hd',_⟩,_⟩:=I.loc
 rw [z,ho']at ho;cases ho;rw [hd']at hd;cases hd
theorem Inv.funs (I:Inv X pins σ H s):s.heap.FunFrames X.base X.outer:=by
 have all:∀(l:List Env),(∀b∈frs l,b∈X.fs)->X.s₀.heap.FunFrames X.base l->s.heap.FunFrames X.base l:=by
  intro l
  induction l with
  |nil=>intro _ _;trivial
  |cons env r ih=>
   intro hs hl
   obtain⟨hk,⟨L,o,hf,hn,ho,hd⟩,hr⟩:=hl
   have hL:L∈X.fs:=hs L (by unfold frs;rw [List.filterMap_cons,hf];exact List.mem_cons_self)
   obtain⟨sl,e⟩:=I.base.slot L o ho (I.ok.frf L hL) hL fun z=>I.ok.exfs L z hL
   exact⟨hk,⟨L,_,hf,hn,e,hd⟩,ih (fun b hb=>hs b (by unfold frs;rw [List.filterMap_cons,hf];exact List.mem_cons_of_mem _ hb)) hr⟩
 exact all X.outer (fun _ hb=>hb) I.ok.funs
theorem Inv.stack (I:Inv X pins σ H s):s.heap.FunFrames X.base X.stack:=by
 rcases I.ok.stk with e|⟨e,hf⟩
 ·rw [e];exact I.funs
 ·rw [e]
  obtain⟨m,hn,_⟩:=I.loc
  refine .cons (by rw [I.ok.kind];decide) hf hn ?_ I.funs
  exact Heap.get?_none_of_le (Nat.le_trans I.ok.bsz I.ok.above)
theorem Inv.stkSub (I:Inv X pins σ H s):∀b∈frs X.stack,b∈X.env.locals::X.fs:=fun b hb=>by
 rcases I.ok.stk with e|⟨e,hf⟩
 ·rw [e]at hb;exact List.mem_cons_of_mem _ hb
 ·rw [e]at hb
  unfold frs at hb
  rw [List.filterMap_cons,hf]at hb
  exact hb
theorem Inv.stkFree (I:Inv X pins σ H s):∀b∈frs X.stack,H b=none:=fun b hb=>by
 rcases List.mem_cons.mp (I.stkSub b hb)with e|hb
 ·rw [e];exact I.free
 ·obtain⟨_,o,ho,_⟩:=I.ok.funs.mem hb
  exact I.base.free b o ho (I.ok.frf b hb) fun z=>I.ok.exfs b z hb
theorem Inv.step {g':Array GenState} {t':Nat} {d':Drawn} {ch:List Addr} (I:Inv X pins σ H s)
  (hch:∀b∈ch,(b∈X.ex∨X.s₀.heap.objs.size<=b)/\b≠X.env.locals/\(∀x c,X.env.cells.lookup x=some c->c≠b)/\∀p∈X.pn++pins,p.1≠b)
  (keep:∀b o,b≠X.env.locals->b∉X.fs->b∉ch->s.heap.get? b=some o->H b=none->h'.get? b=some o)
  (slot:∀b o,b≠X.env.locals->b∈X.fs->b∉ch->s.heap.get? b=some o->H b=none->∃sl,h'.get? b=some {o with slots:=sl}) (free:∀b o,b∉ch->s.heap.get? b=some o->H b=none->H' b=none)
  (there:∀b o,b∉ch->s.heap.get? b=some o->∃o',h'.get? b=some o')
  (tups:∀b xs,H b=some (.tup xs)->H' b=some (.tup xs)) (frzs:∀b o u,H b=some (.frz o u)->H' b=some (.frz o u)) (tbls:∀b ps,H b=some (.tbl ps)->∃more,H' b=some (.tbl (ps++more)))
  (ns:∀m,s.heap.Ns X.env.locals m->h'.Ns X.env.locals m) (hok:HOk X.prog X.w H' h') (hg:AllBare g'):
  Inv X pins σ H' {s with heap:=h',gens:=g',drawn:=d',toks:=t'}:=by
 have neL:∀b o,X.s₀.heap.get? b=some o->b≠X.env.locals:=fun b o e=>Nat.ne_of_lt (Nat.lt_of_lt_of_le (Heap.lt_size e) I.ok.above)
 have neC:∀b o,X.s₀.heap.get? b=some o->b∉X.ex->b∉ch:=fun b o e hx hb=>by
  rcases (hch b hb).1 with z|z
  ·exact hx z
  ·exact absurd (Nat.lt_of_lt_of_le (Heap.lt_size e) z) (Nat.lt_irrefl _)
 have cellK:∀x c,X.env.cells.lookup x=some c->∀v,s.heap.IsCell c v->h'.IsCell c v:=fun x c e v ⟨o,ho,hd⟩=>by
  have nch:c∉ch:=fun z=>(hch c z).2.2.1 x c e rfl
  by_cases hc:c∈X.fs
  ·obtain⟨sl,q⟩:=slot c o (I.cne x c e) hc nch ho (I.freeC x c e)
   exact⟨_,q,hd⟩
  ·exact⟨o,keep c o (I.cne x c e) hc nch ho (I.freeC x c e),hd⟩
 refine⟨I.ok,I.os,hg,⟨fun b o e n hb hx=>?_,fun b o e n hb hx=>?_,fun b o e n hx=>?_,fun b o e hx=>?_,fun b xs e=>tups b xs (I.base.tups b xs e),fun b o xs e=>frzs b o xs (I.base.frzs b o xs e),fun b ps e=>?_⟩,?_,fun x c e=>?_,?_,fun x c e=>?_,fun p hp=>?_,hok,I.len⟩
 ·exact keep b o (neL b o e) hb (neC b o e hx) (I.base.keep b o e n hb hx) (I.base.free b o e n hx)
 ·obtain⟨sl,e1⟩:=I.base.slot b o e n hb hx
  obtain⟨sl',e2⟩:=slot b _ (neL b o e) hb (neC b o e hx) e1 (I.base.free b o e n hx)
  exact⟨sl',e2⟩
 ·obtain⟨o',e1⟩:=I.base.there b o e hx
  exact free b o' (neC b o e hx) e1 (I.base.free b o e n hx)
 ·obtain⟨o',e1⟩:=I.base.there b o e hx
  exact there b o' (neC b o e hx) e1
 ·obtain⟨m1,e1⟩:=I.base.tbls b ps e
  obtain⟨m2,e2⟩:=tbls b _ e1
  exact⟨m1++m2,by rw [e2,Array.append_assoc]⟩
 ·obtain⟨m,hn,hl⟩:=I.loc
  refine⟨m,ns m hn,fun i x v e1 e2 e3=>?_⟩
  obtain⟨u,r,l⟩:=hl i x v e1 e2 e3
  refine⟨u,r,?_⟩
  rcases l with l|⟨k,c,e,z⟩
  ·exact .inl l
  ·exact .inr ⟨k,c,e,cellK x c e _ z⟩
 ·obtain⟨v,z⟩:=I.cell x c e
  exact⟨v,cellK x c e v z⟩
 ·obtain⟨m,⟨o,_,_,ho,_⟩,_⟩:=I.loc
  exact free _ o (fun z=>(hch _ z).2.1 rfl) ho I.free
 ·obtain⟨v,o,ho,hd⟩:=I.cell x c e
  exact free c o (fun z=>(hch c z).2.2.1 x c e rfl) ho (I.freeC x c e)
 ·obtain⟨e,n,ne,nf,d⟩:=I.pin p hp
  have nch:p.1∉ch:=fun z=>(hch p.1 z).2.2.2 p hp rfl
  exact⟨keep p.1 p.2 ne nf nch e n,free p.1 p.2 nch e n,ne,nf,d⟩
theorem Inv.un {t':Nat} (I:Inv X pins σ H s) (u:Un X.fs [] H H' s.heap h') (hok:HOk X.prog X.w H' h'):Inv X pins σ H' {s with heap:=h',toks:=t'}:=by
 obtain⟨m,⟨o,es,ep,ho,r⟩,_⟩:=id I.loc
 obtain⟨sl,hL⟩:=u.any ho I.free (by simp)
 exact I.step (g':=s.gens) (d':=s.drawn) (ch:=[]) (fun _ z=>nomatch z) (fun b o _ hb _ e n=>u.keep b o e n hb (by simp)) (fun b o _ hb _ e n=>u.slot b o e n hb (by simp)) (fun b o _ e n=>u.free b o e n (by simp)) (fun b o _ e=>u.there b o e (by simp)) u.tups u.frzs u.tbls (fun m' hm=>by
  obtain⟨o',es',ep',ho',r'⟩:=hm
  rw [ho]at ho';cases ho'
  exact⟨_,es',ep',hL,r'⟩) hok I.bare
theorem Inv.call {g':Array GenState} {t':Nat} {d':Drawn} {ch:List Addr} (I:Inv X pins σ H s) (u:Un (frs X.stack) ch H H' s.heap h') (hok:HOk X.prog X.w H' h') (hg:AllBare g')
  (hch:∀b∈ch,(b∈X.ex∨X.s₀.heap.objs.size<=b)/\b≠X.env.locals/\(∀x c,X.env.cells.lookup x=some c->c≠b)/\∀p∈X.pn++pins,p.1≠b):
  Inv X pins σ H' {s with heap:=h',gens:=g',drawn:=d',toks:=t'}:=by
 obtain⟨m,⟨o,es,ep,ho,r⟩,_⟩:=id I.loc
 obtain⟨sl,hL⟩:=u.any ho I.free fun z=>(hch _ z).2.1 rfl
 exact I.step (ch:=ch) hch (fun b o hL hb hc e n=>u.keep b o e n (fun z=>(List.mem_cons.mp (I.stkSub b z)).elim hL hb) hc) (fun b o _ _ hc e n=>u.any e n hc) (fun b o hc e n=>u.free b o e n hc) (fun b o hc e=>u.there b o e hc) u.tups u.frzs u.tbls (fun m' hm=>by
  obtain⟨o',es',ep',ho',r'⟩:=hm
  rw [ho]at ho';cases ho'
  exact⟨_,es',ep',hL,r'⟩) hok hg
theorem Inv.turned {t':Nat} {it:Addr} (I:Inv X pins σ H s) (k:∀b o,b≠it->s.heap.get? b=some o->h'.get? b=some o) (hn:H it=none) (hL:it≠X.env.locals)
  (h1:it∈X.ex∨X.s₀.heap.objs.size<=it) (h2:∀x c,X.env.cells.lookup x=some c->c≠it) (h3:∀p∈X.pn++pins,p.1≠it):Inv X pins σ H {s with heap:=h',toks:=t'}:=by
 have nit:∀b u,H b=some u->b≠it:=fun b u e z=>by rw [z,hn]at e;cases e
 refine I.step (g':=s.gens) (d':=s.drawn) (ch:=[it]) (fun b hb=>?_) (fun b o _ _ hc e _=>k b o (fun z=>hc (by simp [z])) e) (fun b o _ _ hc e _=>⟨o.slots,k b o (fun z=>hc (by simp [z])) e⟩) (fun _ _ _ _ n=>n)
  (fun b o hc e=>⟨o,k b o (fun z=>hc (by simp [z])) e⟩) (fun _ _ e=>e) (fun _ _ _ e=>e) (fun b ps e=>⟨#[],by rw [e];simp⟩) (fun m hm=>?_) (fun b u e=>?_) I.bare
 ·have e:b=it:=by simpa using hb
  subst e
  exact⟨h1,hL,h2,h3⟩
 ·obtain⟨o,es,ep,ho,r⟩:=hm
  exact⟨o,es,ep,k _ o (Ne.symm hL) ho,r⟩
 ·refine(I.hok b u e).stay (fun c v hc q=>k c v ?_ q) (fun _ q=>q) fun _ _ q=>q
  rcases hc with z|z
  ·rw [z];exact nit b u e
  ·exact nit c _ z
theorem Inv.tok (I:Inv X pins σ H s) (t:Nat):Inv X pins σ H {s with toks:=t}:=I.un (h':=s.heap) (t':=t) Un.refl I.hok
theorem Inv.kept {t':Nat} (I:Inv X pins σ H s) (k:∀b u,s.heap.get? b=some u->h'.get? b=some u):Inv X pins σ H {s with heap:=h',toks:=t'}:=I.un (Un.kept k) (I.hok.kept k)
theorem Inv.laid {a:Addr} {o:HO} {t':Nat} (I:Inv X pins σ H s) (k:∀b u,s.heap.get? b=some u->h'.get? b=some u) (hp:s.heap.objs.size<=a) (new:cY X.prog X.w (upd H a o) h' a o):
  Inv X pins σ (upd H a o) {s with heap:=h',toks:=t'}:=I.un (Un.laid k hp (I.hok.fresh hp)) (I.hok.laid k hp new)
theorem Inv.write {x e:Addr} {o:HO} {t':Nat} (I:Inv X pins σ H s) (mu:Mut (H x)) (he:e=x∨H e=some (.own x)) (k:∀b u,b≠e->s.heap.get? b=some u->h'.get? b=some u) (heo:∃u,h'.get? e=some u)
  (new:cY X.prog X.w (upd H x o) h' x o):Inv X pins σ (upd H x o) {s with heap:=h',toks:=t'}:=I.un (Un.write mu he k heo) (I.hok.write mu he k heo new)
theorem Inv.pins_of {pins':List (Addr×Obj)} (I:Inv X pins σ H s) (h:∀p∈pins',s.heap.get? p.1=some p.2/\H p.1=none/\p.1≠X.env.locals/\p.1∉X.fs/\∀v,p.2.data≠ .cell v):Inv X pins' σ H s:=
 ⟨I.ok,I.os,I.bare,I.base,I.loc,I.cell,I.free,I.freeC,fun p hp=>(List.mem_append.mp hp).elim (fun z=>I.pin p (List.mem_append_left _ z)) (h p),I.hok,I.len⟩
theorem zA {N:List Str} (hN:N.Nodup) {i j:Nat} {x:Str} (a:N[i]? =some x) (b:N[j]? =some x):i=j:=by
 obtain⟨h1,e1⟩:=List.getElem?_eq_some_iff.mp a
 obtain⟨h2,e2⟩:=List.getElem?_eq_some_iff.mp b
 exact(List.getElem_inj hN).mp (e1.trans e2.symm)
theorem aK4 {M:Model} {A:Around} {E:Value->Shared->Prop} {i:Nat} {x:Str} {v:V} {u:Value} {Q:Unit->Shared->Prop} (I:Inv X pins σ H s) (hN:X.N.Nodup) (hi:X.N[i]? =some x) (hx:Loc X.env.scope x) (r:RelV v u)
  (h:∀s',Inv X pins (σ.set i (some v)) H s'->(∃a,Heap.SameBut a s.heap s'.heap/\(a=X.env.locals∨X.env.cells.lookup x=some a))->Q () s') (hf:X.fn x=true∨X.env.scope.names.lookup x=some .local:=by first|exact .inl rfl|exact .inr rfl|assumption):wpAny M A (storeName X.env x u) Q E s:=by
 obtain⟨m,hn,hl⟩:=id I.loc
 have hcls:(X.env.scope.kind== .class || (X.env.scope.kind== .module && X.env.locals != X.env.globals))=false:=by rw [I.ok.kind];rfl
 have hiσ:i<σ.length:=by rw [I.len];exact(List.getElem?_eq_some_iff.mp hi).1
 have cne:=I.cne
 have tracked:∀{a:Addr} {h':Heap},(∃o,s.heap.get? a=some o/\H a=none)->Heap.SameBut a s.heap h'->HOk X.prog X.w H h':=fun{a h'} ha hs b ob e=>by
  obtain⟨_,_,hfree⟩:=ha
  refine(I.hok b ob e).stay (fun c w' hc q=>(hs.2 c ?_).trans q) (fun _ q=>q) fun _ _ q=>q
  rintro rfl
  rcases hc with rfl|hc
  ·rw [hfree]at e;cases e
  ·rw [hfree]at hc;cases hc
 rcases hx with hk|hk
 ·refine wpAny_storeName_local hk hn (fun h' hn' hs=>?_) hcls
  obtain⟨oL,_,_,hoL,_⟩:=id hn
  refine h _ ⟨I.ok,I.os,I.bare,⟨fun b o e n hb hx=>?_,fun b o e n hb hx=>?_,I.base.free,fun b o e hx=>?_,I.base.tups,I.base.frzs,I.base.tbls⟩,⟨_,hn',fun j y v' e1 e2 e3=>?_⟩,fun y c e=>?_,I.free,I.freeC,fun p hp=>?_,tracked ⟨oL,hoL,I.free⟩ hs,by simpa using I.len⟩ ⟨_,hs,.inl rfl⟩
  ·exact(hs.2 b (Nat.ne_of_lt (Nat.lt_of_lt_of_le (Heap.lt_size e) I.ok.above))).trans (I.base.keep b o e n hb hx)
  ·obtain⟨sl,e1⟩:=I.base.slot b o e n hb hx
   exact⟨sl,(hs.2 b (Nat.ne_of_lt (Nat.lt_of_lt_of_le (Heap.lt_size e) I.ok.above))).trans e1⟩
  ·obtain⟨o',e1⟩:=I.base.there b o e hx
   exact⟨o',(hs.2 b (Nat.ne_of_lt (Nat.lt_of_lt_of_le (Heap.lt_size e) I.ok.above))).trans e1⟩
  ·by_cases hj:j=i
   ·subst hj
    rw [hi]at e1;cases e1
    rw [List.getElem?_set_self hiσ]at e2
    cases e2
    exact⟨u,r,.inl ⟨hk,by simp⟩⟩
   ·rw [List.getElem?_set_ne (Ne.symm hj)]at e2
    obtain⟨u',r',q⟩:=hl j y v' e1 e2 e3
    refine⟨u',r',?_⟩
    rcases q with ⟨k,e⟩|⟨k,c,e,z⟩
    ·refine .inl ⟨k,?_⟩
     have:y≠x:=fun e=>hj (zA hN e1 (e▸hi))
     simp [this,e]
    ·exact .inr ⟨k,c,e,z.sameBut hs (cne y c e)⟩
  ·obtain⟨w',z⟩:=I.cell y c e
   exact⟨w',z.sameBut hs (cne y c e)⟩
  ·obtain⟨e,n,ne,nf,d⟩:=I.pin p hp
   exact⟨(hs.2 p.1 ne).trans e,n,ne,nf,d⟩
 ·have hfn:X.fn x=true:=by
   rcases hf with z|z
   ·exact z
   ·rw [z]at hk;cases hk
  obtain⟨c,hc⟩:=I.ok.has x (.inl hk)
  obtain⟨w',z⟩:=I.cell x c hc
  refine wpAny_storeName_cell I.ok.kind hk hc z (fun h' hc' hs=>?_)
  obtain⟨oc,hoc,hocd⟩:=id z
  refine h {s with heap:=h'} ⟨I.ok,I.os,I.bare,⟨fun b o e n hb hx=>?_,fun b o e n hb hx=>?_,I.base.free,fun b o e hx=>?_,I.base.tups,I.base.frzs,I.base.tbls⟩,⟨m,hn.sameBut hs (Ne.symm (cne x c hc)),fun j y v' e1 e2 e3=>?_⟩,fun y c' e=>?_,I.free,I.freeC,fun p hp=>?_,tracked ⟨oc,hoc,I.freeC x c hc⟩ hs,by simpa using I.len⟩ ⟨c,hs,.inr hc⟩
  ·exact(hs.2 b (Nat.ne_of_lt (Nat.lt_of_lt_of_le (Heap.lt_size e) (I.ok.cab x c hfn hc)))).trans (I.base.keep b o e n hb hx)
  ·obtain⟨sl,e1⟩:=I.base.slot b o e n hb hx
   exact⟨sl,(hs.2 b (Nat.ne_of_lt (Nat.lt_of_lt_of_le (Heap.lt_size e) (I.ok.cab x c hfn hc)))).trans e1⟩
  ·obtain⟨o',e1⟩:=I.base.there b o e hx
   exact⟨o',(hs.2 b (Nat.ne_of_lt (Nat.lt_of_lt_of_le (Heap.lt_size e) (I.ok.cab x c hfn hc)))).trans e1⟩
  ·by_cases hj:j=i
   ·subst hj
    rw [hi]at e1;cases e1
    rw [List.getElem?_set_self hiσ]at e2
    cases e2
    exact⟨u,r,.inr ⟨.inl hk,c,hc,hc'⟩⟩
   ·rw [List.getElem?_set_ne (Ne.symm hj)]at e2
    obtain⟨u',r',q⟩:=hl j y v' e1 e2 e3
    refine⟨u',r',?_⟩
    rcases q with q|⟨k,c',e,z'⟩
    ·exact .inl q
    ·refine .inr ⟨k,c',e,z'.sameBut hs ?_⟩
     rintro rfl
     exact hj (zA hN e1 (I.ok.inj _ _ _ e hc▸hi))
  ·by_cases hcc:c'=c
   ·subst hcc;exact⟨_,hc'⟩
   ·obtain⟨w2,z2⟩:=I.cell y c' e
    exact⟨w2,z2.sameBut hs hcc⟩
  ·obtain⟨e,n,ne,nf,d⟩:=I.pin p hp
   refine⟨(hs.2 p.1 ?_).trans e,n,ne,nf,d⟩
   intro q
   rw [q,hoc]at e
   have q':oc=p.2:=Option.some.inj e
   exact d w' (by rw [<-q'];exact hocd)
theorem xV {M:Model} {A:Around} {E:Value->Shared->Prop} {i:Nat} {x:Str} {v:V} {u:Value} {Q:Unit->Shared->Prop} (I:Inv X pins σ H s) (hN:X.N.Nodup) (hi:X.N[i]? =some x) (hx:Loc X.env.scope x) (r:RelV v u)
  (h:∀s',Inv X pins (σ.set i (some v)) H s'->Q () s') (hf:X.fn x=true∨X.env.scope.names.lookup x=some .local:=by first|exact .inl rfl|exact .inr rfl|assumption):wpAny M A (storeName X.env x u) Q E s:=
 aK4 I hN hi hx r (fun s' I' _=>h s' I') hf
theorem Inv.call' {s':Shared} {ch:List Addr} (I:Inv X pins σ H s) (ho:s'.os=s.os) (u:Un (frs X.stack) ch H H' s.heap s'.heap) (hok:HOk X.prog X.w H' s'.heap) (hg:AllBare s'.gens)
  (hch:∀b∈ch,(b∈X.ex∨X.s₀.heap.objs.size<=b)/\b≠X.env.locals/\(∀x c,X.env.cells.lookup x=some c->c≠b)/\∀p∈X.pn++pins,p.1≠b):Inv X pins σ H' s':=by
 obtain⟨h',g',d',t',o'⟩:=s'
 have e:o'=s.os:=ho
 subst e
 exact I.call (g':=g') (t':=t') (d':=d') u hok hg hch
end
abbrev XK:=Value->Option Addr->Hp->Prop
abbrev St:=List (Option V)
abbrev VK:=V->Hp->Prop
abbrev TE:=St->Hp->VK->Prop
abbrev TT:=St->Hp->(Bool->Hp->Prop)->Prop
abbrev TA:=St->Hp->(List V->Hp->Prop)->Prop
structure Ends where
 nx:St->Hp->Prop
 rt:VK
 bk:St->Hp->Prop:=fun _ _=>False
 ct:St->Hp->Prop:=fun _ _=>False
abbrev TS:=Ends->St->Hp->Prop
inductive IEP (X:Cx) (pins:List (Addr×Obj)) (σ:St) (Q:VK) (u:Value) (s':Shared):Prop
 |mk (v H':_) (q0_:Inv X pins σ H' s') (q1_:RelV v u) (q2_:Q v H'):IEP X pins σ Q u s'
def EP (X:Cx) (pins:List (Addr×Obj)) (σ:St) (Q:VK) (u:Value) (s':Shared):Prop:=IEP X pins σ Q u s'
def TP (X:Cx) (pins:List (Addr×Obj)) (σ:St) (Q:Bool->Hp->Prop) (b:Bool) (s':Shared):Prop:=∃H',Inv X pins σ H' s'/\Q b H'
inductive IAP (X:Cx) (pins:List (Addr×Obj)) (σ:St) (Q:List V->Hp->Prop) (us:List Value) (s':Shared):Prop
 |mk (vs H':_) (q0_:Inv X pins σ H' s') (q1_:Vals vs us) (q2_:Q vs H'):IAP X pins σ Q us s'
def AP (X:Cx) (pins:List (Addr×Obj)) (σ:St) (Q:List V->Hp->Prop) (us:List Value) (s':Shared):Prop:=IAP X pins σ Q us s'
def SP (X:Cx) (pins:List (Addr×Obj)) (D:Ends) (f:Flow) (s':Shared):Prop:=
 match f with
 | .next=>∃σ' H',Inv X pins σ' H' s'/\D.nx σ' H'
 | .brk=>∃σ' H',Inv X pins σ' H' s'/\D.bk σ' H'
 | .cont=>∃σ' H',Inv X pins σ' H' s'/\D.ct σ' H'
 | .ret u=>∃v σ' H',Inv X pins σ' H' s'/\RelV v u/\D.rt v H'
def PE (X:Cx) (e:Expr) (t:TE):Prop:=
 ∀(pins:List (Addr×Obj)) (s:Shared) (σ:St) (H:Hp) (Q:VK),Inv X pins σ H s->t σ H Q->wpAny (model X.prog X.w) X.A (eval e X.env) (EP X pins σ Q) X.xe s
def PT (X:Cx) (e:Expr) (t:TT):Prop:=
 ∀(pins:List (Addr×Obj)) (s:Shared) (σ:St) (H:Hp) (Q:Bool->Hp->Prop),Inv X pins σ H s->t σ H Q->wpAny (model X.prog X.w) X.A (isTrue e X.env (eval e X.env)) (TP X pins σ Q) X.xe s
def PW (X:Cx) (e:Expr) (t:TT):Prop:=
 ∀(whole:Sem Value) (pins:List (Addr×Obj)) (s:Shared) (σ:St) (H:Hp) (Q:Bool->Hp->Prop),Inv X pins σ H s->t σ H Q->wpAny (model X.prog X.w) X.A (isTrue e X.env whole) (TP X pins σ Q) X.xe s
theorem PW.pt {X:Cx} {e:Expr} {t:TT} (h:PW X e t):PT X e t:=h _
def PA (X:Cx) (es:List Expr) (t:TA):Prop:=
 ∀(pos:Pos) (pins:List (Addr×Obj)) (s:Shared) (σ:St) (H:Hp) (Q:List V->Hp->Prop),Inv X pins σ H s->t σ H Q->wpAny (model X.prog X.w) X.A (spliced (backTo pos (starEach es X.env))) (AP X pins σ Q) X.xe s
def PS (X:Cx) (st:Stmt) (t:TS):Prop:=
 ∀(pins:List (Addr×Obj)) (s:Shared) (σ:St) (H:Hp) (D:Ends),Inv X pins σ H s->t D σ H->wpAny (model X.prog X.w) X.A (exec st X.env) (SP X pins D) X.xe s
def PSs (X:Cx) (st:List Stmt) (t:TS):Prop:=
 ∀(pins:List (Addr×Obj)) (s:Shared) (σ:St) (H:Hp) (D:Ends),Inv X pins σ H s->t D σ H->wpAny (model X.prog X.w) X.A (execs st X.env) (SP X pins D) X.xe s
theorem thn {α:Type} {t:Sem α} {Q Q':α->Shared->Prop} {M:Model} {A:Around} {E:Value->Shared->Prop} {s:Shared} (h:wpAny M A t Q E s) (hQ:∀a s,Q a s->Q' a s):wpAny M A t Q' E s:=wpAny_mono h hQ fun _ _ x=>x
end L2
namespace L2
open PySem PySem.Spec PyProof.Rows
section
variable {X:Cx}
inductive aRm (i:Nat) (σ:St) (H:Hp) (Q:VK):Prop
 |mk (v:_) (q0_:σ[i]? =some (some v)) (q1_:Q v H):aRm i σ H Q
def aUd (i:Nat):TE:=fun σ H Q=>aRm i σ H Q
def tC (v:V):TE:=fun _ H Q=>Q v H
theorem aTr {i:Nat} {x:Str} {pos:Pos} (hN:X.N[i]? =some x) (hv:Vis X.env.scope x) (hd:(x==("__debug__":Str))=false:=by decide) (hcd:(x==("__classdict__":Str))=false:=by decide):PE X (.Name x pos) (aUd i):=by
 intro pins s σ H Q I h
 obtain⟨v,e,h⟩:=h
 obtain⟨m,hn,hl⟩:=I.loc
 obtain⟨u,r,l⟩:=hl i x v hN e hv
 have fin:EP X pins σ Q u s:=⟨v,H,I,r,h⟩
 rcases l with ⟨hk,hm⟩|⟨hk,c,hc,hcell⟩
 ·exact wpAny_Name (wpAny_loadName_local I.ok.kind hk hn hm fin) hd
 ·rcases hk with hk|hk
  ·exact wpAny_Name (wpAny_loadName_cell I.ok.kind hk hc hcell fin) hd
  ·exact wpAny_Name (wpAny_loadName_free I.ok.kind hk hc hcell fin hcd) hd
theorem aG {i j pos}:PE X (.Constant (.int i) j pos) (tC (.int i)):=fun _ _ _ H _ I h=>wpAny_Constant_int ⟨.int i,H,I.tok _,⟨_,rfl⟩,h⟩
theorem lJ {b j pos}:PE X (.Constant (.bool b) j pos) (tC (.bl b)):=fun _ _ _ H _ I h=>Constant_bool ⟨.bl b,H,I,rfl,h⟩
theorem jK {j pos}:PE X (.Constant .none j pos) (tC .non):=fun _ _ _ H _ I h=>Constant_none ⟨.non,H,I,rfl,h⟩
theorem aJ {x j pos}:PE X (.Constant (.str x) j pos) (tC (.str x)):=fun _ _ _ H _ I h=>Calls.Constant_str ⟨.str x,H,I.tok _,⟨_,rfl⟩,h⟩
def Gl (X:Cx) (x:Str):Prop:=X.env.kindOf x=some .globalImplicit
theorem mJ {E:Value->Shared->Prop} {pins:List (Addr×Obj)} {s:Shared} {σ:St} {H:Hp} {x:Str} {u:Value} {pos:Pos} {Q:Value->Shared->Prop} (I:Inv X pins σ H s) (hg:Gl X x) (hm:X.mg x=some u) (h:Q u s)
  (hd:(x==("__debug__":Str))=false:=by decide):wpAny (model X.prog X.w) X.A (eval (.Name x pos) X.env) Q E s:=
 Calls.Name_function_global I.ok.kind hg (Calls.loadGlobal_global (by rw [I.ok.glob];exact I.mod.glob.keeps I.bk) hm h) hd
theorem xT {E:Value->Shared->Prop} {pins:List (Addr×Obj)} {s:Shared} {σ:St} {H:Hp} {x:Str} {u:Value} {pos:Pos} {Q:Value->Shared->Prop} (I:Inv X pins σ H s) (hg:Gl X x) (hm:X.mg x=none) (hv:bootBuiltins x=some u) (h:Q u s)
  (hn:x≠"__name__":=by decide) (hd:(x==("__debug__":Str))=false:=by decide):wpAny (model X.prog X.w) X.A (eval (.Name x pos) X.env) Q E s:=by
 obtain⟨mb,h1,h2⟩:=I.mod.blt
 exact Calls.Name_function_global I.ok.kind hg (Calls.loadGlobal_builtin (by rw [I.ok.glob];exact I.mod.glob.keeps I.bk) hm (by rw [I.ok.blt];exact h1.keeps I.bk) ((h2 x hn).trans hv) h) hd
theorem vN {x:Str} {v:V} {u:Value} {pos:Pos} (hg:Gl X x) (hm:X.mg x=some u) (r:RelV v u) (hd:(x==("__debug__":Str))=false:=by decide):PE X (.Name x pos) (tC v):=
 fun _ _ _ H _ I h=>mJ I hg hm ⟨v,H,I,r,h⟩ hd
theorem aHg {x:Str} {v:V} {u:Value} {pos:Pos} (hg:Gl X x) (hm:X.mg x=none) (hv:bootBuiltins x=some u) (r:RelV v u) (hn:x≠"__name__":=by decide) (hd:(x==("__debug__":Str))=false:=by decide):PE X (.Name x pos) (tC v):=
 fun _ _ _ H _ I h=>xT I hg hm hv ⟨v,H,I,r,h⟩ hn hd
variable {a b:Expr} {ta tb:TE} {pos:Pos}
inductive aVi (x:V) (H:Hp) (Q:Bool->Hp->Prop):Prop
 |mk (c:_) (q0_:x= .bl c) (q1_:Q c H):aVi x H Q
def rBl (x:V) (H:Hp) (Q:Bool->Hp->Prop):Prop:=aVi x H Q
def tB (t:TE):TT:=fun σ H Q=>t σ H fun x H1=>rBl x H1 Q
theorem iV {e:Expr} {t:TE} (h:PE X e t) (he:∀whole,isTrue e X.env whole=(do let v<-whole;standAt e.pos;holding [v] (truthy v)):=by intro _;rfl):PT X e (tB t):=by
 intro pins s σ H Q I hw
 refine isTrue_plain (thn (h pins s σ H _ I hw) fun v s1 ⟨x,H1,I1,r1,q1⟩=>?_) (he _)
 obtain⟨d,rfl,q⟩:=q1
 cases r1
 exact wpAny_truthy_bool ⟨H1,I1,q⟩
variable {tA tB':TT} {rest:List Expr}
def aWe (t u:TT):TT:=fun σ H Q=>t σ H fun c H1=>if c=true then u σ H1 Q else Q false H1
def tOr (t u:TT):TT:=fun σ H Q=>t σ H fun c H1=>if c=true then Q true H1 else u σ H1 Q
def aWs (t:TT):TT:=fun σ H Q=>t σ H fun c H1=>Q (!c) H1
theorem mG (ha:PT X a tA):PW X (.BoolOp .And [a] pos) tA:=by
 intro wh pins s σ H Q I h
 refine isTrue_and (thn (ha pins s σ H Q I h) fun c s1 e=>?_)
 cases c with
 |true=>exact isTrue_and_nil e
 |false=>exact e
theorem yS (ha:PT X a tA):PW X (.BoolOp .Or [a] pos) tA:=by
 intro wh pins s σ H Q I h
 refine isTrue_or (thn (ha pins s σ H Q I h) fun c s1 e=>?_)
 cases c with
 |false=>exact isTrue_or_nil e
 |true=>exact e
theorem mZ (ha:PT X a tA) (hb:PW X (.BoolOp .And (b::rest) pos) tB'):PW X (.BoolOp .And (a::b::rest) pos) (aWe tA tB'):=by
 intro wh pins s σ H Q I h
 refine isTrue_and (thn (ha pins s σ H _ I h) fun c s1 ⟨H1,I1,q1⟩=>?_)
 cases c with
 |true=>exact hb wh pins s1 σ H1 Q I1 q1
 |false=>exact⟨H1,I1,q1⟩
theorem aFb (ha:PT X a tA) (hb:PW X (.BoolOp .Or (b::rest) pos) tB'):PW X (.BoolOp .Or (a::b::rest) pos) (tOr tA tB'):=by
 intro wh pins s σ H Q I h
 refine isTrue_or (thn (ha pins s σ H _ I h) fun c s1 ⟨H1,I1,q1⟩=>?_)
 cases c with
 |true=>exact⟨H1,I1,q1⟩
 |false=>exact hb wh pins s1 σ H1 Q I1 q1
theorem mQ (ha:PT X a tA):PT X (.UnaryOp .Not a pos) (aWs tA):=by
 intro pins s σ H Q I h
 exact isTrue_not (ha pins s σ H (fun c H1=>Q (!c) H1) I h)
def aUv (ta tb:TE):TE:=fun σ H Q=>ta σ H fun x H1=>∃c,x= .bl c/\if c=true then tb σ H1 Q else Q (.bl false) H1
def aU6 (ta:TE):TE:=fun σ H Q=>ta σ H fun x H1=>∃c,x= .bl c/\Q (.bl (!c)) H1
theorem aFj {op} {t:TE} (h:PE X a t):PE X (.BoolOp op [a] pos) t:=fun pins s σ H Q I hw=>BoolOp_one (h pins s σ H Q I hw)
theorem aGx (ha:PE X a ta) (hb:PE X (.BoolOp .And (b::rest) pos) tb):PE X (.BoolOp .And (a::b::rest) pos) (aUv ta tb):=by
 intro pins s σ H Q I h
 refine BoolOp_and (thn (ha pins s σ H _ I h) fun v s1 ⟨x,H1,I1,r1,q1⟩=>?_)
 obtain⟨c,rfl,q1⟩:=q1
 cases r1
 refine wpAny_truthy_bool ?_
 cases c with
 |true=>exact hb pins s1 σ H1 Q I1 q1
 |false=>exact⟨.bl false,H1,I1,rfl,q1⟩
theorem aTs (ha:PE X a ta):PE X (.UnaryOp .Not a pos) (aU6 ta):=by
 intro pins s σ H Q I h
 refine UnaryOp_ (thn (ha pins s σ H _ I h) fun v s1 ⟨x,H1,I1,r1,q1⟩=>?_)
 obtain⟨c,rfl,q1⟩:=q1
 cases r1
 exact not_of (wpAny_truthy_bool ⟨.bl (!c),H1,I1,rfl,q1⟩)
end
end L2
namespace L2
open PySem PySem.Spec PyProof.Rows
def SqL (K:PySem.W.Frag) (H:Hp) (a:Addr) (xs:List V):Prop:=
 Rd H a (.lst xs)∨
  ∃(o:Obj) (its:Array Value) (n:Nat),K.lookup a=some o/\o.cls= .type "list"/\o.dict=none/\o.data= .seq its n/\its.size<=sizeLine/\Vals xs its.toList
def SqT (K:PySem.W.Frag) (H:Hp) (a:Addr) (xs:List V):Prop:=
 Rd H a (.tup xs)∨
  ∃(o:Obj) (its:Array Value) (n:Nat),K.lookup a=some o/\o.cls= .type "tuple"/\o.data= .seq its n/\its.size<=sizeLine/\Vals xs its.toList
def aWp:Value->Option V
 | .none=>some .non
 | .bool b=>some (.bl b)
 | .int i _=>some (.int i)
 | .str x _=>some (.str x)
 | .bytes b _=>some (.byt b)
 | .float b _=>some (.flt b)
 | .ref a=>some (.ref a)
 | .type n=>some (.ty n)
 |_=>none
theorem RelV.abs {x:V} {u:Value} (r:RelV x u):aWp u=some x:=by
 cases x with
 |non=>cases r;rfl
 |bl _=>cases r;rfl
 |int _=>obtain⟨t,rfl⟩:=r;rfl
 |str _=>obtain⟨t,rfl⟩:=r;rfl
 |byt _=>obtain⟨t,rfl⟩:=r;rfl
 |flt _=>obtain⟨t,rfl⟩:=r;rfl
 |ref _=>cases r;rfl
 |ty _=>cases r;rfl
theorem RelV.inj {x y:V} {u:Value} (r:RelV x u) (q:RelV y u):x=y:=Option.some.inj (r.abs.symm.trans q.abs)
theorem Vals.inj:∀{xs ys:List V} {us:List Value},Vals xs us->Vals ys us->xs=ys
 |_,_,_,.nil,.nil=>rfl
 |_,_,_,.cons r t,.cons r' t'=>by rw [r.inj r',Vals.inj t t']
section
variable {X:Cx} {pins:List (Addr×Obj)} {σ:St} {H:Hp} {s:Shared} {a:Addr} {xs ys:List V}
theorem SqL.of {K:PySem.W.Frag} (h:H a=some (.lst xs)):SqL K H a xs:= .inl (.inl h)
theorem SqT.of {K:PySem.W.Frag} (h:H a=some (.tup xs)):SqT K H a xs:= .inl (.inl h)
theorem Inv.list (I:Inv X pins σ H s) (h:SqL X.K H a xs):∃its:List Value,Vals xs its/\PlainL s.heap a its.toArray/\xs.length<=sizeLine:=by
 rcases h with h|⟨o,its,n,hk,hc,hd,hs,hz,r⟩
 ·obtain⟨z,its,n,r,e⟩:=h.ok I.hok
  exact⟨its,r,⟨_,n,e,rfl,rfl,rfl⟩,z⟩
 ·refine⟨its.toList,r,⟨o,n,I.kIn a o hk,hc,hd,by simpa using hs⟩,?_⟩
  have e:=r.length
  simp only [Array.length_toList]at e
  omega
theorem Inv.tuple (I:Inv X pins σ H s) (h:SqT X.K H a xs):∃its:List Value,Vals xs its/\IsTup s.heap a its.toArray/\xs.length<=sizeLine:=by
 rcases h with h|⟨o,its,n,hk,hc,hs,hz,r⟩
 ·obtain⟨z,its,r,p⟩:=h.ok I.hok
  exact⟨its,r,p,z⟩
 ·refine⟨its.toList,r,⟨o,I.kIn a o hk,hc,n,by simpa using hs⟩,?_⟩
  have e:=r.length
  simp only [Array.length_toList]at e
  omega
theorem Inv.list_inj (I:Inv X pins σ H s) (h:SqL X.K H a xs) (h':SqL X.K H a ys):xs=ys:=by
 obtain⟨its,r,⟨o,n,e,_,_,d⟩,_⟩:=I.list h
 obtain⟨its',r',⟨o',n',e',_,_,d'⟩,_⟩:=I.list h'
 rw [e]at e';cases e'
 rw [d]at d'
 injection d' with d1 _
 have:its=its':=by simpa using congrArg Array.toList d1
 subst this
 exact r.inj r'
theorem Inv.tuple_inj (I:Inv X pins σ H s) (h:SqT X.K H a xs) (h':SqT X.K H a ys):xs=ys:=by
 obtain⟨its,r,⟨o,e,_,n,d⟩,_⟩:=I.tuple h
 obtain⟨its',r',⟨o',e',_,n',d'⟩,_⟩:=I.tuple h'
 rw [e]at e';cases e'
 rw [d]at d'
 injection d' with d1 _
 have:its=its':=by simpa using congrArg Array.toList d1
 subst this
 exact r.inj r'
end
abbrev Cx.wish (X:Cx) (E:Value->Shared->Prop):Cx:={X with xe:=E}
abbrev Cx.nox (X:Cx):Cx:=X.wish fun _ _=>False
theorem Cx.Ok.wish {X:Cx} (ok:X.Ok) (E:Value->Shared->Prop):(X.wish E).Ok:=
 ⟨ok.mod,ok.kind,ok.glob,ok.blt,ok.above,ok.inj,ok.has,ok.cab,ok.hd,ok.frames,ok.stk,ok.exf,ok.bs,ok.bsz,ok.noex,ok.exfs,ok.funs,ok.frf⟩
theorem Cx.Ok.unwish {X:Cx} {E:Value->Shared->Prop} (ok:(X.wish E).Ok):X.Ok:=
 ⟨ok.mod,ok.kind,ok.glob,ok.blt,ok.above,ok.inj,ok.has,ok.cab,ok.hd,ok.frames,ok.stk,ok.exf,ok.bs,ok.bsz,ok.noex,ok.exfs,ok.funs,ok.frf⟩
section
variable {X:Cx} {pins:List (Addr×Obj)} {σ:St} {H:Hp} {s:Shared} {E:Value->Shared->Prop}
theorem Inv.wish (I:Inv X pins σ H s) (E:Value->Shared->Prop):Inv (X.wish E) pins σ H s:=⟨I.ok.wish E,I.os,I.bare,I.base,I.loc,I.cell,I.free,I.freeC,I.pin,I.hok,I.len⟩
theorem Inv.unwish (I:Inv (X.wish E) pins σ H s):Inv X pins σ H s:=⟨I.ok.unwish,I.os,I.bare,I.base,I.loc,I.cell,I.free,I.freeC,I.pin,I.hok,I.len⟩
theorem SP.unwish {D:Ends} {f:Flow} {s':Shared} (h:SP (X.wish E) pins D f s'):SP X pins D f s':=by
 cases f with
 |next=>obtain⟨σ',H',I,q⟩:=h;exact⟨σ',H',I.unwish,q⟩
 |brk=>obtain⟨σ',H',I,q⟩:=h;exact⟨σ',H',I.unwish,q⟩
 |cont=>obtain⟨σ',H',I,q⟩:=h;exact⟨σ',H',I.unwish,q⟩
 |ret u=>obtain⟨v,σ',H',I,r,q⟩:=h;exact⟨v,σ',H',I.unwish,r,q⟩
theorem PSs.nox {st:List Stmt} {t:TS} (h:PSs X.nox st t):PSs X st t:=fun pins s σ H D I hw=>
 wpAny_mono (h pins s σ H D (I.wish _) hw) (fun _ _ q=>q.unwish) fun _ _ z=>False.elim z
end
section
variable {X:Cx} {st:Stmt} {rest:List Stmt} {t u:TS} {e:Expr} {te:TE} {pos:Pos}
def aVf:TS:=fun D σ H=>D.nx σ H
def aVy (t u:TS):TS:=fun D σ H=>t {D with nx:=u D} σ H
theorem aR:PSs X [] aVf:=fun _ _ σ H _ I h=>wpAny_execs_nil ⟨σ,H,I,h⟩
theorem aB (h1:PS X st t) (h2:PSs X rest u):PSs X (st::rest) (aVy t u):=by
 intro pins s σ H D I h
 refine wpAny_execs_cons (thn (h1 pins s σ H {D with nx:=u D} I h) fun f s1 q=>?_)
 cases f with
 |next=>
  obtain⟨σ',H',I',q⟩:=q
  exact h2 pins s1 σ' H' D I' q
 |ret v=>exact q
 |brk=>exact q
 |cont=>exact q
theorem aD (h1:PS X st t):PSs X [st] t:=by
 intro pins s σ H D I h
 refine wpAny_execs_cons (thn (h1 pins s σ H D I h) fun f s1 q=>?_)
 cases f with
 |next=>exact wpAny_execs_nil q
 |ret v=>exact q
 |brk=>exact q
 |cont=>exact q
theorem Inv.quiet {pins:List (Addr×Obj)} {σ:St} {H:Hp} {s:Shared} (I:Inv X pins σ H s):interactive X.env=false:=by simp [interactive,I.ok.kind]
def aUi (te:TE):TS:=fun D σ H=>te σ H fun _ H1=>D.nx σ H1
theorem bY (he:PE X e te) (hs:swapsWith e none pos.line X.env=pure false:=by rfl):PS X (.Expr e pos) (aUi te):=by
 intro pins s σ H D I h
 exact wpAny_Expr_any (thn (he pins s σ H _ I h) fun v s1 ⟨x,H1,I1,r1,q1⟩=>⟨σ,H1,I1,q1⟩) I.quiet hs
def aV6 (te:TE):TS:=fun D σ H=>te σ H D.rt
theorem aL (he:PE X e te):PS X (.Return (some e) pos) (aV6 te):=by
 intro pins s σ H D I h
 exact wpAny_Return_some (thn (he pins s σ H _ I h) fun v s1 ⟨x,H1,I1,r1,q1⟩=>⟨x,σ,H1,I1,r1,q1⟩)
def aWa (c:TT) (t u:TS):TS:=fun D σ H=>c σ H fun b H1=>if b=true then t D σ H1 else u D σ H1
theorem bK {c:Expr} {a b:List Stmt} {tc:TT} (hc:PT X c tc) (ha:PSs X a t) (hb:PSs X b u):PS X (.If c a b pos) (aWa tc t u):=by
 intro pins s σ H D I h
 refine wpAny_If (thn (hc pins s σ H _ I h) fun d s1 ⟨H1,I1,q1⟩=>?_)
 cases d with
 |true=>exact ha pins s1 σ H1 D I1 q1
 |false=>exact hb pins s1 σ H1 D I1 q1
end
abbrev TG:=V->St->Hp->(St->Hp->Prop)->Prop
abbrev TGs:=List V->St->Hp->(St->Hp->Prop)->Prop
def PG (X:Cx) (target:Expr) (t:TG):Prop:=
 ∀(pins:List (Addr×Obj)) (s:Shared) (σ:St) (H:Hp) (v:V) (u:Value) (Q:St->Hp->Prop),Inv X pins σ H s->RelV v u->t v σ H Q->
  wpAny (model X.prog X.w) X.A (assign target X.env u) (fun _ s'=>∃σ' H',Inv X pins σ' H' s'/\Q σ' H') X.xe s
def PGs (X:Cx) (ts:List Expr) (t:TGs):Prop:=
 ∀(pins:List (Addr×Obj)) (s:Shared) (σ:St) (H:Hp) (vs:List V) (us:List Value) (Q:St->Hp->Prop),Inv X pins σ H s->Vals vs us->t vs σ H Q->
  wpAny (model X.prog X.w) X.A (assignInOrder ((assignEach ts X.env).map (·.2)) us) (fun _ s'=>∃σ' H',Inv X pins σ' H' s'/\Q σ' H') X.xe s
abbrev aTg:=V->V->V->Hp->(Hp->Prop)->Prop
def aVj (X:Cx) (t:aTg):Prop:=
 ∀(pins:List (Addr×Obj)) (s:Shared) (σ:St) (H:Hp) (o i v:V) (ov iv u:Value) (Q:Hp->Prop),Inv X pins σ H s->RelV o ov->RelV i iv->RelV v u->t o i v H Q->
  wpAny (model X.prog X.w) X.A (setItem ov iv u) (fun _ s'=>∃H',Inv X pins σ H' s'/\Q H') X.xe s
section
variable {X:Cx} {pos:Pos}
def gR (i:Nat):TG:=fun v σ H Q=>Q (σ.set i (some v)) H
theorem dC {i:Nat} {x:Str} (hN:X.N.Nodup) (hi:X.N[i]? =some x) (hx:Loc X.env.scope x) (hf:X.fn x=true∨X.env.scope.names.lookup x=some .local:=by first|exact .inl rfl|exact .inr rfl|assumption):PG X (.Name x pos) (gR i):=by
 intro pins s σ H v u Q I r h
 exact wpAny_assign_Name (xV I hN hi hx r (fun s' I'=>⟨_,H,I',h⟩) hf)
def aWg:TGs:=fun vs σ H Q=>vs=[]/\Q σ H
def aVq (t:TG) (u:TGs):TGs:=fun vs σ H Q=>∃v r,vs=v::r/\t v σ H fun σ' H'=>u r σ' H' Q
theorem aHj:PGs X [] aWg:=by
 intro pins s σ H vs us Q I r h
 obtain⟨e,h⟩:=h
 subst e
 cases r
 exact assignInOrder_nil ⟨σ,H,I,h⟩
theorem qM {e:Expr} {es:List Expr} {t:TG} {u:TGs} (h1:PG X e t) (h2:PGs X es u)
  (hs:(assignEach (e::es) X.env).map (·.2)=assign e X.env::(assignEach es X.env).map (·.2):=by rfl):PGs X (e::es) (aVq t u):=by
 intro pins s σ H vs us Q I r h
 obtain⟨v,vr,e1,h⟩:=h
 subst e1
 cases r with
 |cons r rr=>
  rw [hs]
  refine assignInOrder_cons (thn (h1 pins s σ H _ _ _ I r h) fun _ s1 ⟨σ1,H1,I1,q1⟩=>?_)
  exact h2 pins s1 σ1 H1 _ _ Q I1 rr q1
inductive aRj (K:PySem.W.Frag) (n:Nat) (t:TGs) (v:V) (σ:St) (H:Hp) (Q:(St->Hp->Prop)):Prop
 |mk (a xs:_) (q0_:v= .ref a) (q1_:SqT K H a xs) (q2_:xs.length=n) (q3_:t xs σ H Q):aRj K n t v σ H Q
def aV9 (K:PySem.W.Frag) (n:Nat) (t:TGs):TG:=fun v σ H Q=>aRj K n t v σ H Q
theorem aNf {es:List Expr} {k:Nat} {t:TGs} {n:Nat} (hc:X.calm=true) (h:PGs X es t)
  (hn:(assignEach es X.env).length=n:=by rfl) (hst:(assignEach es X.env).findIdx? (·.1)=none:=by rfl):PG X (.Tuple es k pos) (aV9 X.K n t):=by
 intro pins s σ H v u Q I r hw
 obtain⟨a,xs,e1,hq,hl,hw⟩:=hw
 subst e1
 cases r
 obtain⟨its,rv,ht,hz⟩:=I.tuple hq
 refine assign_Tuple_tuple (I.ok.hd hc) ht (by simp [hn, <-hl,rv.length]) hst fun h' hx=>?_
 have I1:Inv X pins σ H {s with heap:=h'}:=I.kept (t':=s.toks) fun b o e=>hx b o (Nat.ne_of_lt (Heap.lt_size e)) e
 exact h pins _ σ H xs _ Q I1 (by simpa using rv) hw
def aWb (to ti:TE) (t:aTg):TG:=fun v σ H Q=>to σ H fun o H1=>ti σ H1 fun i H2=>t o i v H2 fun H3=>Q σ H3
theorem aNz {o i:Expr} {to ti:TE} {t:aTg} (ho:PE X o to) (hi:PE X i ti) (hs:aVj X t)
  (ha:∀v,assign (.Subscript o i pos) X.env v=(do
   let ov<-holding [v] (eval o X.env)
   let iv<-holding [v,ov] (eval i X.env)
   standAt pos
   holding [v,ov,iv] (setItem ov iv v)
   release [v,ov,iv] []):=by intro _;rfl):PG X (.Subscript o i pos) (aWb to ti t):=by
 intro pins s σ H v u Q I r h
 rw [ha]
 refine wpAny_bind (wpAny_holding (thn (ho pins s σ H _ I h) fun ov s1 ⟨x,H1,I1,r1,q1⟩=>?_))
 refine wpAny_bind (wpAny_holding (thn (hi pins s1 σ H1 _ I1 q1) fun iv s2 ⟨y,H2,I2,r2,q2⟩=>?_))
 refine wpAny_bind (wpAny_standAt (wpAny_bind (wpAny_holding (thn (hs pins s2 σ H2 x y v ov iv u _ I2 r1 r2 r q2) fun _ s3 ⟨H3,I3,q3⟩=>?_))))
 exact wpAny_release ⟨σ,H3,I3,q3⟩
def aU0 (te:TE) (g:TG):TS:=fun D σ H=>te σ H fun x H1=>g x σ H1 D.nx
theorem aBq {tg e:Expr} {te:TE} {g:TG} (he:PE X e te) (hg:PG X tg g) (hs:swapsWithSole [tg] e pos.line X.env=pure false:=by rfl) (hw:swappedStores [tg] e X.env=pure none:=by rfl)
  (h1:(assignEach [tg] X.env).map (·.2)=[assign tg X.env]:=by rfl):PS X (.Assign [tg] e pos) (aU0 te g):=by
 intro pins s σ H D I h
 refine wpAny_Assign_stores (thn (he pins s σ H _ I h) fun v s1 ⟨x,H1,I1,r1,q1⟩=>?_) hs hw
 rw [h1]
 exact thn (hg pins s1 σ H1 x v _ I1 r1 q1) fun _ s2 q=>q
theorem aY {i:Nat} {x:Str} {e:Expr} {te:TE} {pos':Pos} (hN:X.N.Nodup) (hi:X.N[i]? =some x) (hx:Loc X.env.scope x) (he:PE X e te) (hs:swapsWith e (some (.Name x pos')) pos.line X.env=pure false:=by rfl) (hf:X.fn x=true∨X.env.scope.names.lookup x=some .local:=by first|exact .inl rfl|exact .inr rfl|assumption):
  PS X (.Assign [.Name x pos'] e pos) (aU0 te (gR i)):=by
 intro pins s σ H D I h
 refine wpAny_Assign_Name (thn (he pins s σ H _ I h) fun v s1 ⟨y,H1,I1,r1,q1⟩=>?_) hs
 exact xV I1 hN hi hx r1 (fun s2 I2=>⟨_,H1,I2,q1⟩) hf
end
section
variable {X:Cx} {pos:Pos}
inductive aIt (c:TT) (tb:TS) (D:Ends) (σ:St) (H:Hp):Prop
 |mk (W:Nat->St->Hp->Prop) (q0_:(∃m,W m σ H)) (q1_:∀m σ H,W m σ H->c σ H fun b H1=>if b=true then∃N:St->Hp->Prop,(∀σ' H',N σ' H'->∃m',m'<m/\W m' σ' H')/\tb {D with nx:=N,ct:=N,bk:=D.nx} σ H1 else D.nx σ H1):aIt c tb D σ H
def aTc (c:TT) (tb:TS):TS:=fun D σ H=>aIt c tb D σ H
theorem lF {c:Expr} {body:List Stmt} {tc:TT} {tb:TS} (hp:PassesOwn (model X.prog X.w) X.A X.env X.xe) (hc:PT X c tc) (hb:PSs X body tb):PS X (.While c body [] pos) (aTc tc tb):=by
 intro pins s σ H D I h
 obtain⟨W,⟨m0,w0⟩,turn⟩:=h
 refine wpAny_While (codeAny_whileLoop (fun n s'=>∃σ' H',Inv X pins σ' H' s'/\W n σ' H') ?_ m0 ⟨σ,H,I,w0⟩)
 rintro n s1 ⟨σ1,H1,I1,w1⟩
 refine wpAny_passesOwn hp (thn (hc pins s1 σ1 H1 _ I1 (turn n σ1 H1 w1)) fun b s2 ⟨H2,I2,q2⟩=>?_)
 cases b with
 |true=>
  obtain⟨N,hN,q2⟩:=q2
  rw [if_pos rfl]
  refine wpAny_passesOwn hp (thn (hb pins s2 σ1 H2 _ I2 q2) fun f s3 q3=>?_)
  cases f with
  |next=>
   obtain⟨σ3,H3,I3,n3⟩:=q3
   obtain⟨m',hm,w3⟩:=hN σ3 H3 n3
   exact⟨m',hm,σ3,H3,I3,w3⟩
  |cont=>
   obtain⟨σ3,H3,I3,n3⟩:=q3
   obtain⟨m',hm,w3⟩:=hN σ3 H3 n3
   exact⟨m',hm,σ3,H3,I3,w3⟩
  |brk=>exact q3
  |ret v=>exact q3
 |false=>
  rw [if_neg Bool.false_ne_true]
  exact wpAny_execs_nil ⟨σ1,H2,I2,q2⟩
end
structure It where
 go:Nat->Hp->Prop
 yld:Nat->Hp->V->Hp->Prop
 stop:Nat->Hp->Prop
def aCc (X:Cx) (pins:List (Addr×Obj)) (H:Hp) (b:Addr):Prop:=
 H b=none/\b≠X.env.locals/\b∉X.fs/\(b∈X.ex∨X.s₀.heap.objs.size<=b)/\(∀x c,X.env.cells.lookup x=some c->c≠b)/\∀p∈X.pn++pins,p.1≠b
theorem Inv.fpOk {X:Cx} {pins:List (Addr×Obj)} {σ:St} {H H':Hp} {s:Shared} {b:Addr} (I:Inv X pins σ H s) (hb:s.heap.objs.size<=b) (hn:H' b=none):aCc X pins H' b:=by
 refine⟨hn,Nat.ne_of_gt (Nat.lt_of_lt_of_le I.lt hb),I.nofs hb,.inr (Nat.le_trans I.sz hb),fun x c e z=>?_,fun p hp z=>?_⟩
 ·obtain⟨v,q⟩:=I.cell x c e
  exact absurd (Nat.lt_of_lt_of_le q.lt (by rw [z];exact hb)) (Nat.lt_irrefl _)
 ·exact absurd (Nat.lt_of_lt_of_le (Heap.lt_size (I.pin p hp).1) (by rw [z];exact hb)) (Nat.lt_irrefl _)
structure Turn (P:Program) (w:World) (K:PySem.W.Frag) (tg:Expr) (J:It) (fp:List Addr) (it:Addr) (tn:Nat->Heap->Prop):Prop where
 mem:it∈fp
 obj:∀i h,tn i h->∀b∈fp,∃o,h.get? b=some o/\∀v,o.data≠ .cell v
 keep:∀i h h',tn i h->(∀b∈fp,∀o,h.get? b=some o->h'.get? b=some o)->tn i h'
 item:∀(X:Cx),X.prog=P->X.w=w->X.K=K->X.calm=true->∀(i:Nat) (pins:List (Addr×Obj)) (s:Shared) (σ:St) (H:Hp) (E:Value->Shared->Prop),Inv X pins σ H s->(∀b∈fp,aCc X pins H b)->tn i s.heap->J.go i H->
  wpAny (model P w) X.A (pyNext (.ref it)) (fun r s1=>∃u,r=some u/\
   wpAny (model P w) X.A (letOwnedTupleGo tg (.ref it) u) (fun _ s2=>∃x H',Inv X pins σ H' s2/\RelV x u/\J.yld i H x H'/\tn (i+1) s2.heap/\∀b∈fp,H' b=none) E s1) E s
 done:∀(X:Cx),X.prog=P->X.w=w->X.K=K->X.calm=true->∀(i:Nat) (pins:List (Addr×Obj)) (s:Shared) (σ:St) (H:Hp) (E:Value->Shared->Prop),Inv X pins σ H s->(∀b∈fp,aCc X pins H b)->tn i s.heap->J.stop i H->
  wpAny (model P w) X.A (pyNext (.ref it)) (fun r s1=>r=none/\Inv X pins σ H s1) E s
 self:∀(A:Around) (i:Nat) (s:Shared) (Q:Value->Shared->Prop) (E:Value->Shared->Prop),tn i s.heap->Q (.ref it) s->wpAny (model P w) A (pyIter (.ref it)) Q E s
abbrev TI:=St->Hp->(It->Hp->Prop)->Prop
def PIE (X:Cx) (pins:List (Addr×Obj)) (σ:St) (tg:Expr) (R:It->Hp->Prop) (itv:Value) (s2:Shared):Prop:=
 ∃(it:Addr) (fp:List Addr) (tn:Nat->Heap->Prop) (J:It) (H':Hp),itv= .ref it/\Inv X pins σ H' s2/\Turn X.prog X.w X.K tg J fp it tn/\tn 0 s2.heap/\(∀b∈fp,aCc X pins H' b)/\R J H'
def PI (X:Cx) (tg iter:Expr) (wi:TI):Prop:=
 ∀(pins:List (Addr×Obj)) (s:Shared) (σ:St) (H:Hp) (R:It->Hp->Prop),Inv X pins σ H s->wi σ H R->
  wpAny (model X.prog X.w) X.A (eval iter X.env) (fun v s1=>wpAny (model X.prog X.w) X.A (pyIter v) (PIE X pins σ tg R) X.xe s1) X.xe s
theorem aHd {M : Model} {A : Around} {E : Value → Shared → Prop} {s : Shared} {tg : Expr} {it : Addr} {u : Value} {o : Obj} {n : String} {vs : Array Value} {Q : Unit → Shared → Prop} (ho : s.heap.get? it = some o) (hc : o.cls = .type n) (hd : o.data = .fields vs)
    (hn : ["enumerate", "zip", "dict_itemiterator", "dict_reverseitemiterator", "odict_iterator", "itertools.zip_longest", "itertools.pairwise"].contains n = false) (hQ : Q () s) : wpAny M A (letOwnedTupleGo tg (.ref it) u) Q E s := by
  unfold letOwnedTupleGo
  cases tg <;> first
    | exact wpAny_pure hQ
    | (cases u <;> first
        | exact wpAny_pure hQ
        | (refine wpAny_bind (wpAny_load ho ?_)
           rw [hc, hd]
           show wpAny M A (if (["enumerate", "zip", "dict_itemiterator", "dict_reverseitemiterator", "odict_iterator", "itertools.zip_longest", "itertools.pairwise"].contains n && vs[0]? == some (rawInt _)) = true then _ else _) Q E s
           rw [if_neg (by intro h; rw [hn, Bool.false_and] at h; cases h)]
           exact wpAny_pure hQ))
def Itl (K:PySem.W.Frag) (a:Addr):It:=
 ⟨fun i H=>∃xs x,SqL K H a xs/\xs[i]? =some x,fun i H x H'=>H'=H/\∀xs,SqL K H a xs->xs[i]? =some x,fun i H=>∃xs,SqL K H a xs/\xs.length<=i⟩
def Itt (K:PySem.W.Frag) (a:Addr):It:=
 ⟨fun i H=>∃xs x,SqT K H a xs/\xs[i]? =some x,fun i H x H'=>H'=H/\∀xs,SqT K H a xs->xs[i]? =some x,fun i H=>∃xs,SqT K H a xs/\xs.length<=i⟩
def Itr (lo:Int) (n:Nat):It:=⟨fun i _=>i<n,fun i H x H'=>H'=H/\x= .int (lo+i),fun i _=>n<=i⟩
theorem aJv {P:Program} {w:World} {K:PySem.W.Frag} {tg:Expr} (a it:Addr):Turn P w K tg (Itl K a) [it] it (fun i h=>h.IsListIter it a i) where
 mem:=by simp
 obj:=fun i h st b hb=>by
  have e:b=it:=by simpa using hb
  subst e
  obtain⟨o,e,c,d⟩:=st
  exact⟨o,e,fun v z=>by rw [d]at z;cases z⟩
 keep:=fun i h h' st k=>st.at fun o e=>k it (by simp) o e
 item:=by
  intro X hP hw hK hc i pins s σ H E I hf st hg
  subst hP hw hK
  obtain⟨xs,x,hq,hx⟩:=hg
  obtain⟨its,rv,p,hz⟩:=I.list hq
  obtain⟨u,hu,ru⟩:=rv.get hx
  obtain⟨f0,f1,f2,f3,f4,f5⟩:=hf it (by simp)
  refine wpAny_pyNext_list_item st p.isList (x:=u) (by simpa using hu) fun h' st' sb=>?_
  have I1:Inv X pins σ H {s with heap:=h'}:=I.turned (t':=s.toks) (fun b o hb e=>(sb.2 b hb).trans e) f0 f1 f3 f4 f5
  obtain⟨o,e,c,d⟩:=id st'
  exact⟨u,rfl,aHd (s:={s with heap:=h'}) e c d (by decide) ⟨x,H,I1,ru,⟨rfl,fun ys hy=>by rw [I.list_inj hy hq];exact hx⟩,st',fun b hb=>(hf b hb).1⟩⟩
 done:=by
  intro X hP hw hK hc i pins s σ H E I hf st hg
  subst hP hw hK
  obtain⟨xs,hq,hx⟩:=hg
  obtain⟨its,rv,p,hz⟩:=I.list hq
  obtain⟨f0,f1,f2,f3,f4,f5⟩:=hf it (by simp)
  have hl:=rv.length
  exact wpAny_pyNext_list_end (I.ok.hd hc) st p.isList (by simp;omega) fun h' eb=>⟨rfl,I.turned (t':=s.toks) (fun b o hb e=>eb b o hb e) f0 f1 f3 f4 f5⟩
 self:=fun _ _ _ _ _ st h=>wpAny_pyIter_listiter st h
theorem aGe {P:Program} {w:World} {K:PySem.W.Frag} {tg:Expr} (a it:Addr):Turn P w K tg (Itt K a) [it] it (fun i h=>h.IsTupleIter it a i) where
 mem:=by simp
 obj:=fun i h st b hb=>by
  have e:b=it:=by simpa using hb
  subst e
  obtain⟨o,e,c,d⟩:=st
  exact⟨o,e,fun v z=>by rw [d]at z;cases z⟩
 keep:=fun i h h' st k=>st.at fun o e=>k it (by simp) o e
 item:=by
  intro X hP hw hK hc i pins s σ H E I hf st hg
  subst hP hw hK
  obtain⟨xs,x,hq,hx⟩:=hg
  obtain⟨its,rv,p,hz⟩:=I.tuple hq
  obtain⟨u,hu,ru⟩:=rv.get hx
  obtain⟨f0,f1,f2,f3,f4,f5⟩:=hf it (by simp)
  refine wpAny_pyNext_tuple_item st (show s.heap.IsTuple a its.toArray from p) (x:=u) (by simpa using hu) fun h' st' sb=>?_
  have I1:Inv X pins σ H {s with heap:=h'}:=I.turned (t':=s.toks) (fun b o hb e=>(sb.2 b hb).trans e) f0 f1 f3 f4 f5
  obtain⟨o,e,c,d⟩:=id st'
  exact⟨u,rfl,aHd (s:={s with heap:=h'}) e c d (by decide) ⟨x,H,I1,ru,⟨rfl,fun ys hy=>by rw [I.tuple_inj hy hq];exact hx⟩,st',fun b hb=>(hf b hb).1⟩⟩
 done:=by
  intro X hP hw hK hc i pins s σ H E I hf st hg
  subst hP hw hK
  obtain⟨xs,hq,hx⟩:=hg
  obtain⟨its,rv,p,hz⟩:=I.tuple hq
  obtain⟨f0,f1,f2,f3,f4,f5⟩:=hf it (by simp)
  have hl:=rv.length
  exact wpAny_pyNext_tuple_end (I.ok.hd hc) st (show s.heap.IsTuple a its.toArray from p) (by simp;omega) fun h' eb=>⟨rfl,I.turned (t':=s.toks) (fun b o hb e=>eb b o hb e) f0 f1 f3 f4 f5⟩
 self:=fun _ _ _ _ _ st h=>wpAny_pyIter_tupleiter st h
theorem aFv {P:Program} {w:World} {K:PySem.W.Frag} {tg:Expr} (it:Addr) (lo:Int) (n:Nat):Turn P w K tg (Itr lo n) [it] it (fun i h=>IsRangeIter h it (lo+(i:Nat)*1) ((n:Int)-(i:Nat)) 1) where
 mem:=by simp
 obj:=fun i h st b hb=>by
  have e:b=it:=by simpa using hb
  subst e
  exact⟨_,st,fun v z=>by
   have z':Data.fields _=Data.cell v:=z
   cases z'⟩
 keep:=fun i h h' st k=>k it (by simp) _ st
 item:=by
  intro X hP hw hK hc i pins s σ H E I hf st hg
  subst hP hw hK
  obtain⟨f0,f1,f2,f3,f4,f5⟩:=hf it (by simp)
  have W:=Walks.range (prog:=X.prog) (w:=X.w) (I.ok.hd hc) it lo 1 n
  refine W.item i s _ _ hg st fun v h' tk hv st' kk=>?_
  obtain⟨t,rfl⟩:=hv
  have I1:Inv X pins σ H {s with heap:=h',toks:=tk}:=I.turned (fun b o hb e=>kk b o (by simpa using hb) e) f0 f1 f3 f4 f5
  refine⟨_,rfl,aHd (s:={s with heap:=h',toks:=tk}) (n:="range_iterator") st' rfl rfl (by decide) ⟨.int (lo+i),H,I1,⟨t,?_⟩,⟨rfl,rfl⟩,st',fun b hb=>(hf b hb).1⟩⟩
  rw [Int.mul_one]
 done:=by
  intro X hP hw hK hc i pins s σ H E I hf st hg
  subst hP hw hK
  obtain⟨f0,f1,f2,f3,f4,f5⟩:=hf it (by simp)
  exact wpAny_pyNext_range_end (I.ok.hd hc) st (by have:n<=i:=hg;omega) fun h' eb=>⟨rfl,I.turned (t':=s.toks) (fun b o hb e=>eb b o hb e) f0 f1 f3 f4 f5⟩
 self:=fun _ _ _ _ _ st h=>wpAny_pyIter_rangeiter st h
end L2
namespace L2
open PySem PySem.Spec PyProof.Rows
section
variable {X:Cx} {tg:Expr}
inductive aR0 (K:PySem.W.Frag) (x:V) (H1:Hp) (R:It->Hp->Prop):Prop
 |mk (a:_) (q0_:x= .ref a) (q1_:(∃xs,SqL K H1 a xs)) (q2_:R (Itl K a) H1):aR0 K x H1 R
def aWi (K:PySem.W.Frag) (x:V) (H1:Hp) (R:It->Hp->Prop):Prop:=aR0 K x H1 R
def aUg (K:PySem.W.Frag) (tl:TE):TI:=fun σ H R=>tl σ H fun x H1=>aWi K x H1 R
def aV8 (K:PySem.W.Frag) (tl:TE):TI:=fun σ H R=>tl σ H fun x H1=>∃a,x= .ref a/\(∃xs,SqT K H1 a xs)/\R (Itt K a) H1
theorem rW {l:Expr} {tl:TE} (hl:PE X l tl):PI X tg l (aUg X.K tl):=by
 intro pins s σ H R I h
 refine thn (hl pins s σ H _ I h) fun v s1 ⟨x,H1,I1,r1,q1⟩=>?_
 obtain⟨a,e,⟨xs,hq⟩,q⟩:=q1
 subst e
 cases r1
 obtain⟨its,rv,p,hz⟩:=I1.list hq
 refine wpAny_pyIter_list p.isList ?_
 refine⟨s1.heap.objs.size,[s1.heap.objs.size],_,_,H1,rfl,I1.kept (t':=s1.toks) fun b o e=>Heap.get?_push_of_some _ e,aJv a _,⟨_,Heap.get?_push_size _ rfl,rfl,rfl⟩,fun b hb=>?_,q⟩
 have e:b=s1.heap.objs.size:=by simpa using hb
 subst e
 exact I1.fpOk (Nat.le_refl _) (I1.hok.fresh (Nat.le_refl _))
theorem aCq {l:Expr} {tl:TE} (hl:PE X l tl):PI X tg l (aV8 X.K tl):=by
 intro pins s σ H R I h
 refine thn (hl pins s σ H _ I h) fun v s1 ⟨x,H1,I1,r1,q1⟩=>?_
 obtain⟨a,e,⟨xs,hq⟩,q⟩:=q1
 subst e
 cases r1
 obtain⟨its,rv,p,hz⟩:=I1.tuple hq
 refine wpAny_pyIter_tuple (show s1.heap.IsTuple a its.toArray from p) ?_
 refine⟨s1.heap.objs.size,[s1.heap.objs.size],_,_,H1,rfl,I1.kept (t':=s1.toks) fun b o e=>Heap.get?_push_of_some _ e,aGe a _,⟨_,Heap.get?_push_size _ rfl,rfl,rfl⟩,fun b hb=>?_,q⟩
 have e:b=s1.heap.objs.size:=by simpa using hb
 subst e
 exact I1.fpOk (Nat.le_refl _) (I1.hok.fresh (Nat.le_refl _))
theorem aOp {pins:List (Addr×Obj)} {σ:St} {H:Hp} {s:Shared} {R:It->Hp->Prop} {E:Value->Shared->Prop} {lo hi:Int} {t u v:Tok} {tk:Nat} (I:Inv X pins σ H s) (h1: -(2 ^ 62)<=lo) (h2:lo<2 ^ 62) (h3: -(2 ^ 62)<=hi) (h4:hi<2 ^ 62)
  (q:R (Itr lo (hi-lo).toNat) H):wpAny (model X.prog X.w) X.A (pyIter (.ref s.heap.objs.size)) (PIE X pins σ tg R) E {s with heap:=s.heap.push {cls:= .type "range",data:= .fields #[.int lo t,.int hi u,.int 1 v]},toks:=tk}:=by
 refine wpAny_pyIter_range (IsRange.new ..) (small_one h1 h2 h3 h4) ?_
 have I1:Inv X pins σ H {s with heap:=s.heap.push {cls:= .type "range",data:= .fields #[.int lo t,.int hi u,.int 1 v]},toks:=tk}:=I.kept fun b o e=>Heap.get?_push_of_some _ e
 refine⟨(s.heap.push {cls:= .type "range",data:= .fields #[.int lo t,.int hi u,.int 1 v]}).objs.size,[(s.heap.push {cls:= .type "range",data:= .fields #[.int lo t,.int hi u,.int 1 v]}).objs.size],_,_,H,rfl,
  I1.kept (t':=tk) fun b o e=>Heap.get?_push_of_some _ e,aFv _ lo (hi-lo).toNat,?_,fun b hb=>?_,q⟩
 ·have e1:lo+((0:Nat):Int)*1=lo:=by simp
  have e2:(((hi-lo).toNat:Nat):Int)-((0:Nat):Int)=Builtin.Range.rangeSize lo hi 1:=by rw [rangeSize_one];split<;>omega
  show IsRangeIter _ _ (lo+((0:Nat):Int)*1) ((((hi-lo).toNat:Nat):Int)-((0:Nat):Int)) 1
  rw [e1,e2]
  exact Heap.get?_push_size _ rfl
 ·have e:b=(s.heap.push {cls:= .type "range",data:= .fields #[.int lo t,.int hi u,.int 1 v]}).objs.size:=by simpa using hb
  subst e
  exact I1.fpOk (Nat.le_refl _) (I1.hok.fresh (Nat.le_refl _))
inductive aRl (vs:List V) (H1:Hp) (R:It->Hp->Prop):Prop
 |mk (j:Int) (q0_:vs=[.int j]) (q1_: -(2 ^ 62)<=j) (q2_:j<2 ^ 62) (q3_:R (Itr 0 j.toNat) H1):aRl vs H1 R
def aWh (vs:List V) (H1:Hp) (R:It->Hp->Prop):Prop:=aRl vs H1 R
def aUx (ta:TA):TI:=fun σ H R=>ta σ H fun vs H1=>aWh vs H1 R
theorem lV {a:Expr} {ta:TA} {p pos:Pos} (hg:Gl X "range") (hm:X.mg "range"=none) (ha:PA X [a] ta) (hs:starEach [a] X.env=[(false,eval a X.env)]:=by rfl):PI X tg (.Call (.Name "range" p) [a] [] pos) (aUx ta):=by
 intro pins s σ H R I h
 refine Call_ (xT I hg hm boot_range (PyProof.Rows.callWith_type1 (thn (ha pos pins s σ H _ I h) fun us s1 ⟨vs,H1,I1,r1,q1⟩=>?_) hs rfl))
 obtain⟨j,e,q1,q2,q⟩:=q1
 subst e
 cases r1 with
 |cons r rr=>
  cases rr
  obtain⟨t,rfl⟩:=r
  exact call_range_1 (aOp I1 (by omega) (by omega) q1 q2 (by simpa using q))
def aV3 (wi:TI) (g:TG) (tb:TS):TS:=fun D σ H=>wi σ H fun J H1=>∃W:Nat->Nat->St->Hp->Prop,(∃m,W 0 m σ H1)/\∀i m σ H,W i m σ H->
 (J.stop i H/\D.nx σ H)∨(J.go i H/\∃N:St->Hp->Prop,(∀σ' H',N σ' H'->∃m',m'<m/\W (i+1) m' σ' H')/\∀x H',J.yld i H x H'->g x σ H' fun σ2 H2=>tb {D with nx:=N,ct:=N,bk:=D.nx} σ2 H2)
def aB5 (fp:List Addr) (h:Heap):List (Addr×Obj):=fp.filterMap fun b=>(h.get? b).map fun o=>(b,o)
theorem gU {fp:List Addr} {h:Heap} {b:Addr} {o:Obj} (hb:b∈fp) (e:h.get? b=some o):(b,o)∈aB5 fp h:=List.mem_filterMap.mpr ⟨b,hb,by rw [e];rfl⟩
theorem aJi {fp:List Addr} {h:Heap} {p:Addr×Obj} (hp:p∈aB5 fp h):p.1∈fp/\h.get? p.1=some p.2:=by
 obtain⟨b,hb,e⟩:=List.mem_filterMap.mp hp
 cases q:h.get? b with
 |none=>rw [q]at e;cases e
 |some o=>
  rw [q]at e
  have e':(b,o)=p:=Option.some.inj e
  subst e'
  exact⟨hb,q⟩
theorem Inv.pinned {pins:List (Addr×Obj)} {σ:St} {H:Hp} {s:Shared} {fp:List Addr} (I:Inv X pins σ H s) (hf:∀b∈fp,aCc X pins H b) (ho:∀b∈fp,∃o,s.heap.get? b=some o/\∀v,o.data≠ .cell v):Inv X (pins++aB5 fp s.heap) σ H s:=
 I.pins_of fun p hp=>(List.mem_append.mp hp).elim (fun z=>I.pin p (List.mem_append_right _ z)) fun z=>by
  obtain⟨hb,e⟩:=aJi z
  obtain⟨f0,f1,f2,_⟩:=hf p.1 hb
  obtain⟨o,e',d⟩:=ho p.1 hb
  rw [e]at e';cases e'
  exact⟨e,f0,f1,f2,d⟩
theorem Inv.unpinned {pins pl:List (Addr×Obj)} {σ:St} {H:Hp} {s:Shared} (I:Inv X (pins++pl) σ H s):Inv X pins σ H s:=I.pins_of fun p hp=>I.pin p (List.mem_append_right _ (List.mem_append_left _ hp))
theorem yH {iter:Expr} {body:List Stmt} {wi:TI} {g:TG} {tb:TS} {pos:Pos} (hp:PassesOwn (model X.prog X.w) X.A X.env X.xe) (hc:X.calm=true) (hi:PI X tg iter wi) (hg:PG X tg g) (hb:PSs X body tb)
  (hs:∀x,foldedSetIterable iter X.env x=pure x:=by intro _;rfl):PS X (.For tg iter body [] pos) (aV3 wi g tb):=by
 intro pins s σ H D I h
 refine wpAny_For (thn (hi pins s σ H _ I h) fun v s1 h1=>thn h1 fun itv s2 h2=>?_) hs
 obtain⟨it,fp,tn,J,H2,e,I2,T,st2,f2,W,⟨m0,w0⟩,turn⟩:=h2
 subst e
 have stat:∀{H':Hp},(∀b∈fp,H' b=none)->∀b∈fp,aCc X pins H' b:=fun hn b hb=>⟨hn b hb,(f2 b hb).2⟩
 refine codeAny_forLoop_any (fun n s'=>∃i σ' H',Inv X pins σ' H' s'/\tn i s'.heap/\(∀b∈fp,H' b=none)/\W i n σ' H') ?_ m0 ⟨0,σ,H2,I2,st2,fun b hb=>(f2 b hb).1,w0⟩
 rintro n s3 ⟨i,σ3,H3,I3,st3,fr3,w3⟩
 rcases turn i n σ3 H3 w3 with ⟨stop,qn⟩|⟨go,N,hN,step⟩
 ·refine wpAny_passesOwn hp (thn (T.done X rfl rfl rfl hc i pins s3 σ3 H3 X.xe I3 (stat fr3) st3 stop) fun r s4 ⟨hr,I4⟩=>?_)
  subst hr
  exact wpAny_execs_nil ⟨σ3,H3,I4,qn⟩
 ·refine wpAny_passesOwn hp (thn (T.item X rfl rfl rfl hc i pins s3 σ3 H3 X.xe I3 (stat fr3) st3 go) fun r s4 ⟨u,hr,h4⟩=>?_)
  subst hr
  refine wpAny_passesOwn hp (thn h4 fun _ s5 ⟨x,H5,I5,r5,y5,st5,fr5⟩=>?_)
  have I5':=I5.pinned (stat fr5) (T.obj _ _ st5)
  refine wpAny_passesOwn hp (thn (hg _ s5 σ3 H5 x u _ I5' r5 (step x H5 y5)) fun _ s6 ⟨σ6,H6,I6,q6⟩=>?_)
  refine wpAny_passesOwn hp (thn (hb _ s6 σ6 H6 _ I6 q6) fun f s7 q7=>?_)
  have again:∀{σ7:St} {H7:Hp},Inv X (pins++aB5 fp s5.heap) σ7 H7 s7->N σ7 H7->∃m,m<n/\∃i σ' H',Inv X pins σ' H' s7/\tn i s7.heap/\(∀b∈fp,H' b=none)/\W i m σ' H':=fun{σ7 H7} I7 n7=>by
   obtain⟨m',hm,w7⟩:=hN σ7 H7 n7
   refine⟨m',hm,i+1,σ7,H7,I7.unpinned,T.keep _ _ _ st5 fun b hb o e=>(I7.pin (b,o) (List.mem_append_right _ (List.mem_append_right _ (gU hb e)))).1,fun b hb=>?_,w7⟩
   obtain⟨o,e,d⟩:=T.obj _ _ st5 b hb
   exact(I7.pin (b,o) (List.mem_append_right _ (List.mem_append_right _ (gU hb e)))).2.1
  cases f with
  |next=>obtain⟨σ7,H7,I7,n7⟩:=q7;exact again I7 n7
  |cont=>obtain⟨σ7,H7,I7,n7⟩:=q7;exact again I7 n7
  |brk=>obtain⟨σ7,H7,I7,q7⟩:=q7;exact⟨σ7,H7,I7.unpinned,q7⟩
  |ret v=>obtain⟨x7,σ7,H7,I7,r7,q7⟩:=q7;exact⟨x7,σ7,H7,I7.unpinned,r7,q7⟩
end
theorem aFd {K:PySem.W.Frag} {a:Addr} {xs:List V} {g:TG} {tb:TS} {D:Ends} {σ:St} {H:Hp} (Pv:Nat->St->Hp->Prop) (h0:Pv 0 σ H) (hl:∀i σ H,i<=xs.length->Pv i σ H->SqL K H a xs)
  (hs:∀i x σ H,xs[i]? =some x->Pv i σ H->g x σ H fun σ2 H2=>tb {D with nx:=Pv (i+1),ct:=Pv (i+1),bk:=D.nx} σ2 H2) (hd:∀σ H,Pv xs.length σ H->D.nx σ H):
  ∃W:Nat->Nat->St->Hp->Prop,(∃m,W 0 m σ H)/\∀i m σ H,W i m σ H->
   ((Itl K a).stop i H/\D.nx σ H)∨((Itl K a).go i H/\∃N:St->Hp->Prop,(∀σ' H',N σ' H'->∃m',m'<m/\W (i+1) m' σ' H')/\∀x H',(Itl K a).yld i H x H'->g x σ H' fun σ2 H2=>tb {D with nx:=N,ct:=N,bk:=D.nx} σ2 H2):=by
 refine⟨fun i m σ H=>m=xs.length-i/\i<=xs.length/\Pv i σ H,⟨xs.length,by simp,Nat.zero_le _,h0⟩,?_⟩
 rintro i m σ H ⟨rfl,hi,p⟩
 have q:=hl i σ H hi p
 by_cases hlt:i<xs.length
 ·refine .inr ⟨⟨xs,xs[i],q,by simp [hlt]⟩,Pv (i+1),fun σ' H' p'=>⟨xs.length-(i+1),by omega,rfl,hlt,p'⟩,fun x H' y=>?_⟩
  obtain⟨e,y⟩:=y
  subst e
  exact hs i x σ _ (y xs q) p
 ·have e:i=xs.length:=by omega
  subst e
  exact .inl ⟨⟨xs,q,Nat.le_refl _⟩,hd σ H p⟩
theorem aAd {lo:Int} {n:Nat} {g:TG} {tb:TS} {D:Ends} {σ:St} {H:Hp} (Pv:Nat->St->Hp->Prop) (h0:Pv 0 σ H)
  (hs:∀i σ H,i<n->Pv i σ H->g (.int (lo+i)) σ H fun σ2 H2=>tb {D with nx:=Pv (i+1),ct:=Pv (i+1),bk:=D.nx} σ2 H2) (hd:∀σ H,Pv n σ H->D.nx σ H):
  ∃W:Nat->Nat->St->Hp->Prop,(∃m,W 0 m σ H)/\∀i m σ H,W i m σ H->
   ((Itr lo n).stop i H/\D.nx σ H)∨((Itr lo n).go i H/\∃N:St->Hp->Prop,(∀σ' H',N σ' H'->∃m',m'<m/\W (i+1) m' σ' H')/\∀x H',(Itr lo n).yld i H x H'->g x σ H' fun σ2 H2=>tb {D with nx:=N,ct:=N,bk:=D.nx} σ2 H2):=by
 refine⟨fun i m σ H=>m=n-i/\i<=n/\Pv i σ H,⟨n,by simp,Nat.zero_le _,h0⟩,?_⟩
 rintro i m σ H ⟨rfl,hi,p⟩
 by_cases hlt:i<n
 ·refine .inr ⟨hlt,Pv (i+1),fun σ' H' p'=>⟨n-(i+1),by omega,rfl,hlt,p'⟩,fun x H' y=>?_⟩
  obtain⟨e,y⟩:=y
  subst e y
  exact hs i σ _ hlt p
 ·have e:i=n:=by omega
  subst e
  exact .inl ⟨Nat.le_refl _,hd σ H p⟩
end L2
namespace L2
open PySem PySem.Spec PyProof.Rows
abbrev R2:=V->V->Hp->VK->Prop
def OpR (X:Cx) (f:Value->Value->Sem Value) (r:R2):Prop:=
 ∀(pins:List (Addr×Obj)) (s:Shared) (σ:St) (H:Hp) (x y:V) (v u:Value) (Q:VK),Inv X pins σ H s->RelV x v->RelV y u->r x y H Q->
  wpAny (model X.prog X.w) X.A (f v u) (EP X pins σ Q) X.xe s
def UnR (X:Cx) (f:Value->Sem Value) (r:V->Hp->VK->Prop):Prop:=
 ∀(pins:List (Addr×Obj)) (s:Shared) (σ:St) (H:Hp) (x:V) (v:Value) (Q:VK),Inv X pins σ H s->RelV x v->r x H Q->
  wpAny (model X.prog X.w) X.A (f v) (EP X pins σ Q) X.xe s
def fX (X:Cx) (f:Value) (r:List V->Hp->VK->Prop):Prop:=
 ∀(pins:List (Addr×Obj)) (s:Shared) (σ:St) (H:Hp) (xs:List V) (us:List Value) (Q:VK),Inv X pins σ H s->Vals xs us->r xs H Q->
  wpAny (model X.prog X.w) X.A (call f us) (EP X pins σ Q) X.xe s
def tOp (r:R2) (ta tb:TE):TE:=fun σ H Q=>ta σ H fun x H1=>tb σ H1 fun y H2=>r x y H2 Q
def tUn (r:V->Hp->VK->Prop) (ta:TE):TE:=fun σ H Q=>ta σ H fun x H1=>r x H1 Q
inductive IrI (C:Int->Int->Prop) (g:Int->Int->V) (x:V) (y:V) (H:Hp) (Q:VK):Prop
 |mk (i j:_) (q0_:x= .int i) (q1_:y= .int j) (q2_:C i j) (q3_:Q (g i j) H):IrI C g x y H Q
def rI (C:Int->Int->Prop) (g:Int->Int->V):R2:=fun x y H Q=>IrI C g x y H Q
inductive aUq (g:Int->Int->V) (x:V) (y:V) (H:Hp) (Q:VK):Prop
 |mk (i j:_) (q0_:x= .int i) (q1_:y= .int j) (q2_:Q (g i j) H):aUq g x y H Q
def rI0 (g:Int->Int->V):R2:=fun x y H Q=>aUq g x y H Q
inductive IrU (g:Int->V) (x:V) (H:Hp) (Q:VK):Prop
 |mk (i:_) (q0_:x= .int i) (q1_:Q (g i) H):IrU g x H Q
def rU (g:Int->V):V->Hp->VK->Prop:=fun x H Q=>IrU g x H Q
section
variable {X:Cx} {a b c:Expr} {ta tb tc:TE} {pos:Pos}
theorem aTq (ha:PE X a ta) (hb:PE X b tb) {pins:List (Addr×Obj)} {s:Shared} {σ:St} {H:Hp} {R:V->V->Hp->Prop} (I:Inv X pins σ H s)
  (h:ta σ H fun x H1=>tb σ H1 fun y H2=>R x y H2) {Q:Value->Shared->Prop} {f:Value->Value->Sem Value}
  (hf:∀v u s2 x y H2,Inv X pins σ H2 s2->RelV x v->RelV y u->R x y H2->wpAny (model X.prog X.w) X.A (f v u) Q X.xe s2):
  wpAny (model X.prog X.w) X.A (eval a X.env) (fun v s₁=>wpAny (model X.prog X.w) X.A (eval b X.env) (fun u s₂=>wpAny (model X.prog X.w) X.A (f v u) Q X.xe s₂) X.xe s₁) X.xe s:=by
 refine thn (ha pins s σ H _ I h) fun v s1 ⟨x,H1,I1,r1,q1⟩=>?_
 refine thn (hb pins s1 σ H1 _ I1 q1) fun u s2 ⟨y,H2,I2,r2,q2⟩=>?_
 exact hf v u s2 x y H2 I2 r1 r2 q2
theorem aU {op:Operator} {r:R2} (ho:OpR X (binaryOp op) r) (ha:PE X a ta) (hb:PE X b tb):PE X (.BinOp a op b pos) (tOp r ta tb):=by
 intro pins s σ H Q I h
 exact wpAny_BinOp (aTq ha hb I h fun v u s2 x y H2 I2 rx ry q=>ho pins s2 σ H2 x y v u Q I2 rx ry q)
theorem aIu {op:UnaryOp} {r:V->Hp->VK->Prop} (ho:UnR X (unaryOp op) r) (ha:PE X a ta):PE X (.UnaryOp op a pos) (tUn r ta):=by
 intro pins s σ H Q I h
 exact UnaryOp_ (thn (ha pins s σ H _ I h) fun v s1 ⟨x,H1,I1,r1,q1⟩=>ho pins s1 σ H1 x v Q I1 r1 q1)
theorem opI {f:Value->Value->Sem Value} {C:Int->Int->Prop} {g:Int->Int->Int}
  (rule:∀(i j:Int) (t u:Tok) (s:Shared) (Q:Value->Shared->Prop) (E:Value->Shared->Prop),C i j->Q (.int (g i j) s.toks) {s with toks:=s.toks+1}->wpAny (model X.prog X.w) X.A (f (.int i t) (.int j u)) Q E s):
  OpR X f (rI C fun i j=> .int (g i j)):=by
 intro pins s σ H x y v u Q I rx ry h
 obtain⟨i,j,rfl,rfl,hc,q⟩:=h
 obtain⟨t,rfl⟩:=rx
 obtain⟨t',rfl⟩:=ry
 exact rule i j t t' s _ _ hc ⟨.int (g i j),H,I.tok _,⟨_,rfl⟩,q⟩
theorem aUw {f:Value->Value->Sem Value} {g:Int->Int->Int}
  (rule:∀(i j:Int) (t u:Tok) (s:Shared) (Q:Value->Shared->Prop) (E:Value->Shared->Prop),Q (.int (g i j) s.toks) {s with toks:=s.toks+1}->wpAny (model X.prog X.w) X.A (f (.int i t) (.int j u)) Q E s):
  OpR X f (rI0 fun i j=> .int (g i j)):=by
 intro pins s σ H x y v u Q I rx ry h
 obtain⟨i,j,rfl,rfl,q⟩:=h
 obtain⟨t,rfl⟩:=rx
 obtain⟨t',rfl⟩:=ry
 exact rule i j t t' s _ _ ⟨.int (g i j),H,I.tok _,⟨_,rfl⟩,q⟩
theorem aPv {f:Value->Value->Sem Value} {g:Int->Int->Bool}
  (rule:∀(i j:Int) (t u:Tok) (s:Shared) (Q:Value->Shared->Prop) (E:Value->Shared->Prop),Q (.bool (g i j)) s->wpAny (model X.prog X.w) X.A (f (.int i t) (.int j u)) Q E s):
  OpR X f (rI0 fun i j=> .bl (g i j)):=by
 intro pins s σ H x y v u Q I rx ry h
 obtain⟨i,j,rfl,rfl,q⟩:=h
 obtain⟨t,rfl⟩:=rx
 obtain⟨t',rfl⟩:=ry
 exact rule i j t t' s _ _ ⟨.bl (g i j),H,I,rfl,q⟩
def aV2 (i j:Int):Prop:=0<j/\j<1073741824
def aWc (i j:Int):Prop:=0<=j/\j<=1000000/\i.natAbs<2 ^ 64
def aT5 (i j:Int):Prop:=(-(2 ^ 64)<i/\i<2 ^ 64)∨(-(2 ^ 64)<j/\j<2 ^ 64)
theorem aT5.ok {i j:Int} (h:aT5 i j):IntMulOk i j:=by
 rcases h with ⟨h1,h2⟩|⟨h1,h2⟩
 ·exact .of_left (intBits_le_64 h1 h2)
 ·exact .of_right (intBits_le_64 h1 h2)
theorem bJ:OpR X (binaryOp .Add) (rI0 fun i j=> .int (i+j)):=aUw fun _ _ _ _ _ _ _ q=>add_int q
theorem qC:OpR X (binaryOp .Sub) (rI0 fun i j=> .int (i-j)):=aUw fun _ _ _ _ _ _ _ q=>sub_int q
theorem sX:OpR X (binaryOp .Mult) (rI aT5 fun i j=> .int (i*j)):=opI fun _ _ _ _ _ _ _ hc q=>mul_int q hc.ok
theorem aHs:OpR X (binaryOp .FloorDiv) (rI aV2 fun i j=> .int (i / j)):=opI fun i j _ _ _ _ _ hc q=>by
 have h1:(0:Int)<j:=hc.1
 have h2:j<1073741824:=hc.2
 exact floordiv_int (by omega) (by rw [Int.fdiv_eq_ediv_of_nonneg i (by omega)];exact q) (.inl (PyProof.noPylong_small (by omega)))
theorem sU:OpR X (binaryOp .Mod) (rI (fun _ j=>0<j) fun i j=> .int (i % j)):=opI fun i j _ _ _ _ _ hc q=>by
 have h1:(0:Int)<j:=hc
 exact mod_int' (by omega) (by rw [Int.fmod_eq_emod_of_nonneg i (by omega)];exact q)
theorem aFe:OpR X (binaryOp .Pow) (rI aWc fun i j=> .int (i ^ j.toNat)):=opI fun _ _ _ _ _ _ _ hc q=>pow_int_small hc.1 hc.2.1 hc.2.2 q
theorem unI {f:Value->Sem Value} {g:Int->Int}
  (rule:∀(i:Int) (t:Tok) (s:Shared) (Q:Value->Shared->Prop) (E:Value->Shared->Prop),Q (.int (g i) s.toks) {s with toks:=s.toks+1}->wpAny (model X.prog X.w) X.A (f (.int i t)) Q E s):
  UnR X f (rU fun i=> .int (g i)):=by
 intro pins s σ H x v Q I rx h
 obtain⟨i,rfl,q⟩:=h
 obtain⟨t,rfl⟩:=rx
 exact rule i t s _ _ ⟨.int (g i),H,I.tok _,⟨_,rfl⟩,q⟩
theorem aBi:UnR X (unaryOp .USub) (rU fun i=> .int (-i)):=unI fun _ _ _ _ _ q=>neg_int q
end
def aUz:V->V->Bool
 | .non,.non=>true| .non,.int _=>true| .int _,.non=>true| .non,.bl _=>true| .bl _,.non=>true| .non,.str _=>true| .str _,.non=>true
 | .int _,.int _=>true| .bl _,.bl _=>true| .str _,.str _=>true| .byt _,.byt _=>true
 | .int _,.str _=>true| .str _,.int _=>true| .bl _,.str _=>true| .str _,.bl _=>true
 |_,_=>false
def rEq:R2:=fun x y H Q=>aUz x y=true/\Q (.bl (decide (x=y))) H
def rNe:R2:=fun x y H Q=>aUz x y=true/\Q (.bl (!decide (x=y))) H
theorem aG7 {i j:Int}:decide (V.int i=V.int j)=(i==j):=by
 rw [Bool.eq_iff_iff]
 simp
theorem aL7 {i j:Bool}:decide (V.bl i=V.bl j)=(i==j):=by
 rw [Bool.eq_iff_iff]
 simp
theorem aH7 {i j:Str}:decide (V.str i=V.str j)=(i==j):=by
 rw [Bool.eq_iff_iff]
 simp
theorem aG6 {i j:Array UInt8}:decide (V.byt i=V.byt j)=(i.toList==j.toList):=by
 rw [Bool.eq_iff_iff]
 cases i
 cases j
 simp
section
variable {X:Cx} {a b c:Expr} {ta tb tc:TE} {pos:Pos}
theorem cB {pins:List (Addr×Obj)} {σ:St} {H:Hp} {s:Shared} {Q:VK} {k k':Bool} (I:Inv X pins σ H s) (q:Q (.bl k) H) (e:k=k'):EP X pins σ Q (.bool k') s:=by
 subst e
 exact⟨.bl k,H,I,rfl,q⟩
theorem cF:OpR X (compareOp .Eq) rEq:=by
 intro pins s σ H x y v u Q I rx ry h
 obtain⟨hs,q⟩:=h
 cases x with
 |non=>
  cases rx
  cases y with
  |non=>cases ry;exact PySem.EqNone.eq_none_none (cB I q (by simp))
  |bl j=>cases ry;exact PySem.EqNone.eq_none_bool (cB I q (by simp))
  |int j=>obtain⟨t',rfl⟩:=ry;exact PySem.EqNone.eq_none_int (cB I q (by simp))
  |str j=>obtain⟨t',rfl⟩:=ry;exact PySem.EqNone.eq_none_str (cB I q (by simp))
  |_=>exact absurd (show false=true from hs) Bool.false_ne_true
 |bl i=>
  cases rx
  cases y with
  |non=>cases ry;exact PySem.EqNone.eq_bool_none (cB I q (by simp))
  |bl j=>cases ry;exact eq_bool (cB I q aL7)
  |str j=>obtain⟨t',rfl⟩:=ry;exact PySem.EqMixed.eq_bool_str (cB I q (by simp))
  |_=>exact absurd (show false=true from hs) Bool.false_ne_true
 |int i=>
  obtain⟨t,rfl⟩:=rx
  cases y with
  |non=>cases ry;exact PySem.EqNone.eq_int_none (cB I q (by simp))
  |int j=>obtain⟨t',rfl⟩:=ry;exact eq_int (cB I q aG7)
  |str j=>obtain⟨t',rfl⟩:=ry;exact PySem.EqMixed.eq_int_str (cB I q (by simp))
  |_=>exact absurd (show false=true from hs) Bool.false_ne_true
 |str i=>
  obtain⟨t,rfl⟩:=rx
  cases y with
  |non=>cases ry;exact PySem.EqNone.eq_str_none (cB I q (by simp))
  |bl j=>cases ry;exact PySem.EqMixed.eq_str_bool (cB I q (by simp))
  |int j=>obtain⟨t',rfl⟩:=ry;exact PySem.EqMixed.eq_str_int (cB I q (by simp))
  |str j=>obtain⟨t',rfl⟩:=ry;exact eq_str (cB I q aH7)
  |_=>exact absurd (show false=true from hs) Bool.false_ne_true
 |byt i=>
  obtain⟨t,rfl⟩:=rx
  cases y with
  |byt j=>obtain⟨t',rfl⟩:=ry;exact PySem.W.eq_bytes (cB I q aG6)
  |_=>exact absurd (show false=true from hs) Bool.false_ne_true
 |_=>cases y<;>exact absurd (show false=true from hs) Bool.false_ne_true
theorem uJ:OpR X (compareOp .NotEq) rNe:=by
 intro pins s σ H x y v u Q I rx ry h
 obtain⟨hs,q⟩:=h
 cases x with
 |non=>
  cases rx
  cases y with
  |non=>cases ry;exact PySem.EqNone.ne_none_none (cB I q (by simp))
  |bl j=>cases ry;exact PySem.EqNone.ne_none_bool (cB I q (by simp))
  |int j=>obtain⟨t',rfl⟩:=ry;exact PySem.EqNone.ne_none_int (cB I q (by simp))
  |str j=>obtain⟨t',rfl⟩:=ry;exact PySem.EqNone.ne_none_str (cB I q (by simp))
  |_=>exact absurd (show false=true from hs) Bool.false_ne_true
 |bl i=>
  cases rx
  cases y with
  |non=>cases ry;exact PySem.EqNone.ne_bool_none (cB I q (by simp))
  |bl j=>cases ry;exact ne_bool (cB I q (congrArg not aL7))
  |str j=>obtain⟨t',rfl⟩:=ry;exact PySem.EqMixed.ne_bool_str (cB I q (by simp))
  |_=>exact absurd (show false=true from hs) Bool.false_ne_true
 |int i=>
  obtain⟨t,rfl⟩:=rx
  cases y with
  |non=>cases ry;exact PySem.EqNone.ne_int_none (cB I q (by simp))
  |int j=>obtain⟨t',rfl⟩:=ry;exact ne_int (cB I q (congrArg not aG7))
  |str j=>obtain⟨t',rfl⟩:=ry;exact PySem.EqMixed.ne_int_str (cB I q (by simp))
  |_=>exact absurd (show false=true from hs) Bool.false_ne_true
 |str i=>
  obtain⟨t,rfl⟩:=rx
  cases y with
  |non=>cases ry;exact PySem.EqNone.ne_str_none (cB I q (by simp))
  |bl j=>cases ry;exact PySem.EqMixed.ne_str_bool (cB I q (by simp))
  |int j=>obtain⟨t',rfl⟩:=ry;exact PySem.EqMixed.ne_str_int (cB I q (by simp))
  |str j=>obtain⟨t',rfl⟩:=ry;exact ne_str (cB I q (congrArg not aH7))
  |_=>exact absurd (show false=true from hs) Bool.false_ne_true
 |byt i=>
  obtain⟨t,rfl⟩:=rx
  cases y with
  |byt j=>obtain⟨t',rfl⟩:=ry;exact PySem.W.ne_bytes (cB I q (congrArg not aG6))
  |_=>exact absurd (show false=true from hs) Bool.false_ne_true
 |_=>cases y<;>exact absurd (show false=true from hs) Bool.false_ne_true
theorem yR:OpR X (compareOp .Lt) (rI0 fun i j=> .bl (decide (i<j))):=aPv fun _ _ _ _ _ _ _ q=>lt_int q
theorem aHk:OpR X (compareOp .LtE) (rI0 fun i j=> .bl (decide (i<=j))):=aPv fun _ _ _ _ _ _ _ q=>le_int q
theorem aA0:OpR X (compareOp .Gt) (rI0 fun i j=> .bl (decide (j<i))):=aPv fun _ _ _ _ _ _ _ q=>gt_int q
theorem aUa:OpR X (compareOp .GtE) (rI0 fun i j=> .bl (decide (j<=i))):=aPv fun _ _ _ _ _ _ _ q=>ge_int q
theorem aAl:OpR X (compareOp .In) (fun x y H Q=>∃i j,x= .str i/\y= .str j/\Q (.bl (!(Builtin.Str.occurrences j i 0 j.length 1).isEmpty)) H):=by
 intro pins s σ H x y v u Q I rx ry h
 obtain⟨i,j,rfl,rfl,q⟩:=h
 obtain⟨t,rfl⟩:=rx
 obtain⟨t',rfl⟩:=ry
 exact in_str (cB I q rfl)
theorem aG2:OpR X (compareOp .IsNot) (fun x y H Q=>y= .non/\Q (.bl (!decide (x= .non))) H):=by
 intro pins s σ H x y v u Q I rx ry h
 obtain⟨rfl,q⟩:=h
 cases ry
 refine isnot_none_gen (cB I q ?_)
 cases x<;>first
  |(cases rx;rfl)
  |(obtain⟨t,rfl⟩:=rx;rfl)
theorem aV (b:Expr) {op:CmpOp} (h:op≠ .In:=by decide) (h2:op≠ .NotIn:=by decide):behindInMarks op b=false:=by
 have e1:(op==CmpOp.In)=false:=by cases op<;>first|rfl|exact absurd rfl h
 have e2:(op==CmpOp.NotIn)=false:=by cases op<;>first|rfl|exact absurd rfl h2
 cases b<;>simp [behindInMarks,e1,e2]
theorem jC {op:CmpOp} {r:R2} (ho:OpR X (compareOp op) r) (ha:PE X a ta) (hb:PE X b tb) (hm:behindInMarks op b=false):PE X (.Compare a [op] [b] pos) (tOp r ta tb):=by
 intro pins s σ H Q I h
 exact wpAny_Compare1 (aTq ha hb I h fun v u s2 x y H2 I2 rx ry q=>ho pins s2 σ H2 x y v u Q I2 rx ry q) hm
def aR4 (t:TE):TT:=fun σ H Q=>t σ H fun x H1=>rBl x H1 Q
theorem aN {op:CmpOp} {r:R2} (ho:OpR X (compareOp op) r) (ha:PE X a ta) (hb:PE X b tb) (hm:behindInMarks op b=false):PT X (.Compare a [op] [b] pos) (aR4 (tOp r ta tb)):=by
 intro pins s σ H Q I h
 refine wpAny_isTrue_Compare1 (thn (ha pins s σ H _ I h) fun v s1 ⟨x,H1,I1,r1,q1⟩=>thn (hb pins s1 σ H1 _ I1 q1) fun u s2 ⟨y,H2,I2,r2,q2⟩=>
  thn (ho pins s2 σ H2 x y v u _ I2 r1 r2 q2) fun c s3 ⟨z,H3,I3,r3,k,e,q3⟩=>?_) hm
 subst e
 cases r3
 exact wpAny_truthy_bool ⟨H3,I3,q3⟩
def aLp (r r':R2) (ta tb tc:TE):TE:=fun σ H Q=>ta σ H fun x H1=>tb σ H1 fun y H2=>r x y H2 fun z H3=>∃k,z= .bl k/\
 (if k=true then tc σ H3 fun w' H4=>r' y w' H4 Q else Q (.bl false) H3)
theorem aNa {op op':CmpOp} {r r':R2} (ho:OpR X (compareOp op) r) (ho':OpR X (compareOp op') r') (ha:PE X a ta) (hb:PE X b tb) (hc:PE X c tc)
  (hm:lastMarks [op,op'] [b,c]=false:=by with_unfolding_all rfl):PE X (.Compare a [op,op'] [b,c] pos) (aLp r r' ta tb tc):=by
 intro pins s σ H Q I h
 refine Compare_chain (thn (ha pins s σ H _ I h) fun v s1 ⟨x,H1,I1,r1,q1⟩=>chain_link (thn (hb pins s1 σ H1 _ I1 q1) fun u s2 ⟨y,H2,I2,r2,q2⟩=>
  thn (ho pins s2 σ H2 x y v u _ I2 r1 r2 q2) fun d s3 ⟨z,H3,I3,r3,k,e,q3⟩=>?_)) hm
 subst e
 cases r3
 refine wpAny_truthy_bool ?_
 cases k with
 |false=>exact ite_ff ⟨.bl false,H3,I3,rfl,q3⟩
 |true=>exact ite_tt (chain_last (thn (hc pins s3 σ H3 _ I3 q3) fun w' s4 ⟨z',H4,I4,r4,q4⟩=>ho' pins s4 σ H4 y z' u w' Q I4 r2 r4 q4))
theorem aOi {op op':CmpOp} {r r':R2} (ho:OpR X (compareOp op) r) (ho':OpR X (compareOp op') r') (ha:PE X a ta) (hb:PE X b tb) (hc:PE X c tc)
  (hm:lastMarks [op,op'] [b,c]=false:=by with_unfolding_all rfl):PT X (.Compare a [op,op'] [b,c] pos) (aR4 (aLp r r' ta tb tc)):=by
 intro pins s σ H Q I h
 refine isTrue_chain (thn (ha pins s σ H _ I h) fun v s1 ⟨x,H1,I1,r1,q1⟩=>test_link (thn (hb pins s1 σ H1 _ I1 q1) fun u s2 ⟨y,H2,I2,r2,q2⟩=>
  thn (ho pins s2 σ H2 x y v u _ I2 r1 r2 q2) fun d s3 ⟨z,H3,I3,r3,k,e,q3⟩=>?_)) hm
 subst e
 cases r3
 refine wpAny_truthy_bool ?_
 cases k with
 |false=>
  obtain⟨k',e',q'⟩:=q3
  cases e'
  exact ite_ff ⟨H3,I3,q'⟩
 |true=>
  refine ite_tt (test_last (thn (hc pins s3 σ H3 _ I3 q3) fun w' s4 ⟨z',H4,I4,r4,q4⟩=>thn (ho' pins s4 σ H4 y z' u w' _ I4 r2 r4 q4) fun d' s5 ⟨z2,H5,I5,r5,k2,e2,q5⟩=>?_))
  subst e2
  cases r5
  exact wpAny_truthy_bool ⟨H5,I5,q5⟩
theorem sS:(sizeLine:Nat)<2 ^ 63:=by rw [sizeLine_eq];decide
theorem aFy:OpR X (binaryOp .Add) (fun x y H Q=>∃i j,x= .str i/\y= .str j/\i.length+j.length<=sizeLine/\Q (.str (i++j)) H):=by
 intro pins s σ H x y v u Q I rx ry h
 obtain⟨i,j,rfl,rfl,hz,q⟩:=h
 obtain⟨t,rfl⟩:=rx
 obtain⟨t',rfl⟩:=ry
 exact add_str (fun t' tk=>⟨.str (i++j),H,I.tok _,⟨_,rfl⟩,q⟩) hz
theorem vals1 {x:V} {us:List Value} (r:Vals [x] us):∃u,us=[u]/\RelV x u:=by
 cases r with
 |cons r1 r2=>cases r2;exact⟨_,rfl,r1⟩
theorem vals2 {x y:V} {us:List Value} (r:Vals [x,y] us):∃u w',us=[u,w']/\RelV x u/\RelV y w':=by
 cases r with
 |cons r1 r2=>
  cases r2 with
  |cons r3 r4=>cases r4;exact⟨_,_,rfl,r1,r3⟩
theorem tY:fX X (.type "int") (fun xs H Q=>(∃i,xs=[.int i]/\Q (.int i) H)∨∃k,xs=[.bl k]/\Q (.int (if k then 1 else 0)) H):=by
 intro pins s σ H xs us Q I r h
 rcases h with ⟨i,rfl,q⟩|⟨k,rfl,q⟩
 ·obtain⟨u,rfl,t,rfl⟩:=vals1 r
  exact call_int_int ⟨.int i,H,I,⟨_,rfl⟩,q⟩
 ·obtain⟨u,rfl,r1⟩:=vals1 r
  cases r1
  exact call_int_bool ⟨.int (if k then 1 else 0),H,I.tok _,⟨_,rfl⟩,q⟩
theorem aCd:fX X (.type "str") (fun xs H Q=>∃i,xs=[.int i]/\i.natAbs.log2<1920/\Q (.str (toString i)) H):=by
 intro pins s σ H xs us Q I r h
 obtain⟨i,rfl,hz,q⟩:=h
 obtain⟨u,rfl,t,rfl⟩:=vals1 r
 exact PySem.P.str_of_int hz ⟨.str _,H,I.tok _,⟨_,rfl⟩,q⟩
end
end L2
namespace L2
open PySem PySem.Spec PyProof.Rows
structure aF9 (h:Heap) (x dx C:Addr) (mA:Str->Option Value):Prop where
 obj:h.get? x=some (PySem.W.instObj C dx)
 ns:h.Ns1 dx mA
 ne:dx≠x
theorem aKq {h:Heap} {dx:Addr} {mA:Str->Option Value} (n:h.Ns1 dx mA):∃od,h.get? dx=some od/\∀name,PySem.W.lookIn name od=some (mA name):=by
 obtain⟨o,es,ep,ho,hd,hk,_,hm⟩:=n
 refine⟨o,ho,fun name=>?_⟩
 have e:=hm name
 unfold nsFind findBy at e
 rw [<-Array.find?_toList]at e
 unfold PySem.W.lookIn
 rw [hd]
 dsimp only
 split
 ·rename_i y q
  rw [q]at e
  exact congrArg some e
 ·rename_i q
  rw [q]at e
  have a:es.toList.any (·.refKey)=false:=by
   rw [List.any_eq_false]
   intro y hy
   obtain⟨z,t,hkey⟩:=hk y (Array.mem_toList_iff.mp hy)
   simp [DictEntry.refKey,hkey]
  have a':¬es.toList.any (·.refKey)=true:=by rw [a];exact Bool.false_ne_true
  rw [if_neg a']
  exact congrArg some e
theorem aF9.look {h:Heap} {x dx C:Addr} {mA:Str->Option Value} (I:aF9 h x dx C mA):∃od,PySem.W.InstAt h x (PySem.W.instObj C dx) C (some od)/\∀name,PySem.W.lookIn name od=some (mA name):=
 let⟨od,ho,hl⟩:=aKq I.ns
 ⟨od,⟨I.obj,rfl,rfl,ho⟩,hl⟩
section
variable {prog:Program} {w:World} {A:Around} {E:Value->Shared->Prop} {s:Shared} {K:PySem.W.Frag} {x dx C f:Addr} {mA:Str->Option Value} {name:Str} {v:Value}
theorem oX {expr:Bool} {Q:Value->Shared->Prop} (X:K.In s.heap) (I:aF9 s.heap x dx C mA) (hg:PySem.W.plainGet K C name=true) (hh:PySem.W.hasDictIn K C=true)
  (ha:PySem.W.findIn K (.ref C) name=some none) (hv:mA name=some v) (hv':PySem.W.handedIn v=true) (h:Q v {s with toks:=s.toks+1}):
  wpAny (model prog w) A (getAttr (.ref x) name expr) Q E s:=by
 obtain⟨od,J,hl⟩:=I.look
 exact PySem.W.get_value X J (PySem.W.plainGet_of hg).1 (PySem.W.findObj_own hh ha rfl (by rw [hl,hv])) hv' h
theorem aOh {pl:Sem Bool} {Q:Value×List Value->Shared->Prop} (X:K.In s.heap) (I:aF9 s.heap x dx C mA) (hg:PySem.W.plainGet K C name=true)
  (hf:PySem.W.findIn K (.ref C) name=some (some (.ref f))) (ht:PySem.W.isFn K (.ref f)=true) (hv:mA name=none) (h:Q (.ref f,[.ref x]) s):
  wpAny (model prog w) A (getMethod (.ref x) name pl) Q E s:=by
 obtain⟨od,J,hl⟩:=I.look
 exact PySem.W.method_fn X J (PySem.W.plainGet_of hg).1 (PySem.W.plainGet_of hg).2 hf (beq_iff_eq.mp ht) (by show(PySem.W.lookIn name od).map (·.isSome)=some false;rw [hl,hv];rfl) h
theorem aP2 {ns:List Str} {Q:Unit->Shared->Prop} (X:K.In s.heap) (I:aF9 s.heap x dx C mA)
  (hs:PySem.W.findIn K (.ref C) "__setattr__"=some (some (.builtin "object.__setattr__"))) (hp:PySem.W.plainOver K C=true) (ht:PySem.W.takerIn K C name=some none) (hh:PySem.W.hasDictIn K C=true)
  (hw:PySem.Within mA ns) (hsz:ns.length<=sizeLine)
  (h:∀h',aF9 h' x dx C (fun y=>if y=name then some v else mA y)->Heap.SameBut dx s.heap h'->Q () {s with heap:=h',toks:=s.toks+2}):
  wpAny (model prog w) A (setAttr (.ref x) name v) Q E s:=by
 obtain⟨od,J,hl⟩:=I.look
 refine PySem.W.set_plain X J hs (PySem.W.osa_open (s:={s with toks:=s.toks+1}) (r:=none) X J hp ht fun b=>?_)
 obtain⟨cd,hc,hd'⟩:=PySem.W.any_some hh
 have hx:s.heap.get? x=some ⟨.ref C,some dx,.plain, #[]⟩:=I.obj
 refine wpAny_bind (wpAny_pure (wpAny_bind (wpAny_bind (wpAny_loadPart hx (wpAny_bind (PySem.W.Looks.here (s:={s with toks:=s.toks+1}) (PySem.W.looks_clsIn X hc) ?_))))))
 rw [hd']
 refine wpAny_pure (a:=some dx) (wpAny_bind (wpAny_pure (wpAny_bind ?_)))
 refine wpAny_nsSet1 (s:={s with toks:=s.toks+1}) I.ns fun h' hn2 hs2=>?_
 obtain⟨oD,esD,epD,hoD,hdD,hcD⟩:=hn2.count (PySem.Within.cons name v hw)
 refine wpAny_bind (wpAny_lookBehind hoD (by rw [hdD];exact pastItsLine_dict (Nat.le_trans hcD (by rw [List.length_cons];omega))) ?_)
 exact wpAny_pure (h _ ⟨(hs2.2 _ (Ne.symm I.ne)).trans I.obj,hn2,I.ne⟩ hs2)
theorem aLu {R:Result->Shared->Prop} {vs:List Value} {kw:List (Str×Value)} (X:K.In s.heap) (hm:PySem.W.makesIn K C=true)
  (hi:PySem.W.findIn K (.ref C) "__init__"=some (some (.ref f))) (hf:PySem.W.typeIn K (.ref f)=some (.type "function"))
  (h:codeAny (model prog w) (A.under (.builtin "type.__call__" ⟨.ref C::vs,kw⟩)) (.call (.ref f) ⟨.ref (s.heap.objs.size+1)::vs,kw⟩) (PySem.W.InitBack (s.heap.objs.size+1) R)
   {s with heap:=(s.heap.push PySem.W.emptyDict).push (PySem.W.instObj C s.heap.objs.size)}):
  codeAny (model prog w) A (.call (.ref C) ⟨vs,kw⟩) R s:=by
 obtain⟨hh,g,d,t,os⟩:=s
 exact PySem.W.make_core (PySem.W.makes_of X hm) (PySem.W.looks_findIn X hi) (fun self=>PySem.W.bind_fn X self hf) (.inl rfl) h
end
def pC (f:Str) (v:V):List (Str×V)->List (Str×V)
 | []=>[(f,v)]
 |(g,x)::r=>if g=f then(g,v)::r else(g,x)::pC f v r
theorem uA (f g:Str) (v:V):∀fs:List (Str×V),(pC f v fs).lookup g=if g=f then some v else fs.lookup g
 | []=>by
  show List.lookup g [(f,v)]=_
  by_cases h:g=f
  ·have hb:(g==f)=true:=beq_iff_eq.mpr h
   simp only [List.lookup,hb,if_pos h]
  ·have hb:(g==f)=false:=beq_eq_false_iff_ne.mpr h
   simp only [List.lookup,hb,if_neg h]
 |(k,x)::r=>by
  have ih:=uA f g v r
  rw [show pC f v ((k,x)::r)=(if k=f then(k,v)::r else(k,x)::pC f v r)from rfl]
  by_cases hk:k=f
  ·rw [if_pos hk]
   by_cases h:g=k
   ·have hb:(g==k)=true:=beq_iff_eq.mpr h
    simp only [List.lookup,hb,if_pos (h.trans hk)]
   ·have hb:(g==k)=false:=beq_eq_false_iff_ne.mpr h
    simp only [List.lookup,hb,if_neg (fun e:g=f=>h (e.trans hk.symm))]
  ·rw [if_neg hk]
   by_cases h:g=k
   ·have hb:(g==k)=true:=beq_iff_eq.mpr h
    simp only [List.lookup,hb,if_neg (fun e:g=f=>hk (h.symm.trans e))]
   ·have hb:(g==k)=false:=beq_eq_false_iff_ne.mpr h
    simp only [List.lookup,hb]
    exact ih
theorem tH (f:Str) (v:V):∀fs:List (Str×V),f∈(pC f v fs).map (·.1)/\∀g,g∈fs.map (·.1)->g∈(pC f v fs).map (·.1)
 | []=>⟨by simp [pC],fun g h=>by simp at h⟩
 |(k,x)::r=>by
  obtain⟨i1,i2⟩:=tH f v r
  rw [show pC f v ((k,x)::r)=(if k=f then(k,v)::r else(k,x)::pC f v r)from rfl]
  by_cases hk:k=f
  ·rw [if_pos hk]
   subst hk
   exact⟨by simp,fun g h=>by simpa using h⟩
  ·rw [if_neg hk]
   refine⟨?_,fun g h=>?_⟩
   ·rw [List.map_cons]
    exact List.mem_cons_of_mem _ i1
   ·rw [List.map_cons]at h⊢
    rcases List.mem_cons.mp h with e|e
    ·exact List.mem_cons.mpr (.inl e)
    ·exact List.mem_cons_of_mem _ (i2 g e)
theorem uH (f:Str) (v:V):∀fs:List (Str×V),(pC f v fs).length<=fs.length+1
 | []=>by simp [pC]
 |(k,x)::r=>by
  have ih:=uH f v r
  rw [show pC f v ((k,x)::r)=(if k=f then(k,v)::r else(k,x)::pC f v r)from rfl]
  by_cases hk:k=f
  ·rw [if_pos hk,List.length_cons,List.length_cons];omega
  ·rw [if_neg hk,List.length_cons,List.length_cons];omega
theorem oK.some_of {v:V} {o:Option Value} (r:oK (some v) o):∃u,o=some u/\RelV v u:=by
 cases o with
 |none=>exact(show False from r).elim
 |some u=>exact⟨u,rfl,r⟩
theorem oK.none_of {o:Option Value} (r:oK none o):o=none:=by
 cases o with
 |none=>rfl
 |some u=>exact(show False from r).elim
theorem zZ {v:V} {u:Value} (r:RelV v u):PySem.W.handedIn u=true:=by
 cases v with
 |non=>cases (show u=Value.none from r);rfl
 |bl b=>cases (show u=Value.bool b from r);rfl
 |int i=>obtain⟨t,e⟩:=(show∃t,u=Value.int i t from r);cases e;rfl
 |str x=>obtain⟨t,e⟩:=(show∃t,u=Value.str x t from r);cases e;rfl
 |byt b=>obtain⟨t,e⟩:=(show∃t,u=Value.bytes b t from r);cases e;rfl
 |flt b=>obtain⟨t,e⟩:=(show∃t,u=Value.float b t from r);cases e;rfl
 |ref a=>cases (show u=Value.ref a from r);rfl
 |ty n=>cases (show u=Value.type n from r);rfl
section
variable {P:Program} {w:World} {H H':Hp} {h h':Heap} {a C dx:Addr} {fs fs':List (Str×V)}
theorem uV (hok:HOk P w H h) (e:H a=some (.ins C dx fs)):∃mA,aF9 h a dx C mA/\(∀f,oK (fs.lookup f) (mA f))/\PySem.Within mA (fs.map (·.1))/\fs.length<=1000/\H dx=some (.own a):=by
 obtain⟨d,z,ne,ob,mA,n,r,q⟩:=(show cY P w H h a (.ins C dx fs)from hok a _ e)
 exact⟨mA,⟨ob,n,ne⟩,r,q,z,d⟩
end
structure Cls (K:PySem.W.Frag) (C:Addr):Prop where
 pg:PySem.W.plainGet K C Str.empty=true
 hd:PySem.W.hasDictIn K C=true
 po:PySem.W.plainOver K C=true
 sa:PySem.W.findIn K (.ref C) "__setattr__"=some (some (.builtin "object.__setattr__"))
theorem Cls.get {K:PySem.W.Frag} {C:Addr} (c:Cls K C) (f:Str):PySem.W.plainGet K C f=true:=c.pg
def jV (K:PySem.W.Frag) (C:Addr) (f:Str):Prop:=PySem.W.findIn K (.ref C) f=some none
theorem jV.taker {K:PySem.W.Frag} {C:Addr} {f:Str} (n:jV K C f):PySem.W.takerIn K C f=some none:=by
 unfold PySem.W.takerIn
 rw [show PySem.W.findIn K (.ref C) f=some none from n]
 rfl
structure Meth (K:PySem.W.Frag) (C:Addr) (m:Str) (f:Addr):Prop where
 at_:PySem.W.findIn K (.ref C) m=some (some (.ref f))
 fn:PySem.W.isFn K (.ref f)=true
 kp:PySem.W.keepIn K (.ref f)=true
section
variable {X:Cx} {pins:List (Addr×Obj)} {σ:St} {H:Hp} {s:Shared} {a C dx:Addr} {fs:List (Str×V)} {f:Str} {v:V} {A:Around} {E:Value->Shared->Prop}
theorem aFf {b:Bool} {Q:Value->Shared->Prop} (I:Inv X pins σ H s) (e:H a=some (.ins C dx fs)) (c:Cls X.K C) (n:jV X.K C f) (l:fs.lookup f=some v)
  (h:∀u s',Inv X pins σ H s'->RelV v u->Q u s'):wpAny (model X.prog X.w) A (getAttr (.ref a) f b) Q E s:=by
 obtain⟨mA,O,r,_,_,_⟩:=uV I.hok e
 obtain⟨u,hu,ru⟩:=oK.some_of (v:=v) (o:=mA f) (by rw [<-l];exact r f)
 exact oX I.kIn O (c.get f) c.hd n hu (zZ ru) (h u _ (I.tok _) ru)
theorem yW {m:Str} {g:Addr} {pl:Sem Bool} {Q:Value×List Value->Shared->Prop} (I:Inv X pins σ H s) (e:H a=some (.ins C dx fs)) (c:Cls X.K C) (k:Meth X.K C m g) (l:fs.lookup m=none)
  (h:Q (.ref g,[.ref a]) s):wpAny (model X.prog X.w) A (getMethod (.ref a) m pl) Q E s:=by
 obtain⟨mA,O,r,_,_,_⟩:=uV I.hok e
 have hn:mA m=none:=oK.none_of (by rw [<-l];exact r m)
 exact aOh I.kIn O (c.get m) k.at_ k.fn hn h
theorem aFu {y:V} {u:Value} {Q:Unit->Shared->Prop} (I:Inv X pins σ H s) (e:H a=some (.ins C dx fs)) (c:Cls X.K C) (n:jV X.K C f) (hl:fs.length<1000) (ry:RelV y u)
  (h:∀s',Inv X pins σ (upd H a (.ins C dx (pC f y fs))) s'->Q () s'):wpAny (model X.prog X.w) A (setAttr (.ref a) f u) Q E s:=by
 obtain⟨mA,O,r,wi,_,ho⟩:=uV I.hok e
 have hz:(fs.map (·.1)).length<=sizeLine:=by rw [List.length_map,sizeLine_eq];omega
 refine aP2 I.kIn O c.sa c.po n.taker c.hd wi hz fun h' O' sb=>h _ ?_
 have hd:∃o,h'.get? dx=some o:=let⟨o,_,_,e',_⟩:=O'.ns;⟨o,e'⟩
 refine I.write (x:=a) (e:=dx) (by rw [e];exact True.intro) (.inr ho) (fun b q hb z=>(sb.2 b hb).trans z) hd ?_
 refine⟨by rw [aX O.ne];exact ho,?_,O.ne,O'.obj,_,O'.ns,fun g=>?_,fun g hg=>?_⟩
 ·have:=uH f y fs;omega
 ·show oK ((pC f y fs).lookup g) (if g=f then some u else mA g)
  rw [uA]
  by_cases q:g=f
  ·rw [if_pos q,if_pos q];exact ry
  ·rw [if_neg q,if_neg q];exact r g
 ·by_cases q:g=f
  ·rw [q];exact(tH f y fs).1
  ·refine(tH f y fs).2 g (wi g fun z=>hg ?_)
   show(if g=f then some u else mA g)=none
   rw [if_neg q];exact z
theorem Inv.made (I:Inv X pins σ H s):Inv X pins σ (upd (upd H s.heap.objs.size (.own (s.heap.objs.size+1))) (s.heap.objs.size+1) (.ins C s.heap.objs.size []))
  {s with heap:=(s.heap.push PySem.W.emptyDict).push (PySem.W.instObj C s.heap.objs.size)}:=by
 have e1:(s.heap.push PySem.W.emptyDict).get? s.heap.objs.size=some PySem.W.emptyDict:=Heap.get?_push_size s.heap rfl
 have e2:((s.heap.push PySem.W.emptyDict).push (PySem.W.instObj C s.heap.objs.size)).get? (s.heap.objs.size+1)=some (PySem.W.instObj C s.heap.objs.size):=by
  have:=Heap.get?_push_size (s.heap.push PySem.W.emptyDict) (o:=PySem.W.instObj C s.heap.objs.size) rfl
  rwa [Heap.size_push]at this
 have e3:(s.heap.push PySem.W.emptyDict).Ns s.heap.objs.size (fun _=>none):=⟨PySem.W.emptyDict, #[],_,e1,rfl,(fun e he=>absurd he (by simp)),fun _=>rfl⟩
 have I1:=I.laid (a:=s.heap.objs.size) (o:= .own (s.heap.objs.size+1)) (h':=s.heap.push PySem.W.emptyDict) (t':=s.toks) (fun b u q=>Heap.get?_push_of_some _ q) (Nat.le_refl _) ⟨_,e1⟩
 refine I1.laid (a:=s.heap.objs.size+1) (o:= .ins C s.heap.objs.size []) (t':=s.toks) (fun b u q=>Heap.get?_push_of_some _ q) (Nat.le_of_eq (Heap.size_push _ _)) ?_
 have ne:s.heap.objs.size≠s.heap.objs.size+1:=Nat.ne_of_lt (Nat.lt_succ_self _)
 refine⟨by rw [aX ne,aF],Nat.zero_le _,ne,e2,fun _=>none,(Heap.Ns1.of_empty e3).at fun o q=>Heap.get?_push_of_some _ q,fun _=>True.intro,fun y hy=>absurd rfl hy⟩
theorem aIh {prog:Program} {w:World} {env:Env} {e:Expr} {f:Str} {pos:Pos} {s:Shared} {Q:Value->Shared->Prop} (hb:attributeBase e f env (eval e env)=eval e env)
  (h:wpAny (model prog w) A (eval e env) (fun o s₁=>wpAny (model prog w) A (getAttr o f true) Q E s₁) E s):wpAny (model prog w) A (eval (.Attribute e f pos) env) Q E s:=
 Attribute_any_ h (by rw [arm_eval_Attribute,hb])
end
def aV4 (K:PySem.W.Frag) (ta:TE) (f:Str):TE:=fun σ H Q=>ta σ H fun x H1=>∃a C dx fs v,x= .ref a/\H1 a=some (.ins C dx fs)/\Cls K C/\jV K C f/\fs.lookup f=some v/\Q v H1
def aVt (K:PySem.W.Frag) (ta tv:TE) (f:Str):TS:=fun D σ H=>tv σ H fun y H1=>ta σ H1 fun x H2=>∃a C dx fs,x= .ref a/\H2 a=some (.ins C dx fs)/\Cls K C/\jV K C f/\fs.length<1000/\
 D.nx σ (upd H2 a (.ins C dx (pC f y fs)))
section
variable {X:Cx} {o e value:Expr} {f:Str} {pos pos' tpos:Pos} {ta tv:TE}
theorem bM (he:PE X e ta) (hb:attributeBase e f X.env (eval e X.env)=eval e X.env):PE X (.Attribute e f pos) (aV4 X.K ta f):=by
 intro pins s σ H Q I h
 refine aIh hb (thn (he pins s σ H _ I h) fun u s1 ⟨x,H1,I1,rx,a,C,dx,fs,v,ex,ea,c,n,l,q⟩=>?_)
 subst ex
 obtain rfl:u=Value.ref a:=rx
 exact aFf I1 ea c n l fun u' s2 I2 ru=>⟨v,H1,I2,ru,q⟩
theorem gO (ha:PE X o ta) (hv:PE X value tv) (hs:swapsWith value (some (.Attribute o f pos')) pos.line X.env=pure false):PS X (.Assign [.Attribute o f pos'] value pos) (aVt X.K ta tv f):=by
 intro pins s σ H D I h
 refine plainObj_wpAny_Assign_Attribute (thn (hv pins s σ H _ I h) fun u s1 ⟨y,H1,I1,ry,q⟩=>thn (ha pins s1 σ H1 _ I1 q) fun ov s2 ⟨x,H2,I2,rx,a,C,dx,fs,ex,ea,c,n,l,q2⟩=>?_) hs
 subst ex
 obtain rfl:ov=Value.ref a:=rx
 exact aFu I2 ea c n l ry fun s3 I3=>⟨σ,_,I3,q2⟩
end
section
variable {X:Cx} {pins:List (Addr×Obj)} {σ:St} {H:Hp} {s:Shared} {A:Around} {E:Value->Shared->Prop} {Q:Value->Shared->Prop} {c:Value} {b:Bool}
inductive pW (K:PySem.W.Frag) (H:Hp):V->Value->Prop where
 |non:pW K H .non (.type "NoneType")
 |bl (x:Bool):pW K H (.bl x) (.type "bool")
 |int (i:Int):pW K H (.int i) (.type "int")
 |str (x:Str):pW K H (.str x) (.type "str")
 |flt (x:UInt64):pW K H (.flt x) (.type "float")
 |lst {a:Addr} {xs:List V} (e:H a=some (.lst xs)):pW K H (.ref a) (.type "list")
 |frz {a:Addr} {o:Obj} {xs:List V} (e:H a=some (.frz o (.lst xs))):pW K H (.ref a) (.type "list")
 |tup {a:Addr} {xs:List V} (e:H a=some (.tup xs)):pW K H (.ref a) (.type "tuple")
 |dK {a:Addr} {kvs:List (Key×V)} (e:H a=some (.dK kvs)):pW K H (.ref a) (.type "dict")
 |dT {a:Addr} {kvs:List (List Key×V)} (e:H a=some (.dT kvs)):pW K H (.ref a) (.type "dict")
 |ins {a C dx:Addr} {fs:List (Str×V)} (e:H a=some (.ins C dx fs)) (cl:Cls K C) (ha:PySem.W.findIn K (.ref C) "__class__"=some (some (.builtin "object.__class__")))
   (hn:PySem.W.specialIn K (.builtin "object.__class__") "__get__"=some (some (.builtin "getset_descriptor.__get__"))) (htk:PySem.W.takesIn K (.builtin "object.__class__")=some true)
   (hm:PySem.W.mroIn K C (.type "object")=some true):pW K H (.ref a) (.ref C)
theorem aKg {x:V} {u t:Value} (I:Inv X pins σ H s) (rx:RelV x u) (ty:pW X.K H x t) (e:PySem.W.kitOne X.K t c=some b) (h:∀tk,Q (.bool b) {s with toks:=tk}):
  wpAny (model X.prog X.w) A (call (.builtin "isinstance") [u,c]) Q E s:=by
 cases ty with
 |non=>cases (show u=Value.none from rx);exact PySem.W.kia_one PySem.W.kitx_none I.kIn True.intro e (fun z=>nomatch z) h
 |bl y=>cases (show u=Value.bool y from rx);exact PySem.W.kia_one PySem.W.kitx_bool I.kIn True.intro e (fun z=>nomatch z) h
 |int i=>obtain⟨t,q⟩:=(show∃t,u=Value.int i t from rx);cases q;exact PySem.W.kia_one PySem.W.kitx_int I.kIn True.intro e (fun z=>nomatch z) h
 |str y=>obtain⟨t,q⟩:=(show∃t,u=Value.str y t from rx);cases q;exact PySem.W.kia_one PySem.W.kitx_str I.kIn True.intro e (fun z=>nomatch z) h
 |flt y=>obtain⟨t,q⟩:=(show∃t,u=Value.float y t from rx);cases q;exact PySem.W.kia_one PySem.W.kitx_float I.kIn True.intro e (fun z=>nomatch z) h
 |@lst a xs ea=>
  cases (show u=Value.ref a from rx)
  obtain⟨_,_,n,_,h1⟩:=(show cY X.prog X.w H s.heap a (.lst xs)from I.hok a _ ea)
  exact PySem.W.kia_one PySem.W.kitx_list I.kIn ⟨_,h1,rfl⟩ e (fun z=>nomatch z) h
 |@frz a ob xs ea=>
  cases (show u=Value.ref a from rx)
  obtain⟨_,_,_,n,_,h1⟩:=(show cY X.prog X.w H s.heap a (.frz ob (.lst xs))from I.hok a _ ea)
  exact PySem.W.kia_one PySem.W.kitx_list I.kIn ⟨_,h1,rfl⟩ e (fun z=>nomatch z) h
 |@tup a xs ea=>
  cases (show u=Value.ref a from rx)
  obtain⟨_,_,_,p⟩:=(show cY X.prog X.w H s.heap a (.tup xs)from I.hok a _ ea)
  obtain⟨o,h1,h2,_⟩:=p
  exact PySem.W.kia_one PySem.W.kitx_tuple I.kIn ⟨o,h1,h2⟩ e (fun z=>nomatch z) h
 |@dK a kvs ea=>
  cases (show u=Value.ref a from rx)
  obtain⟨_,_,vs,_,p⟩:=(show cY X.prog X.w H s.heap a (.dK kvs)from I.hok a _ ea)
  obtain⟨o,es,ep,h1,h2,_⟩:=p
  exact PySem.W.kia_one PySem.W.kitx_dict I.kIn ⟨o,h1,h2.1⟩ e (fun z=>nomatch z) h
 |@dT a kvs ea=>
  cases (show u=Value.ref a from rx)
  obtain⟨_,_,xs,_,o,es,ep,h1,h2,_⟩:=(show cY X.prog X.w H s.heap a (.dT kvs)from I.hok a _ ea)
  exact PySem.W.kia_one PySem.W.kitx_dict I.kIn ⟨o,h1,h2.1⟩ e (fun z=>nomatch z) h
 |@ins a C dx fs ea cl ha hn htk hm=>
  cases (show u=Value.ref a from rx)
  obtain⟨mA,O,_⟩:=uV I.hok ea
  obtain⟨od,J,_⟩:=O.look
  exact PySem.W.kia_one (PySem.W.kitx_own (cl.get _) cl.hd ha hn htk hm) I.kIn J e (fun z=>nomatch z) h
end
end L2
namespace L2
open PySem PySem.Spec PyProof.Rows
structure eU (k:Nat) (A:Around):Prop where
 hd:A.handled=none
 dp:A.depth+3*k+5<recursionLimit
 un:A.units+16*k+200<cLine
theorem eU.mono {j k:Nat} {A:Around} (r:eU k A) (h:j<=k):eU j A:=⟨r.hd,by have:=r.dp;omega,by have:=r.un;omega⟩
theorem eU.deeper {k:Nat} {A:Around} (r:eU (k+1) A) (env:Env):eU k (A.deeper env):=
 ⟨r.hd,by have:=r.dp;show A.depth+1+3*k+5<_;omega,by have:=r.un;show A.units+3+16*k+200<_;omega⟩
theorem aGo {A:Around} {C:Addr} {us:List Value} {kw:List (Str×Value)}:(A.under (.builtin "type.__call__" ⟨.ref C::us,kw⟩)).depth=A.depth+1:=by
 first|rfl|simp [Around.under,Code.weight,Code.isCreation,Code.isGuard,Code.isCaller,Code.frames,Code.isFrame,guardIds]
theorem aFz {A:Around} {C:Addr} {us:List Value} {kw:List (Str×Value)}:(A.under (.builtin "type.__call__" ⟨.ref C::us,kw⟩)).units=A.units+1:=by
 first|rfl|simp [Around.under,Code.cUnits,Code.frames,Code.isFrame]
theorem eU.make {k:Nat} {A:Around} (r:eU (k+1) A) (C:Addr) (us:List Value) (kw:List (Str×Value)):eU k (A.under (.builtin "type.__call__" ⟨.ref C::us,kw⟩)):=
 ⟨r.hd,by have:=r.dp;rw [aGo];omega,by have:=r.un;rw [aFz];omega⟩
theorem eU.depth {k:Nat} {A:Around} (r:eU k A):A.depth<recursionLimit:=by have:=r.dp;omega
def aMf:TA:=fun _ H Q=>Q [] H
def aMl (ta:TE) (tr:TA):TA:=fun σ H Q=>ta σ H fun x H1=>tr σ H1 fun xs H2=>Q (x::xs) H2
section
variable {X:Cx} {e:Expr} {es:List Expr} {te:TE} {t:TA} {pos:Pos}
theorem aC:PA X [] aMf:=fun _ _ _ _ H Q I h=>Calls.spliced_nil ⟨[],H,I,.nil,h⟩
theorem aA (ha:PE X e te) (hr:PA X es t) (hs:starEach (e::es) X.env=(false,eval e X.env)::starEach es X.env:=by rfl):PA X (e::es) (aMl te t):=by
 intro pos pins s σ H Q I h
 rw [hs]
 show wpAny _ _ (spliced ((false,eval e X.env)::backTo pos (starEach es X.env))) _ _ s
 refine Calls.spliced_cons (thn (ha pins s σ H _ I h) fun u s1 ⟨x,H1,I1,r1,q1⟩=>?_)
 exact thn (hr pos pins s1 σ H1 _ I1 q1) fun us s2 ⟨xs,H2,I2,r2,q2⟩=>⟨x::xs,H2,I2,.cons r1 r2,q2⟩
def aWm (t:TA):TE:=fun σ H Q=>t σ H fun xs H1=>xs.length<=sizeLine/\∀p,H1 p=none->Q (.ref p) (upd H1 p (.tup xs))
def aWn (t:TA):TE:=fun σ H Q=>t σ H fun xs H1=>xs.length<=sizeLine/\∀p,H1 p=none->Q (.ref p) (upd H1 p (.lst xs))
theorem cL {x1} (h:PA X es t):PE X (.Tuple es x1 pos) (aWm t):=by
 intro pins s σ H Q I hq
 refine wpAny_Tuple_spliced (thn (h pos pins s σ H _ I hq) fun us s1 ⟨xs,H1,I1,r,z,q⟩=>⟨by rw [<-r.length];exact z,?_⟩)
 have hf:H1 s1.heap.objs.size=none:=I1.hok.fresh (Nat.le_refl _)
 refine⟨.ref s1.heap.objs.size,upd H1 s1.heap.objs.size (.tup xs),I1.laid (t':=s1.toks) (fun b u e=>Heap.get?_push_of_some _ e) (Nat.le_refl _) ?_,rfl,q _ hf⟩
 exact⟨z,us,r,⟨_,Heap.get?_push_size _ rfl,rfl,_,rfl⟩⟩
theorem cO (h:PA X es t):PE X (.List es pos) (aWn t):=by
 intro pins s σ H Q I hq
 refine wpAny_List_spliced (thn (h pos pins s σ H _ I hq) fun us s1 ⟨xs,H1,I1,r,z,q⟩=>⟨by rw [<-r.length];exact z,?_⟩)
 have hf:H1 s1.heap.objs.size=none:=I1.hok.fresh (Nat.le_refl _)
 refine⟨.ref s1.heap.objs.size,upd H1 s1.heap.objs.size (.lst xs),I1.laid (t':=s1.toks) (fun b u e=>Heap.get?_push_of_some _ e) (Nat.le_refl _) ?_,rfl,q _ hf⟩
 exact⟨z,us,0,r,Heap.get?_push_size _ rfl⟩
end
abbrev Sp:=List V->Hp->VK->XK->Prop
abbrev CXT:=List Env->Hp->Shared->XK->Value->Shared->Prop
structure aGr (P:Program) (w:World) (K:PySem.W.Frag) (mg:Str->Option Value) (base:Heap) (A:Around) (outer:List Env) (s:Shared) (H:Hp):Prop where
 frames:A.frames=some outer
 mod:Mod K mg base
 bs:∀b o,base.get? b=some o->s.heap.get? b=some o/\H b=none
 bsz:base.objs.size<=s.heap.objs.size
 funs:s.heap.FunFrames base outer
 frf:∀b∈frs outer,H b=none
 hok:HOk P w H s.heap
 bare:AllBare s.gens
def CE (outer:List Env) (P:Program) (w:World) (H:Hp) (s:Shared) (Q:VK) (u:Value) (s':Shared):Prop:=
 ∃v H',s'.os=s.os/\AllBare s'.gens/\Un (frs outer) [] H H' s.heap s'.heap/\HOk P w H' s'.heap/\RelV v u/\Q v H'
def CR (CX:CXT) (outer:List Env) (P:Program) (w:World) (H:Hp) (s:Shared) (Q:VK) (E:XK) (r:Result) (s':Shared):Prop:=
 match r with
 | .ok (.ret u)=>CE outer P w H s Q u s'
 | .ok _=>False
 | .error e=>CX outer H s E e s'
structure bC (P:Program) (w:World) (K:PySem.W.Frag) (mg:Str->Option Value) (base:Heap) (CX:CXT) (k:Nat) (f:Addr) (fd:FuncData) (ps:List Str) (sp:Sp):Prop where
 len:∀vs H Q E,sp vs H Q E->vs.length=ps.length
 run:∀(A:Around) (outer:List Env) (s:Shared) (H:Hp) (args:Args) (us:List Value) (vs:List V) (Q:VK) (E:XK),eU k A->aGr P w K mg base A outer s H->BindsTo s fd args (ps.zip us)->Vals vs us->sp vs H Q E->
  codeAny (model P w) A (.call (.ref f) args) (CR CX outer P w H s Q E) s
theorem bC.mono {P:Program} {w:World} {K:PySem.W.Frag} {mg:Str->Option Value} {base:Heap} {CX:CXT} {j k:Nat} {f:Addr} {fd:FuncData} {ps:List Str} {sp:Sp} (F:bC P w K mg base CX j f fd ps sp) (h:j<=k):
  bC P w K mg base CX k f fd ps sp:=⟨F.len,fun A outer s H args us vs Q E hr=>F.run A outer s H args us vs Q E (hr.mono h)⟩
theorem aGr.make {P:Program} {w:World} {K:PySem.W.Frag} {mg:Str->Option Value} {base:Heap} {A:Around} {outer:List Env} {s:Shared} {H:Hp} (e:aGr P w K mg base A outer s H) (C:Addr) (us:List Value) (kw:List (Str×Value)):
  aGr P w K mg base (A.under (.builtin "type.__call__" ⟨.ref C::us,kw⟩)) outer s H:=⟨by first|exact e.frames|(simpa [Around.under,Code.envs,Code.isFrame,pushEnvs]using e.frames),e.mod,e.bs,e.bsz,e.funs,e.frf,e.hok,e.bare⟩
section
variable {X:Cx} {pins:List (Addr×Obj)} {σ:St} {H:Hp} {s s':Shared}
theorem Inv.env0 (I:Inv X pins σ H s):aGr X.prog X.w X.K X.mg X.base X.A X.stack s H:=
 ⟨I.ok.frames,I.ok.mod,I.bs,Nat.le_trans I.ok.bsz I.sz,I.stack,I.stkFree,I.hok,I.bare⟩
theorem Inv.after {Q:VK} {u:Value} (I:Inv X pins σ H s) (h:CE X.stack X.prog X.w H s Q u s'):EP X pins σ Q u s':=by
 obtain⟨v,H',os,bare,un,hok,r,q⟩:=h
 obtain⟨hh,g,d,t,os'⟩:=s'
 obtain rfl:os'=s.os:=os
 exact⟨v,H',I.call (h':=hh) (g':=g) (d':=d) (t':=t) (ch:=[]) un hok bare (fun b z=>absurd z (by simp)),r,q⟩
end
def aRv (sp:Sp) (dvs:List V) (E:XK) (t:TA):TE:=fun σ H Q=>t σ H fun vs H1=>sp (vs++dvs) H1 Q E
def aRw (C:Addr) (sp:Sp) (dvs:List V) (E:XK) (t:TA):TE:=fun σ H Q=>t σ H fun vs H1=>∀x dx,H1 x=none->H1 dx=none->dx≠x->
 sp (.ref x::(vs++dvs)) (upd (upd H1 dx (.own x)) x (.ins C dx [])) (fun v H2=>v= .non/\Q (.ref x) H2) E
def Binds (K:PySem.W.Frag) (fd:FuncData) (ps:List Str) (ds:List Value):Prop:=
 ∀(s:Shared) (us:List Value),K.In s.heap->(us++ds).length=ps.length->BindsTo s fd ⟨us,[]⟩ (ps.zip (us++ds))
theorem Binds.all {K:PySem.W.Frag} {fd:FuncData} {ps:List Str} (h:∀us:List Value,us.length=ps.length->bindArgs fd ⟨us,[]⟩=pure (ps.zip us)):Binds K fd ps []:=fun s us _ hl=>by
 rw [List.append_nil]at hl⊢
 exact .of_eq (h us hl)
def kO (CX:CXT) (X:Cx) (E:XK):Prop:=∀(pins:List (Addr×Obj)) (σ:St) (H:Hp) (s:Shared) (e:Value) (s':Shared),Inv X pins σ H s->CX X.stack H s E e s'->X.xe e s'
section
variable {X:Cx} {CX:CXT} {k:Nat} {f C:Addr} {fd:FuncData} {ps:List Str} {sp:Sp} {dvs:List V} {ds:List Value} {E:XK} {x m:Str} {p pos apos:Pos} {e o:Expr} {es:List Expr} {ta:TE} {t:TA}
theorem aGs {pins:List (Addr×Obj)} {σ:St} {H:Hp} {s:Shared} {Q:VK} {us:List Value} {vs:List V} (F:bC X.prog X.w X.K X.mg X.base CX k f fd ps sp) (hr:eU k X.A) (hb:Binds X.K fd ps ds) (hd:Vals dvs ds) (hx:kO CX X E)
  (I:Inv X pins σ H s) (r:Vals vs us) (h:sp (vs++dvs) H Q E):wpAny (model X.prog X.w) X.A (call (.ref f) us) (EP X pins σ Q) X.xe s:=by
 have r2:Vals (vs++dvs) (us++ds):=r.append hd
 have hl:(us++ds).length=ps.length:=by rw [<-r2.length];exact F.len _ _ _ _ h
 refine wpAny_call (codeAny_mono (F.run X.A X.stack s H ⟨us,[]⟩ (us++ds) (vs++dvs) Q E hr I.env0 (hb s us I.kIn hl) r2 h) fun r s' hq=>?_)
 cases r with
 |error e=>exact hx pins σ H s e s' I hq
 |ok fl=>
  cases fl with
  |ret u=>exact I.after hq
  |next=>exact False.elim hq
  |brk=>exact False.elim hq
  |cont=>exact False.elim hq
theorem aPi (F:bC X.prog X.w X.K X.mg X.base CX k f fd ps sp) (hr:eU k X.A) (hg:Gl X x) (hm:X.mg x=some (.ref f)) (hk:PySem.W.keepIn X.K (.ref f)=true) (hb:Binds X.K fd ps ds) (hd:Vals dvs ds) (hx:kO CX X E)
  (ha:PA X (e::es) t) (hdb:(x==("__debug__":Str))=false:=by decide) (he:starEach (e::es) X.env=(false,eval e X.env)::starEach es X.env:=by rfl) (hpl:(backTo pos (starEach es X.env)).any (·.1)=false:=by rfl):
  PE X (.Call (.Name x p) (e::es) [] pos) (aRv sp dvs E t):=by
 intro pins s σ H Q I h
 refine wpAny_Call_Name_kw (mJ I hg hm ?_ hdb)
 refine PySem.W.callWith_K (h₀:=X.base) I.ok.mod.kin hk (thn (ha pos pins s σ H _ I h) fun us s1 ⟨vs,H1,I1,r,q⟩=>⟨I1.kIn,?_⟩) he hpl
 exact aGs F hr hb hd hx I1 r q
structure Mk (K:PySem.W.Frag) (C f:Addr):Prop where
 makes:PySem.W.makesIn K C=true
 init:PySem.W.findIn K (.ref C) "__init__"=some (some (.ref f))
 fn:PySem.W.isFn K (.ref f)=true
 kp:PySem.W.keepIn K (.ref C)=true
theorem aNw {pins:List (Addr×Obj)} {σ:St} {H:Hp} {s:Shared} {Q:VK} {us:List Value} {vs:List V} (M:Mk X.K C f) (F:bC X.prog X.w X.K X.mg X.base CX k f fd ps sp) (hr:eU (k+1) X.A) (hb:Binds X.K fd ps ds) (hd:Vals dvs ds)
  (hx:kO CX X E) (I:Inv X pins σ H s) (r:Vals vs us)
  (h:∀x dx,H x=none->H dx=none->dx≠x->sp (.ref x::(vs++dvs)) (upd (upd H dx (.own x)) x (.ins C dx [])) (fun v H2=>v= .non/\Q (.ref x) H2) E):
  wpAny (model X.prog X.w) X.A (call (.ref C) us) (EP X pins σ Q) X.xe s:=by
 have hq:=h (s.heap.objs.size+1) s.heap.objs.size (I.hok.fresh (Nat.le_succ _)) (I.hok.fresh (Nat.le_refl _)) (Nat.ne_of_lt (Nat.lt_succ_self _))
 have I2:=Inv.made (C:=C) I
 have r2:Vals (V.ref (s.heap.objs.size+1)::(vs++dvs)) (Value.ref (s.heap.objs.size+1)::(us++ds)):= .cons rfl (r.append hd)
 have hl:(Value.ref (s.heap.objs.size+1)::us++ds).length=ps.length:=by
  have e:=r2.length
  rw [F.len _ _ _ _ hq]at e
  exact e.symm
 refine wpAny_call (aLu (f:=f) I.kIn M.makes M.init (beq_iff_eq.mp M.fn) (codeAny_mono (F.run _ X.stack _ _ ⟨Value.ref (s.heap.objs.size+1)::us,[]⟩ (Value.ref (s.heap.objs.size+1)::(us++ds)) _ _ E (hr.make C us [])
  (I2.env0.make C us []) (hb _ (Value.ref (s.heap.objs.size+1)::us) I2.kIn hl) r2 hq) fun r s' hq'=>?_))
 cases r with
 |error e=>exact hx pins σ _ _ e s' I2 hq'
 |ok fl=>
  cases fl with
  |ret u=>
   obtain⟨v,H',I3,rv,ev,q3⟩:=I2.after hq'
   subst ev
   exact⟨rv,⟨V.ref (s.heap.objs.size+1),H',I3,rfl,q3⟩⟩
  |next=>exact False.elim hq'
  |brk=>exact False.elim hq'
  |cont=>exact False.elim hq'
theorem aQ4 (M:Mk X.K C f) (F:bC X.prog X.w X.K X.mg X.base CX k f fd ps sp) (hr:eU (k+1) X.A) (hg:Gl X x) (hm:X.mg x=some (.ref C)) (hb:Binds X.K fd ps ds) (hd:Vals dvs ds) (hx:kO CX X E)
  (ha:PA X (e::es) t) (hdb:(x==("__debug__":Str))=false:=by decide) (he:starEach (e::es) X.env=(false,eval e X.env)::starEach es X.env:=by rfl) (hpl:(backTo pos (starEach es X.env)).any (·.1)=false:=by rfl):
  PE X (.Call (.Name x p) (e::es) [] pos) (aRw C sp dvs E t):=by
 intro pins s σ H Q I h
 refine wpAny_Call_Name_kw (mJ I hg hm ?_ hdb)
 refine PySem.W.callWith_K (h₀:=X.base) I.ok.mod.kin M.kp (thn (ha pos pins s σ H _ I h) fun us s1 ⟨vs,H1,I1,r,q⟩=>⟨I1.kIn,?_⟩) he hpl
 exact aNw M F hr hb hd hx I1 r q
end
def PK (X:Cx) (kws:List Keyword) (t:TA):Prop:=
 ∀(pos:Pos) (pins:List (Addr×Obj)) (s:Shared) (σ:St) (H:Hp) (Q:List V->Hp->Prop),Inv X pins σ H s->t σ H Q->wpAny (model X.prog X.w) X.A (evalAll ((backToKw pos (keywordEach kws X.env)).map (·.2))) (AP X pins σ Q) X.xe s
section
variable {X:Cx} {CX:CXT} {k:Nat} {f C:Addr} {fd:FuncData} {ps ks:List Str} {sp:Sp} {E:XK} {x m:Str} {p pos apos kpos:Pos} {e o:Expr} {es:List Expr} {kws:List Keyword} {te ta:TE} {t tk:TA} {nm:Option Str}
theorem aTu:PK X [] aMf:=fun _ _ _ _ H Q I h=>wpAny_evalAll_nil ⟨[],H,I,.nil,h⟩
theorem aO7 (ha:PE X e te) (hr:PK X kws t):PK X (⟨nm,e,kpos⟩::kws) (aMl te t):=by
 intro pos pins s σ H Q I h
 show wpAny _ _ (evalAll ((do let v<-eval e X.env;standAt pos;pure v)::(backToKw pos (keywordEach kws X.env)).map (·.2))) _ _ s
 refine wpAny_evalAll_cons (wpAny_bind (thn (ha pins s σ H _ I h) fun u s1 ⟨x,H1,I1,r1,q1⟩=>wpAny_bind (wpAny_standAt (wpAny_pure ?_))))
 exact thn (hr pos pins s1 σ H1 _ I1 q1) fun us s2 ⟨xs,H2,I2,r2,q2⟩=>⟨x::xs,H2,I2,.cons r1 r2,q2⟩
variable {g:List Value->List Value->List Value} {gV:List V->List V->List V}
end
structure aM (N P:List Str) (sc:Scope):Prop where
 kind:sc.kind= .function
 co:sc.isCoroutine=false
 gen:sc.isGenerator=false
 nd:N.Nodup
 pre:N.take P.length=P
 par:∀x∈P,sc.names.lookup x=some .local∨sc.names.lookup x=some .cell
 nofree:∀y∈sc.names,y.2≠ .free
theorem aA7 {kindOf:Str->Option NameKind} {x:Str}:∀{binds:List (Str×Value)} {m:Str->Option Value},(∀v,(x,v)∉binds)->bindL kindOf binds m x=m x
 | [],_,_=>rfl
 |(n,v)::r,m,h=>by
  unfold bindL
  rw [aA7 fun w hw=>h w (List.mem_cons_of_mem _ hw)]
  split
  ·have:x≠n:=by rintro rfl;exact h v List.mem_cons_self
   simp [this]
  ·rfl
theorem aAc {kindOf:Str->Option NameKind} {x:Str}:∀{binds:List (Str×Value)} {m:Str->Option Value},(∀v,(x,v)∉binds)->bindC kindOf binds m x=m x
 | [],_,_=>rfl
 |(n,v)::r,m,h=>by
  unfold bindC
  rw [aAc fun w hw=>h w (List.mem_cons_of_mem _ hw)]
  split
  ·rfl
  ·have:x≠n:=by rintro rfl;exact h v List.mem_cons_self
   simp [this]
theorem aA4 {kindOf:Str->Option NameKind} {x:Str} {v:Value}:∀{P:List Str} {vs:List Value} {i:Nat} {m:Str->Option Value},P.Nodup->P[i]? =some x->vs[i]? =some v->kindOf x=some .local->
  bindL kindOf (P.zip vs) m x=some v
 | [],_,_,_,_,h,_,_=>by simp at h
 |_::_,[],_,_,_,_,h,_=>by simp at h
 |p::P,w::vs,0,m,nd,h1,h2,hk=>by
  simp at h1 h2;subst h1;subst h2
  show bindL kindOf ((p,w)::P.zip vs) m p=_
  unfold bindL
  rw [aA7 fun v hv=>(List.nodup_cons.mp nd).1 (List.of_mem_zip hv).1,if_pos hk]
  simp
 |p::P,w::vs,i+1,m,nd,h1,h2,hk=>by
  show bindL kindOf ((p,w)::P.zip vs) m x=_
  unfold bindL
  exact aA4 (i:=i) (List.nodup_cons.mp nd).2 (by simpa using h1) (by simpa using h2) hk
theorem aAz {kindOf:Str->Option NameKind} {x:Str} {v:Value}:∀{P:List Str} {vs:List Value} {i:Nat} {m:Str->Option Value},P.Nodup->P[i]? =some x->vs[i]? =some v->kindOf x≠some .local->
  bindC kindOf (P.zip vs) m x=some v
 | [],_,_,_,_,h,_,_=>by simp at h
 |_::_,[],_,_,_,_,h,_=>by simp at h
 |p::P,w::vs,0,m,nd,h1,h2,hk=>by
  simp at h1 h2;subst h1;subst h2
  show bindC kindOf ((p,w)::P.zip vs) m p=_
  unfold bindC
  rw [aAc fun v hv=>(List.nodup_cons.mp nd).1 (List.of_mem_zip hv).1,if_neg hk]
  simp
 |p::P,w::vs,i+1,m,nd,h1,h2,hk=>by
  show bindC kindOf ((p,w)::P.zip vs) m x=_
  unfold bindC
  exact aAz (i:=i) (List.nodup_cons.mp nd).2 (by simpa using h1) (by simpa using h2) hk
def start (N:List Str) (vs:List V):St:=vs.map some++List.replicate (N.length-vs.length) none
def aBs (CX:CXT) (P:Program) (w:World) (K:PySem.W.Frag) (mg:Str->Option Value) (base:Heap) (N:List Str) (qual:Str) (scope:Scope) (f:Addr) (cd:Value) (A:Around) (outer:List Env) (s:Shared) (H:Hp) (E:XK):Cx where
 prog:=P
 w:=w
 K:=K
 mg:=mg
 base:=base
 A:=A.deeper (envOfC qual scope s.heap.objs.size f cd)
 N:=N
 s₀:=s
 H₀:=H
 env:=envOfC qual scope s.heap.objs.size f cd
 outer:=outer
 stack:=envOfC qual scope s.heap.objs.size f cd::outer
 ex:=[]
 calm:=true
 fn:=fun _=>true
 pn:=[]
 xe:=fun e s'=>wpAny (model P w) (A.deeper (envOfC qual scope s.heap.objs.size f cd)) (leaving (envOfC qual scope s.heap.objs.size f cd) e) (fun _ s''=>CX outer H s E e s'') (fun e' s''=>CX outer H s E e' s'') s'
theorem dZ {sc:Scope} {n:Nat} {x:Str} (h:sc.names.lookup x=some .cell):∃c,(cellsFrom n sc.names []).lookup x=some c:=by
 have q:=PySem.W.cellsFrom_some sc.names n [] (.inl h)
 exact Option.isSome_iff_exists.mp q
theorem aJy {CX:CXT} {P:Program} {w:World} {K:PySem.W.Frag} {mg:Str->Option Value} {base:Heap} {N ps:List Str} {qual:Str} {scope:Scope} {f:Addr} {cd:Value} {A:Around} {outer:List Env} {s s1:Shared} {H:Hp} {E:XK} {us:List Value} {vs:List V}
  (S:aM N ps scope) (hd:A.handled=none) (e0:aGr P w K mg base A outer s H) (hl:vs.length=ps.length) (r:Vals vs us)
  (x:InCallC s s.heap.objs.size (bindL (envOfC qual scope s.heap.objs.size f cd).kindOf (ps.zip us) fun _=>none) (cellsFrom (s.heap.objs.size+1) scope.names []) (bindC (envOfC qual scope s.heap.objs.size f cd).kindOf (ps.zip us) fun _=>none) s1):
  Inv (aBs CX P w K mg base N qual scope f cd A outer s H E) [] (start N vs) H s1:=by
 have hpl:ps.length<=N.length:=by have:=congrArg List.length S.pre;rw [List.length_take]at this;omega
 obtain⟨h1,tk,rfl,hk⟩:=x.done
 have noA:∀b:Addr,b∉(aBs CX P w K mg base N qual scope f cd A outer s H E).ex:=fun b z=>absurd (show b∈([]:List Addr)from z) (by simp)
 refine⟨⟨e0.mod,S.kind,rfl,rfl,Nat.le_refl _,fun y z c h1 h2=>?_,fun y hy=>?_,fun y c _ h=>?_,fun _=>hd,Around.frames_deeper e0.frames,.inr ⟨rfl,rfl⟩,fun b z=>absurd z (noA b),e0.bs,e0.bsz,fun b _ _=>noA b,fun b z=>absurd z (noA b),e0.funs,e0.frf⟩,
  rfl,e0.bare,Un.kept hk,⟨_,x.toInCall.ns,fun i y v h1 h2 h3=>?_⟩,fun y c h=>⟨_,x.cell y c h⟩,e0.hok.fresh (Nat.le_refl _),fun y c h=>?_,fun p hp=>absurd (show p∈([]:List (Addr×Obj))from hp) (by simp),e0.hok.kept hk,?_⟩
 ·exact name_of_addr x.apart (PySem.mem_of_lookup h1) (PySem.mem_of_lookup h2)
 ·have hy:scope.names.lookup y=some .cell∨scope.names.lookup y=some .free:=hy
  rcases hy with hy|hy
  ·exact dZ hy
  ·exact absurd rfl (S.nofree _ (PySem.mem_of_lookup hy))
 ·exact Nat.le_of_lt (x.above y c (PySem.mem_of_lookup h))
 ·have hi:i<vs.length:=by
   unfold start at h2
   by_cases hi:i<vs.length
   ·exact hi
   ·rw [List.getElem?_append_right (by simpa using hi)]at h2
    rw [List.getElem?_replicate]at h2
    split at h2<;>cases h2
  have ha:vs[i]? =some v:=by
   unfold start at h2
   rw [List.getElem?_append_left (by simpa using hi),List.getElem?_map]at h2
   cases e:vs[i]? with
   |none=>rw [e]at h2;cases h2
   |some a=>rw [e]at h2;cases h2;rfl
  obtain⟨u,hu,rv⟩:=r.get ha
  have hp:ps[i]? =some y:=by
   rw [<-S.pre,List.getElem?_take_of_lt (by omega)];exact h1
  have ndP:ps.Nodup:=by rw [<-S.pre];exact S.nd.sublist (List.take_sublist _ _)
  refine⟨u,rv,?_⟩
  rcases S.par y (List.mem_of_getElem? hp)with k|k
  ·exact .inl ⟨k,aA4 ndP hp hu k⟩
  ·obtain⟨c,e⟩:=dZ (n:=s.heap.objs.size+1) k
   refine .inr ⟨.inl k,c,e,?_⟩
   have q:=x.cell y c e
   rw [aAz ndP hp hu (by show scope.names.lookup y≠_;rw [k];decide)]at q
   exact q
 ·exact e0.hok.fresh (Nat.le_of_lt (x.above y c (PySem.mem_of_lookup h)))
 ·unfold start
  show _=N.length
  rw [List.length_append,List.length_map,List.length_replicate]
  omega
theorem aSh {CX:CXT} {P:Program} {w:World} {K:PySem.W.Frag} {mg:Str->Option Value} {base:Heap} {k:Nat} {f:Addr} {name qual:Str} {params:Arguments} {body:List Stmt} {scope:Scope} {dV kV doc pm cdv ct oc:Value} {an od:Option Addr}
  {osl:Array (Option Value)} {N ps:List Str} {sp:Sp} (lk:K.lookup f=some ⟨oc,od,.func (PySem.W.fnOf name qual params body scope dV kV doc pm an cdv ct),osl⟩) (hcd:PySem.W.codeIn K cdv qual=true) (S:aM N ps scope)
  (len:∀vs H Q E,sp vs H Q E->vs.length=ps.length)
  (hbody:∀(A:Around) (outer:List Env) (s:Shared) (H:Hp) (vs:List V) (Q:VK) (E:XK),eU k (A.deeper (envOfC qual scope s.heap.objs.size f cdv))->sp vs H Q E->
   ∃t,PSs (aBs CX P w K mg base N qual scope f cdv A outer s H E) body t/\t {nx:=fun _ H'=>Q .non H',rt:=Q} (start N vs) H):
  bC P w K mg base CX (k+1) f (PySem.W.fnOf name qual params body scope dV kV doc pm an cdv ct) ps sp:=by
 refine⟨len,fun A outer s H args us vs Q E hr e0 hb r hsp=>?_⟩
 have hl:=len _ _ _ _ hsp
 have KX:K.In s.heap:=e0.mod.kin.keeps fun b o e=>(e0.bs b o e).1
 have lim:s.heap.NoLimit:=e0.mod.nolimit.keeps fun b o e=>(e0.bs b o e).1
 have hkind:∀y∈ps.zip us,scope.names.lookup y.1=some .local∨(scope.names.lookup y.1=some .cell/\((cellsFrom (s.heap.objs.size+1) scope.names []).lookup y.1).isSome=true):=fun⟨n,v⟩ hy=>by
  rcases S.par n (List.of_mem_zip hy).1 with q|q
  ·exact .inl q
  ·exact .inr ⟨q,PySem.W.cellsFrom_some _ _ _ (.inl q)⟩
 refine codeAny_call_function hr.depth (KX _ _ lk) rfl S.co S.gen rfl (PySem.W.codeRec_of KX hcd) (hb _ _ _ _ ?_)
 refine wpAny_newFunctionEnv_cells S.kind hkind fun env he s1 x=>?_
 subst he
 refine⟨lim.keeps x.toInCall.keep,codeAny_func ?_⟩
 obtain⟨t,ht,hq⟩:=hbody A outer s H vs Q E (hr.deeper _) hsp
 have I:Inv (aBs CX P w K mg base N qual scope f cdv A outer s H E) [] (start N vs) H s1:=aJy S hr.hd e0 hl r x
 refine wpAny_mono (ht [] s1 (start N vs) H _ I hq) (fun fl s' hs=>?_) fun e s' hs=>hs
 have fin:∀{σ':St} {H':Hp} {v:V} {u:Value},Inv (aBs CX P w K mg base N qual scope f cdv A outer s H E) [] σ' H' s'->RelV v u->Q v H'->CE outer P w H s Q u s':=
  fun{σ' H' v u} J rv q=>⟨v,H',J.os,J.bare,J.base,J.hok,rv,q⟩
 cases fl with
 |ret u=>
  obtain⟨v,σ',H',J,rv,q⟩:=hs
  exact fin J rv q
 |next=>
  obtain⟨σ',H',J,q⟩:=hs
  exact fin (v:=V.non) (u:=Value.none) J rfl q
 |brk=>
  obtain⟨_,_,_,q⟩:=hs
  exact False.elim q
 |cont=>
  obtain⟨_,_,_,q⟩:=hs
  exact False.elim q
end L2
namespace L2
open PySem PySem.Spec PyProof.Rows
section
variable {X:Cx} {x:Str} {p pos:Pos} {e:Expr} {es:List Expr} {t:TA} {id T:String} {r:List V->Hp->VK->Prop}
def tCB (r:List V->Hp->VK->Prop) (t:TA):TE:=fun σ H Q=>t σ H fun vs H1=>r vs H1 Q
theorem bN (hc:fX X (.builtin id) r) (hg:Gl X x) (hm:X.mg x=none) (hv:bootBuiltins x=some (.builtin id)) (ha:PA X (e::es) t) (hn:x≠"__name__":=by decide) (hdb:(x==("__debug__":Str))=false:=by decide)
  (he:starEach (e::es) X.env=(false,eval e X.env)::starEach es X.env:=by rfl) (hpl:(backTo pos (starEach es X.env)).any (·.1)=false:=by rfl):PE X (.Call (.Name x p) (e::es) [] pos) (tCB r t):=by
 intro pins s σ H Q I h
 refine wpAny_Call_Name_kw (xT I hg hm hv ?_ hn hdb)
 exact PyProof.Rows.callWith_builtin1 (thn (ha pos pins s σ H _ I h) fun us s1 ⟨vs,H1,I1,r1,q1⟩=>hc pins s1 σ H1 vs us Q I1 r1 q1) he hpl
theorem cP (hc:fX X (.type T) r) (hg:Gl X x) (hm:X.mg x=none) (hv:bootBuiltins x=some (.type T)) (ha:PA X (e::es) t) (hn:x≠"__name__":=by decide) (hdb:(x==("__debug__":Str))=false:=by decide)
  (he:starEach (e::es) X.env=(false,eval e X.env)::starEach es X.env:=by rfl) (hpl:(backTo pos (starEach es X.env)).any (·.1)=false:=by rfl):PE X (.Call (.Name x p) (e::es) [] pos) (tCB r t):=by
 intro pins s σ H Q I h
 refine wpAny_Call_Name_kw (xT I hg hm hv ?_ hn hdb)
 exact PyProof.Rows.callWith_type1 (thn (ha pos pins s σ H _ I h) fun us s1 ⟨vs,H1,I1,r1,q1⟩=>hc pins s1 σ H1 vs us Q I1 r1 q1) he hpl
end
end L2
namespace HT
open PySem PyProof.Rows
section
open PySem.SeqAt
open PySem.AutoSeq1 (wpAny_loadPart')
open PySem.MeetsSeq PySem.MeetsSeq2 PySem.MeetsSeq3
end
section
variable {prog:Program} {w:World} {A:Around} {E:Value->Shared->Prop} {s:Shared}
theorem aQd {t b:Addr} {vs ws:List Value} {Q:Value->Shared->Prop} (ht:IsTup s.heap t vs.toArray) (hb:IsTup s.heap b ws.toArray) (hv:vs≠[])
  (h1:ws=[]->Q (.ref t) s) (h2:ws≠[]->Q (.ref s.heap.objs.size) {s with heap:=s.heap.push {cls:= .type "tuple",data:= .seq (vs++ws).toArray}})
  (hsz:vs.length+ws.length<=sizeLine):wpAny (model prog w) A (binaryOp .Add (.ref t) (.ref b)) Q E s:=by
 obtain⟨⟨cls,dd,data,sl⟩,ho,hc,n,hd⟩:=id ht
 obtain⟨⟨cls2,dd2,data2,sl2⟩,ho2,hc2,n2,hd2⟩:=id hb
 simp only at hc hd hc2 hd2
 subst hc hd hc2 hd2
 have e:vs.toArray++ws.toArray=(vs++ws).toArray:=by simp
 by_cases hw:ws=[]
 ·exact concat_meets ⟨_,ho,rfl⟩ ⟨_,ho2,rfl⟩ noFill_tuple_add seq_tuple_add PySem.F.slot_tuple_add PySem.F.entry_tuple_add (PySem.F.args_tuple_add_2 _ _)
   (tuple_addW1 t b vs.toArray ws.toArray n n2 dd dd2 sl sl2 (by simpa using hv) (by simp [hw])) ⟨ho,ho2,h1 hw⟩
 ·refine concat_meets ⟨_,ho,rfl⟩ ⟨_,ho2,rfl⟩ noFill_tuple_add seq_tuple_add PySem.F.slot_tuple_add PySem.F.entry_tuple_add (PySem.F.args_tuple_add_2 _ _)
   (tuple_addW2 t b vs.toArray ws.toArray n n2 dd dd2 sl sl2 (by simpa using hv) (by simpa using hw) (by rw [List.size_toArray,List.size_toArray];exact hsz)) ⟨ho,ho2,?_⟩
  rw [e]
  exact h2 hw
end
end HT
namespace L2
open PySem PySem.Spec PyProof.Rows
abbrev TO:=St->Hp->(Option Int->Hp->Prop)->Prop
def PO (X:Cx) (e:Option Expr) (t:TO):Prop:=
 ∀(pins:List (Addr×Obj)) (s:Shared) (σ:St) (H:Hp) (Q:Option Int->Hp->Prop),Inv X pins σ H s->t σ H Q->
  wpAny (model X.prog X.w) X.A (evalPart e X.env) (fun u s'=>∃o H',Inv X pins σ H' s'/\IsPart u o/\Q o H') X.xe s
def aHv:TO:=fun _ H Q=>Q none H
def aT9 (t:TE):TO:=fun σ H Q=>t σ H fun x H1=>∃i,x= .int i/\Q (some i) H1
theorem intsAre_of {ns:List Int}:∀{us:List Value},Vals (ns.map V.int) us->IntsAre us ns:=by
 induction ns with
 |nil=>intro us r;rw [List.map_nil]at r;cases r;exact .nil
 |cons n ns ih=>
  intro us r
  rw [List.map_cons]at r
  cases r with
  |cons r1 r2=>
   obtain⟨t,e⟩:=r1
   subst e
   exact .cons n t (ih r2)
section
variable {X:Cx} {e:Expr} {te:TE} {lo hi:Option Expr} {tl th:TO} {pos p2:Pos}
theorem vR:PO X none aHv:=by
 intro pins s σ H Q I h
 rw [evalPart_none]
 exact wpAny_pure ⟨none,H,I,.none,h⟩
theorem bO (h:PE X e te):PO X (some e) (aT9 te):=by
 intro pins s σ H Q I hw
 rw [evalPart_some]
 refine thn (h pins s σ H _ I hw) fun u s1 ⟨x,H1,I1,r1,q1⟩=>?_
 obtain⟨i,rfl,q⟩:=q1
 obtain⟨t,rfl⟩:=r1
 exact⟨some i,H1,I1,.int i t,q⟩
def SlR (X:Cx) (r:V->Option Int->Option Int->Hp->VK->Prop):Prop:=
 ∀(pins:List (Addr×Obj)) (s:Shared) (σ:St) (H:Hp) (x:V) (v vl vu:Value) (lo hi:Option Int) (sl:Addr) (Q:VK),Inv X pins σ H s->RelV x v->s.heap.IsSliceOf sl vl vu .none->IsPart vl lo->IsPart vu hi->r x lo hi H Q->
  ∃T id,typeLookup (.type T) "__getitem__"=pure (some (.builtin id))/\s.TypeIs v T/\wpAny (model X.prog X.w) X.A (getItem v (.ref sl)) (EP X pins σ Q) X.xe s
def tSl (r:V->Option Int->Option Int->Hp->VK->Prop) (te:TE) (tl th:TO):TE:=fun σ H Q=>te σ H fun x H1=>tl σ H1 fun l H2=>th σ H2 fun u H3=>r x l u H3 Q
theorem cT {r:V->Option Int->Option Int->Hp->VK->Prop} (hr:SlR X r) (he:PE X e te) (hl:PO X lo tl) (hu:PO X hi th):PE X (.Subscript e (.Slice lo hi none p2) pos) (tSl r te tl th):=by
 intro pins s σ H Q I h
 refine Subscript_ (thn (he pins s σ H _ I h) fun v s1 ⟨x,H1,I1,r1,q1⟩=>?_)
 refine wpAny_Slice (thn (hl pins s1 σ H1 _ I1 q1) fun vl s2 ⟨l,H2,I2,pl,q2⟩=>thn (hu pins s2 σ H2 _ I2 q2) fun vu s3 ⟨u,H3,I3,pu,q3⟩=>?_)
 rw [evalPart_none]
 refine wpAny_pure ?_
 have I4:Inv X pins σ H3 {s3 with heap:=s3.heap.push {cls:= .type "slice",data:= .fields #[vl,vu,.none]}}:=I3.kept (t':=s3.toks) fun b ob q=>Heap.get?_push_of_some _ q
 obtain⟨T,id,hT,ht,hg⟩:=hr pins {s3 with heap:=s3.heap.push {cls:= .type "slice",data:= .fields #[vl,vu,.none]}} σ H3 x v vl vu l u s3.heap.objs.size Q I4 r1 (Heap.IsSliceOf.new ..) pl pu q3
 show wpAny (model X.prog X.w) X.A (subscriptTail e (.Slice lo hi none p2) v (.ref s3.heap.objs.size)) (EP X pins σ Q) X.xe {s3 with heap:=s3.heap.push {cls:= .type "slice",data:= .fields #[vl,vu,.none]}}
 exact tail_any (ops:=[.ref s3.heap.objs.size,v]) ht hT hg (by with_unfolding_all rfl)
inductive aOr (K:PySem.W.Frag) (x:V) (y:V) (H:Hp) (Q:VK):Prop
 |mk (a b xs ys:_) (q0_:x= .ref a) (q1_:y= .ref b) (q2_:SqT K H a xs) (q3_:SqT K H b ys) (q4_:xs≠[]) (q5_:xs.length+ys.length<=sizeLine) (q6_:(ys=[]->Q (.ref a) H)) (q7_:(ys≠[]->∀p,H p=none->Q (.ref p) (upd H p (.tup (xs++ys))))):aOr K x y H Q
def aUr (K:PySem.W.Frag):R2:=fun x y H Q=>aOr K x y H Q
theorem Vals.nil_iff {xs:List V} {us:List Value} (r:Vals xs us):us=[]↔xs=[]:=by
 cases r with
 |nil=>simp
 |cons _ _=>simp
theorem aB6:OpR X (binaryOp .Add) (aUr X.K):=by
 intro pins s σ H x y v u Q I rx ry h
 obtain⟨a,b,xs,ys,rfl,rfl,ha,hb,hx,hz,q1,q2⟩:=h
 cases rx
 cases ry
 obtain⟨its,r1,p1,_⟩:=I.tuple ha
 obtain⟨its2,r2,p2,_⟩:=I.tuple hb
 refine HT.aQd p1 p2 (fun z=>hx (r1.nil_iff.mp z)) (fun z=>⟨.ref a,H,I,rfl,q1 (r2.nil_iff.mp z)⟩) (fun z=>?_) (by rw [<-r1.length, <-r2.length];exact hz)
 refine⟨.ref s.heap.objs.size,_,I.laid (t':=s.toks) (o:= .tup (xs++ys)) (fun b ob q=>Heap.get?_push_of_some _ q) (Nat.le_refl _) ?_,rfl,q2 (fun w=>z (r2.nil_iff.mpr w)) _ (I.hok.fresh (Nat.le_refl _))⟩
 exact⟨by rw [List.length_append];exact hz,_,r1.append r2,IsTup.new _ _⟩
end
end L2
namespace L2
open PySem PySem.Spec PyProof.Rows
def ixN (n:Nat) (i:Int):Option Nat:=if 0<=i then(if i<n then some i.toNat else none)else if-(n:Int)<=i then some (i+n).toNat else none
def atI {α:Type} (xs:List α) (i:Int):Option α:=(ixN xs.length i).bind fun j=>xs[j]?
theorem aIw {n:Nat} {i:Int} {j:Nat} (h:ixN n i=some j):seqIndex? i n=some j/\j<n/\ -(n:Int)<=i/\i<n:=by
 unfold ixN at h
 by_cases h0:0<=i
 ·rw [if_pos h0]at h
  by_cases h1:i<n
  ·rw [if_pos h1]at h
   have e:i.toNat=j:=Option.some.inj h
   exact⟨by rw [seqIndex_of h0 h1,e],by omega,by omega,h1⟩
  ·rw [if_neg h1]at h;cases h
 ·rw [if_neg h0]at h
  by_cases h1: -(n:Int)<=i
  ·rw [if_pos h1]at h
   have e:(i+n).toNat=j:=Option.some.inj h
   exact⟨by rw [seqIndex_neg (by omega) h1,e],by omega,h1,by omega⟩
  ·rw [if_neg h1]at h;cases h
theorem aCw {α:Type} {xs:List α} {i:Int} {v:α} (h:atI xs i=some v):∃j,seqIndex? i xs.length=some j/\xs[j]? =some v/\j<xs.length/\ -(xs.length:Int)<=i/\i<xs.length:=by
 unfold atI at h
 cases e:ixN xs.length i with
 |none=>rw [e]at h;cases h
 |some j=>
  rw [e]at h
  obtain⟨h1,h2,h3,h4⟩:=aIw e
  exact⟨j,h1,h,h2,h3,h4⟩
theorem jZ {α:Type} {xs:List α} {j:Nat} {v:α} (h:xs[j]? =some v):atI xs (j:Int)=some v:=by
 have hj:j<xs.length:=(List.getElem?_eq_some_iff.mp h).1
 have e:ixN xs.length (j:Int)=some j:=by
  unfold ixN
  rw [if_pos (by omega),if_pos (by omega)];simp
 unfold atI;rw [e];exact h
def aQw (b:Expr):Prop:=∀o i,subscripted b false o i=operate [o,i] (getItem o i)
def IxR (X:Cx) (r:R2):Prop:=
 ∀(value slice:Expr) (pins:List (Addr×Obj)) (s:Shared) (σ:St) (H:Hp) (x y:V) (v u:Value) (Q:VK),Inv X pins σ H s->RelV x v->RelV y u->r x y H Q->
  subscripted slice false v u=operate [v,u] (getItem v u)->wpAny (model X.prog X.w) X.A (subscriptTail value slice v u) (EP X pins σ Q) X.xe s
def MtR (X:Cx) (id:String) (r:V->List V->Hp->VK->Prop):Prop:=
 ∀(pins:List (Addr×Obj)) (s:Shared) (σ:St) (H:Hp) (x:V) (xs:List V) (v:Value) (us:List Value) (Q:VK),Inv X pins σ H s->RelV x v->Vals xs us->r x xs H Q->
  wpAny (model X.prog X.w) X.A (call (.builtin id) (v::us)) (EP X pins σ Q) X.xe s
inductive aOv (K:PySem.W.Frag) (xs:List V) (H:Hp) (Q:VK):Prop
 |mk (p ys:_) (q0_:xs=[.ref p]) (q1_:(SqL K H p ys∨SqT K H p ys)) (q2_:Q (.int ys.length) H):aOv K xs H Q
def aUo (K:PySem.W.Frag):List V->Hp->VK->Prop:=fun xs H Q=>aOv K xs H Q
section
variable {X:Cx} {a b:Expr} {ta tb:TE} {pos:Pos}
theorem cU {r:R2} (hr:IxR X r) (ha:PE X a ta) (hb:PE X b tb) (hs:aQw b):PE X (.Subscript a b pos) (tOp r ta tb):=by
 intro pins s σ H Q I h
 exact Subscript_ (aTq ha hb I h fun v u s2 x y H2 I2 rx ry q=>hr a b pins s2 σ H2 x y v u Q I2 rx ry q (hs _ _))
inductive aRn (K:PySem.W.Frag) (x:V) (y:V) (H:Hp) (Q:VK):Prop
 |mk (p xs i v:_) (q0_:x= .ref p) (q1_:y= .int i) (q2_:SqL K H p xs) (q3_:atI xs i=some v) (q4_:Q v H):aRn K x y H Q
def aV1 (K:PySem.W.Frag):R2:=fun x y H Q=>aRn K x y H Q
inductive aRp (K:PySem.W.Frag) (x:V) (y:V) (H:Hp) (Q:VK):Prop
 |mk (p xs i v:_) (q0_:x= .ref p) (q1_:y= .int i) (q2_:SqT K H p xs) (q3_:atI xs i=some v) (q4_:Q v H):aRp K x y H Q
def aVr (K:PySem.W.Frag):R2:=fun x y H Q=>aRp K x y H Q
inductive aRy (x:V) (y:V) (H:Hp) (Q:VK):Prop
 |mk (z i c:_) (q0_:x= .str z) (q1_:y= .int i) (q2_:z.length<=sizeLine) (q3_:atI z.cps.toList i=some c) (q4_:Q (.str ⟨#[c]⟩) H):aRy x y H Q
def aS0:R2:=fun x y H Q=>aRy x y H Q
theorem dU:IxR X (aV1 X.K):=by
 intro value slice pins s σ H x y v u Q I rx ry h hs
 obtain⟨p,xs,i,z,rfl,rfl,hq,he,q⟩:=h
 cases rx
 obtain⟨t,rfl⟩:=ry
 obtain⟨its,r,pl,hz⟩:=I.list hq
 obtain⟨j,h1,h2,h3,h4,h5⟩:=aCw he
 obtain⟨w,ew,rw'⟩:=r.get h2
 have hl:=r.length
 have hn:=sS
 have fin:EP X pins σ Q w s:=⟨z,H,I,rw',q⟩
 by_cases h0:0<=i
 ·have hj:i.toNat=j:=by
   rw [seqIndex_of h0 h5]at h1
   exact Option.some.inj h1
  exact item_listR pl.isList h0 (by omega) (by rw [hj];simpa using ew) fin hs
 ·have hj:(i+(its.toArray.size:Int)).toNat=j:=by
   rw [seqIndex_neg (by omega) h4]at h1
   rw [List.size_toArray, <-hl]
   exact Option.some.inj h1
  exact subscriptTail_builtinR (x:=w) pl.isList.typeIs slot_list_getitem.lookup
   (wpAny_getItem_list_neg (Q:=fun r s'=>r=w/\EP X pins σ Q r s') pl.isList (by omega) (by rw [List.size_toArray]<;>omega) (by omega) (by rw [hj];simpa using ew) ⟨rfl,fin⟩) hs
theorem gK:IxR X (aVr X.K):=by
 intro value slice pins s σ H x y v u Q I rx ry h hs
 obtain⟨p,xs,i,z,rfl,rfl,hq,he,q⟩:=h
 cases rx
 obtain⟨t,rfl⟩:=ry
 obtain⟨its,r,pl,hz⟩:=I.tuple hq
 obtain⟨j,h1,h2,h3,h4,h5⟩:=aCw he
 obtain⟨w,ew,rw'⟩:=r.get h2
 have hl:=r.length
 have hn:=sS
 have fin:EP X pins σ Q w s:=⟨z,H,I,rw',q⟩
 exact subscriptTail_builtinR (x:=w) pl.typeIs slot_tuple_getitem.lookup
  (getItem_tuple (j:=j) (Q:=fun r s'=>r=w/\EP X pins σ Q r s') pl (by omega) (by omega) (by rw [List.size_toArray, <-hl];exact h1) (by simpa using ew) ⟨rfl,fin⟩) hs
theorem wI:IxR X aS0:=by
 intro value slice pins s σ H x y v u Q I rx ry h hs
 obtain⟨z,i,c,rfl,rfl,hz,he,q⟩:=h
 obtain⟨t,rfl⟩:=rx
 obtain⟨t',rfl⟩:=ry
 obtain⟨j,h1,h2,h3,h4,h5⟩:=aCw he
 have hl:z.cps.toList.length=z.length:=by simp [Str.length]
 rw [hl]at h1 h4 h5
 have hn:=sS
 exact tail_any (typeIs_str s z t) slot_str_getitem.lookup (getItem_str (c:=c) (by
  have e1:decide (i< -(2 ^ 63:Int))=false:=decide_eq_false (by omega)
  have e2:decide (i≥2 ^ 63)=false:=decide_eq_false (by omega)
  rw [e1,e2,Bool.or_false]) (by rw [h1];simpa using h2) ⟨.str ⟨#[c]⟩,H,I.tok _,⟨_,rfl⟩,q⟩) hs
theorem aGv (its:List Value) (n j:Nat) (u:Value):Obj.mapSeq (·.setIfInBounds j u) {cls:= .type "list",data:= .seq its.toArray n}={cls:= .type "list",data:= .seq (its.set j u).toArray n}:=by
 simp [Obj.mapSeq]
theorem Inv.lst {pins:List (Addr×Obj)} {σ:St} {H:Hp} {s:Shared} {p:Addr} {xs:List V} (I:Inv X pins σ H s) (h:H p=some (.lst xs)):
  ∃(its:List Value) (n:Nat),Vals xs its/\s.heap.get? p=some {cls:= .type "list",data:= .seq its.toArray n}/\xs.length<=sizeLine:=by
 obtain⟨z,its,n,r,e⟩:=I.hok p _ h
 exact⟨its,n,r,e,z⟩
theorem Inv.lstUpd {pins:List (Addr×Obj)} {σ:St} {H:Hp} {s:Shared} {p:Addr} {xs ys:List V} {its its':List Value} {n n':Nat} {f:Obj->Obj} (I:Inv X pins σ H s) (h:H p=some (.lst xs))
  (ho:s.heap.get? p=some {cls:= .type "list",data:= .seq its.toArray n}) (hf:f {cls:= .type "list",data:= .seq its.toArray n}={cls:= .type "list",data:= .seq its'.toArray n'}) (r:Vals ys its') (hz:ys.length<=sizeLine) (t:Nat):
  Inv X pins σ (upd H p (.lst ys)) {s with heap:=s.heap.update p f,toks:=t}:=by
 have e:(s.heap.update p f).get? p=some {cls:= .type "list",data:= .seq its'.toArray n'}:=by
  rw [Heap.get?_update_self f ho (by rw [hf]<;>rfl),hf]
 refine I.write (x:=p) (e:=p) (by rw [h];trivial) (.inl rfl) (fun b u hb q=>(Heap.get?_update_other _ _ (Ne.symm hb)).trans q) ⟨_,e⟩ ?_
 exact⟨hz,its',n',r,e⟩
inductive aK8 (o:V) (i:V) (v:V) (H:Hp) (Q:(Hp->Prop)):Prop
 |mk (p xs k j:_) (q0_:o= .ref p) (q1_:i= .int k) (q2_:H p=some (.lst xs)) (q3_:ixN xs.length k=some j) (q4_:Q (upd H p (.lst (xs.set j v)))):aK8 o i v H Q
def aUc:V->V->V->Hp->(Hp->Prop)->Prop:=fun o i v H Q=>aK8 o i v H Q
theorem set_list:aVj X aUc:=by
 intro pins s σ H o i v ov iv u Q I ro ri rv h
 obtain⟨p,xs,k,j,rfl,rfl,hp,hj,q⟩:=h
 cases ro
 obtain⟨t,rfl⟩:=ri
 obtain⟨its,n,r,ho,hz⟩:=I.lst hp
 obtain⟨h1,h2,h3,h4⟩:=aIw hj
 have hl:=r.length
 have hn:=sS
 have I':Inv X pins σ (upd H p (.lst (xs.set j v))) {s with heap:=s.heap.update p (Obj.mapSeq (·.setIfInBounds j u))}:=
  I.lstUpd hp ho (aGv its n j u) (r.set rv j) (by rw [List.length_set];exact hz) s.toks
 by_cases h0:0<=k
 ·have hk:k.toNat=j:=by
   rw [seqIndex_of h0 h4]at h1
   exact Option.some.inj h1
  exact PySem.W.ki_setAt ho h0 (by omega) (by rw [List.size_toArray, <-hl];exact h4) (by rw [hk];exact⟨_,I',q⟩)
 ·have hk:(k+(its.toArray.size:Int)).toNat=j:=by
   rw [seqIndex_neg (by omega) h3]at h1
   rw [List.size_toArray, <-hl]
   exact Option.some.inj h1
  exact PySem.W.ki_setBack ho (by omega) (by rw [List.size_toArray, <-hl];exact h3) (by omega) (by rw [hk];exact⟨_,I',q⟩)
def gJ:V->Bool
 | .non=>true
 | .bl _=>true
 | .int _=>true
 | .str _=>true
 |_=>false
def eqV:V->V->Bool
 | .non,.non=>true
 | .bl a,.bl b=>a==b
 | .bl a,.int b=>(if a then 1 else 0)==b
 | .int a,.bl b=>a==(if b then 1 else 0)
 | .int a,.int b=>a==b
 | .str a,.str b=>a==b
 |_,_=>false
theorem aM5 {A:Around} {s:Shared} {y x:V} {u v:Value} (ry:RelV y u) (rx:RelV x v) (fy:gJ y=true) (fx:gJ x=true):SeqAt.EqAt A s u v (eqV y x):=by
 cases y with
 |non=>
  cases ry
  cases x with
  |non=>cases rx;exact SeqAt.EqAt.same _
  |bl b=>cases rx;exact SeqAt.EqAt.none_bool b
  |int b=>obtain⟨t,rfl⟩:=rx;exact SeqAt.EqAt.none_int b t
  |str b=>obtain⟨t,rfl⟩:=rx;exact SeqAt.EqAt.none_str b t
  |_=>exact absurd (show false=true from fx) Bool.false_ne_true
 |bl a=>
  cases ry
  cases x with
  |non=>cases rx;exact SeqAt.EqAt.bool_none a
  |bl b=>cases rx;exact SeqAt.EqAt.bool_bool a b
  |int b=>obtain⟨t,rfl⟩:=rx;exact SeqAt.EqAt.bool_int a b t
  |str b=>obtain⟨t,rfl⟩:=rx;exact SeqAt.EqAt.bool_str a b t
  |_=>exact absurd (show false=true from fx) Bool.false_ne_true
 |int a=>
  obtain⟨t',rfl⟩:=ry
  cases x with
  |non=>cases rx;exact SeqAt.EqAt.int_none a t'
  |bl b=>cases rx;exact SeqAt.EqAt.int_bool a t' b
  |int b=>obtain⟨t,rfl⟩:=rx;exact SeqAt.EqAt.int_int a t' b t
  |str b=>obtain⟨t,rfl⟩:=rx;exact SeqAt.EqAt.int_str a t' b t
  |_=>exact absurd (show false=true from fx) Bool.false_ne_true
 |str a=>
  obtain⟨t',rfl⟩:=ry
  cases x with
  |non=>cases rx;exact SeqAt.EqAt.str_none a t'
  |bl b=>cases rx;exact SeqAt.EqAt.str_bool a t' b
  |int b=>obtain⟨t,rfl⟩:=rx;exact SeqAt.EqAt.str_int a t' b t
  |str b=>obtain⟨t,rfl⟩:=rx;exact SeqAt.EqAt.str_str a t' b t
  |_=>exact absurd (show false=true from fx) Bool.false_ne_true
 |_=>exact absurd (show false=true from fy) Bool.false_ne_true
def eqU (x:V) (u:Value):Bool:=match u with
 | .none=>eqV .non x
 | .bool b=>eqV (.bl b) x
 | .int i _=>eqV (.int i) x
 | .str z _=>eqV (.str z) x
 |_=>false
theorem aOc {x y:V} {u:Value} (r:RelV y u) (f:gJ y=true):eqU x u=eqV y x:=by
 cases y with
 |non=>cases r;rfl
 |bl b=>cases r;rfl
 |int i=>obtain⟨t,rfl⟩:=r;rfl
 |str z=>obtain⟨t,rfl⟩:=r;rfl
 |_=>exact absurd (show false=true from f) Bool.false_ne_true
theorem aCx {x:V}:∀{xs:List V} {us:List Value},Vals xs us->xs.all gJ=true->us.any (eqU x)=xs.any fun y=>eqV y x
 |_,_,.nil,_=>rfl
 |y::xs,u::us,.cons r t,f=>by
  rw [List.all_cons,Bool.and_eq_true]at f
  rw [List.any_cons,List.any_cons,aOc r f.1,aCx t f.2]
theorem xR {A:Around} {s:Shared} {x:V} {v:Value} (rx:RelV x v) (fx:gJ x=true):∀{xs:List V} {us:List Value},Vals xs us->xs.all gJ=true->∀u∈us,SeqAt.EqAt A s u v (eqU x u)
 |_,_,.nil,_=>fun u hu=>by cases hu
 |y::xs,u::us,.cons r t,f=>fun u' hu=>by
  rw [List.all_cons,Bool.and_eq_true]at f
  rcases List.mem_cons.mp hu with rfl|hu
  ·rw [aOc r f.1];exact aM5 r rx f.1 fx
  ·exact xR rx fx t f.2 u' hu
def inV (x:V) (xs:List V):Bool:=xs.any fun y=>eqV y x
inductive aVl (K:PySem.W.Frag) (neg:Bool) (x:V) (y:V) (H:Hp) (Q:VK):Prop
 |mk (p xs:_) (q0_:y= .ref p) (q1_:(SqL K H p xs∨SqT K H p xs)) (q2_:gJ x=true) (q3_:xs.all gJ=true) (q4_:Q (.bl (if neg then !inV x xs else inV x xs)) H):aVl K neg x y H Q
def rIn (K:PySem.W.Frag) (neg:Bool):R2:=fun x y H Q=>aVl K neg x y H Q
theorem aC0:OpR X (compareOp .NotIn) (rIn X.K true):=by
 intro pins s σ H x y v u Q I rx ry h
 obtain⟨p,xs,rfl,hq,fx,fs,q⟩:=h
 cases ry
 rcases hq with hq|hq
 ·obtain⟨its,r,pl,hz⟩:=I.list hq
  refine SeqAt.notIn_listAt (eqU x) pl.isList (fun w hw=>xR rx fx r fs w (by simpa using hw)) ⟨.bl _,H,I,rfl,?_⟩
  rw [show its.toArray.any (eqU x)=its.any (eqU x) by simp,aCx r fs]
  exact q
 ·obtain⟨its,r,pl,hz⟩:=I.tuple hq
  refine SeqAt.notIn_tupleAt (eqU x) pl (fun w hw=>xR rx fx r fs w (by simpa using hw)) ⟨.bl _,H,I,rfl,?_⟩
  rw [show its.toArray.any (eqU x)=its.any (eqU x) by simp,aCx r fs]
  exact q
theorem dM:fX X (.builtin "len") (aUo X.K):=by
 intro pins s σ H xs us Q I r h
 obtain⟨p,ys,rfl,hq,q⟩:=h
 obtain⟨u,rfl,rx⟩:=vals1 r
 cases rx
 have hn:=sS
 rcases hq with hq|hq
 ·obtain⟨its,r',pl,hz⟩:=I.list hq
  have hlen:=r'.length
  exact Calls.call_len_list pl.isList (by simp only [List.size_toArray]<;>omega) ⟨.int ys.length,H,I.tok _,⟨s.toks+1,by rw [List.size_toArray,hlen]⟩,q⟩
 ·obtain⟨its,r',pl,hz⟩:=I.tuple hq
  have hlen:=r'.length
  exact len_tuple pl (by simp only [List.size_toArray]<;>omega) ⟨.int ys.length,H,I.tok _,⟨s.toks+1,by rw [List.size_toArray,hlen]⟩,q⟩
theorem fD:fX X (.builtin "len") (fun xs H Q=>∃z,xs=[.str z]/\z.length<=sizeLine/\Q (.int z.length) H):=by
 intro pins s σ H xs us Q I r h
 obtain⟨z,rfl,hz,q⟩:=h
 obtain⟨u,rfl,t,rfl⟩:=vals1 r
 have hn:=sS
 exact len_str (by omega) ⟨.int z.length,H,I.tok _,⟨_,rfl⟩,q⟩
theorem pJ:fX X (.type "tuple") (fun xs H Q=>∃p ys,xs=[.ref p]/\((SqL X.K H p ys/\∀l,H l=none->Q (.ref l) (upd H l (.tup ys)))∨(SqT X.K H p ys/\Q (.ref p) H))):=by
 intro pins s σ H xs us Q I r h
 obtain⟨p,ys,rfl,h⟩:=h
 obtain⟨u,rfl,rx⟩:=vals1 r
 cases rx
 rcases h with ⟨hq,q⟩|⟨hq,q⟩
 ·obtain⟨its,r',pl,hz⟩:=I.list hq
  have hlen:=r'.length
  refine call_tuple_list pl.isList (fun h' kp=>?_) (by simp only [List.size_toArray]<;>omega)
  have I1:Inv X pins σ H {s with heap:=h'}:=I.kept (t':=s.toks) kp
  have I2:Inv X pins σ (upd H h'.objs.size (.tup ys)) {s with heap:=h'.push {cls:= .type "tuple",data:= .seq its.toArray}}:=
   I1.laid (t':=s.toks) (fun b o e=>Heap.get?_push_of_some _ e) (Nat.le_refl _) (show cY X.prog X.w _ _ _ (.tup ys)from⟨hz,its,r',IsTup.new _ _⟩)
  exact⟨.ref h'.objs.size,_,I2,rfl,q _ (I1.hok.fresh (Nat.le_refl _))⟩
 ·obtain⟨its,r',pl,hz⟩:=I.tuple hq
  exact call_tuple_same pl ⟨.ref p,H,I,rfl,q⟩
def tyV (K:PySem.W.Frag) (T:String) (x:V) (H:Hp):Prop:=match x with
 | .str _=>T="str"
 | .int _=>T="int"
 | .ref p=>(T="list"/\∃xs,SqL K H p xs)∨(T="tuple"/\∃o,K.lookup p=some o/\o.cls= .type "tuple"/\o.dict=none)∨
   (T="dict"/\((∃kvs,H p=some (.dK kvs))∨∃kvs,H p=some (.dT kvs)))∨(T="set"/\∃S n,H p=some (.set S n))
 |_=>False
theorem aN4 {pins:List (Addr×Obj)} {σ:St} {H:Hp} {s:Shared} {T:String} {x:V} {v:Value} (I:Inv X pins σ H s) (r:RelV x v) (ty:tyV X.K T x H):
  s.TypeIs v T/\∀a,v= .ref a->∃ob,s.heap.get? a=some ob/\ob.dict=none:=by
 cases x with
 |str z=>
  obtain⟨t,rfl⟩:=r
  cases (show T="str" from ty)
  exact⟨typeIs_str s z t,fun _ e=>nomatch e⟩
 |int i=>
  obtain⟨t,rfl⟩:=r
  cases (show T="int" from ty)
  exact⟨typeIs_int s i t,fun _ e=>nomatch e⟩
 |ref p=>
  cases r
  rcases ty with ⟨rfl,xs,hq⟩|⟨rfl,o,hk,hc,hd⟩|⟨rfl,hk⟩|⟨rfl,S,n,hk⟩
  ·obtain⟨its,_,pl,_⟩:=I.list hq
   refine⟨pl.isList.typeIs,fun a e=>?_⟩
   cases e
   obtain⟨o,n,e,c,hd,_⟩:=pl
   exact⟨o,e,hd⟩
  ·refine⟨⟨o,I.kIn p o hk,hc⟩,fun a e=>?_⟩
   cases e
   exact⟨o,I.kIn _ o hk,hd⟩
  ·have z:∃o,s.heap.get? p=some o/\o.ExactDict:=by
    rcases hk with ⟨kvs,hk⟩|⟨kvs,hk⟩
    ·obtain⟨_,_,_,_,o,_,_,e,ex,_⟩:=I.hok p _ hk
     exact⟨o,e,ex⟩
    ·obtain⟨_,_,_,_,o,_,_,e,ex,_⟩:=I.hok p _ hk
     exact⟨o,e,ex⟩
   obtain⟨o,e,ex⟩:=z
   refine⟨⟨o,e,ex.1⟩,fun a e2=>?_⟩
   cases e2
   exact⟨o,e,ex.2.1⟩
  ·obtain⟨o,_,_,_,e,ex,_⟩:=I.hok p _ hk
   refine⟨⟨o,e,ex.1⟩,fun a e2=>?_⟩
   cases e2
   exact⟨o,e,ex.2.1⟩
 |_=>exact False.elim ty
def aWf (K:PySem.W.Frag) (T:String) (r:V->List V->Hp->VK->Prop) (to:TE):TE:=fun σ H Q=>to σ H fun x H1=>tyV K T x H1/\r x [] H1 Q
def tBM (K:PySem.W.Frag) (T:String) (r:V->List V->Hp->VK->Prop) (to:TE) (t:TA):TE:=fun σ H Q=>to σ H fun x H1=>tyV K T x H1/\t σ H1 fun xs H2=>r x xs H2 Q
variable {o e:Expr} {es:List Expr} {to:TE} {t:TA} {name:Str} {apos cpos:Pos} {T id:String} {r:V->List V->Hp->VK->Prop}
theorem aTo (pa:PlainAttrs T) (slot:Slot T name id) (hty:typeOf (.builtin id)=pure (.type "method_descriptor")) (hm:MtR X id r) (ho:PE X o to)
  (hbase:attributeBase o name X.env (eval o X.env)=eval o X.env:=by rfl) (hline:(apos.endLine==cpos.line)=true:=by rfl):PE X (.Call (.Attribute o name apos) [] [] cpos) (aWf X.K T r to):=by
 intro pins s σ H Q I h
 refine wpAny_Call_method0_late hbase hline (thn (ho pins s σ H _ I h) fun v s1 ⟨x,H1,I1,r1,ty,q1⟩=>?_)
 obtain⟨h1,h2⟩:=aN4 I1 r1 ty
 exact⟨T,id,pa,slot,hty,h1,h2,Calls.callWith_builtin rfl (PySem.evalArgs_none (hm pins s1 σ H1 x [] v [] Q I1 r1 .nil q1))⟩
theorem lU (pa:PlainAttrs T) (slot:Slot T name id) (hty:typeOf (.builtin id)=pure (.type "method_descriptor")) (hm:MtR X id r) (ho:PE X o to) (ha:PA X (e::es) t)
  (hbase:attributeBase o name X.env (eval o X.env)=eval o X.env:=by rfl)
  (hfew:((backTo cpos (starEach (e::es) X.env)).all (fun x=> !x.1) && (backToKw cpos (keywordEach [] X.env)).all (fun x=>x.1.isSome)
   && decide ((e::es).length+([]:List Keyword).length+(if([]:List Keyword).isEmpty then 0 else 1)<30))=true:=by rfl)
  (hline:(apos.endLine==cpos.line)=true:=by rfl) (hs:starEach (e::es) X.env=(false,eval e X.env)::starEach es X.env:=by rfl) (hplain:(backTo cpos (starEach es X.env)).any (·.1)=false:=by rfl):
  PE X (.Call (.Attribute o name apos) (e::es) [] cpos) (tBM X.K T r to t):=by
 intro pins s σ H Q I h
 refine wpAny_Call_method_late hbase hfew hline rfl (thn (ho pins s σ H _ I h) fun v s1 ⟨x,H1,I1,r1,ty,q1⟩=>?_)
 obtain⟨h1,h2⟩:=aN4 I1 r1 ty
 refine⟨T,id,pa,slot,hty,h1,h2,?_⟩
 have hA:=ha cpos pins s1 σ H1 _ I1 q1
 rw [hs]at hA⊢
 refine Calls.callWith_builtin (by show(false || (backTo cpos (starEach es X.env)).any (·.1))=false;rw [hplain]<;>rfl) (Calls.evalArgs_plain ?_)
 exact thn hA fun us s2 ⟨vs,H2,I2,r2,q2⟩=>hm pins s2 σ H2 x vs v us Q I2 r1 r2 q2
end
end L2
namespace L2
open PySem PySem.Spec PyProof.Rows
def MtM (X:Cx) (id:String) (r:V->List V->Hp->VK->Prop):Prop:=
 ∀(pins:List (Addr×Obj)) (s:Shared) (σ:St) (H:Hp) (x:V) (xs:List V) (v:Value) (us:List Value) (Q:VK),Inv X pins σ H s->RelV x v->Vals xs us->r x xs H Q->
  wpAny (model X.prog X.w) X.A (call (.builtin id) (v::us)) (EP X pins σ Q) X.xe s
theorem Vals.one:∀{x:V} {us:List Value},Vals [x] us->∃u,us=[u]/\RelV x u
 |_,_,.cons r .nil=>⟨_,rfl,r⟩
theorem Vals.two:∀{x y:V} {us:List Value},Vals [x,y] us->∃u v,us=[u,v]/\RelV x u/\RelV y v
 |_,_,_,.cons r (.cons q .nil)=>⟨_,_,rfl,r,q⟩
theorem Vals.zero:∀{us:List Value},Vals [] us->us=[]
 |_,.nil=>rfl
theorem Vals.dropLast {xs:List V} {us:List Value} (h:Vals xs us):Vals xs.dropLast us.dropLast:=by
 induction h with
 |nil=>exact .nil
 |cons r t ih=>
  cases t with
  |nil=>exact .nil
  |cons q t'=>exact .cons r ih
theorem aGi {α:Type} (l:List α):l.eraseIdx (l.length-1)=l.dropLast:=by
 induction l with
 |nil=>rfl
 |cons a r ih=>
  cases r with
  |nil=>rfl
  |cons b r=>
   have e:(a::b::r).length-1=((b::r).length-1)+1:=by
    have h1:(a::b::r).length=r.length+2:=rfl
    have h2:(b::r).length=r.length+1:=rfl
    omega
   rw [e,List.eraseIdx_cons_succ,ih]
   all_goals rfl
section
variable {X:Cx} {pins:List (Addr×Obj)} {σ:St} {H:Hp} {s:Shared} {l b:Addr} {xs ys zs:List V}
theorem Inv.lset {its its':List Value} {n:Nat} {f:Array Value->Array Value} {t':Nat} (I:Inv X pins σ H s) (hH:H l=some (.lst xs))
  (e:s.heap.get? l=some {cls:= .type "list",data:= .seq its.toArray n}) (hf:f its.toArray=its'.toArray) (hv:Vals ys its') (hz:ys.length<=sizeLine):
  Inv X pins σ (upd H l (.lst ys)) {s with heap:=s.heap.update l (Obj.mapSeq f),toks:=t'}:=by
 have q:=PySem.IsL.update e f
 rw [hf]at q
 refine I.write (x:=l) (e:=l) (by rw [hH];exact trivial) (.inl rfl) (fun b' u hb hu=>(Heap.get?_update_other s.heap (Obj.mapSeq f) (Ne.symm hb)).trans hu) ⟨_,q⟩ ?_
 exact⟨hz,its',_,hv,q⟩
theorem Inv.lstM (I:Inv X pins σ H s) (hH:H l=some (.lst xs)):xs.length<=sizeLine/\∃(its:List Value) (n:Nat),Vals xs its/\xs.length=its.length/\s.heap.get? l=some {cls:= .type "list",data:= .seq its.toArray n}:=by
 obtain⟨z,its,n,r,e⟩:=I.hok l _ hH
 exact⟨z,its,n,r,r.length,e⟩
theorem aMq {n:Nat} (h:n<=sizeLine):Builtin.List.listTooLong n=false:=by
 unfold Builtin.List.listTooLong
 exact decide_eq_false (by omega)
end
section
variable {X:Cx}
inductive aD0 (x:V) (vs:List V) (H:Hp) (Q:VK):Prop
 |mk (l xs y:_) (q0_:x= .ref l) (q1_:vs=[y]) (q2_:H l=some (.lst xs)) (q3_:xs.length<sizeLine) (q4_:Q .non (upd H l (.lst (xs++[y])))):aD0 x vs H Q
def aQ2:V->List V->Hp->VK->Prop:=fun x vs H Q=>aD0 x vs H Q
theorem sO:MtM X "list.append" aQ2:=by
 intro pins s σ H x vs v us Q I rx rv h
 obtain⟨l,xs,y,rfl,rfl,hH,hz,q⟩:=h
 cases rx
 obtain⟨u,rfl,ru⟩:=rv.one
 obtain⟨z,its,n,r,hl,e⟩:=I.lstM hH
 refine call_meets F.slot_list_append ⟨_,e,rfl⟩ F.entry_list_append (F.args_list_append_2 _ _) (PySem.list_append l its.toArray n u (by rw [List.size_toArray];omega)) ⟨e,?_⟩
 refine⟨.non,_,I.lset (its':=its++[u]) hH e (by simp) (r.append (.cons ru .nil)) ?_,rfl,q⟩
 rw [List.length_append,List.length_singleton]
 omega
inductive aDq (x:V) (vs:List V) (H:Hp) (Q:VK):Prop
 |mk (l b xs zs:_) (q0_:x= .ref l) (q1_:vs=[.ref b]) (q2_:H l=some (.lst xs)) (q3_:H b=some (.lst zs)) (q4_:xs.length+zs.length<=sizeLine) (q5_:Q .non (upd H l (.lst (xs++zs)))):aDq x vs H Q
def aRh:V->List V->Hp->VK->Prop:=fun x vs H Q=>aDq x vs H Q
theorem lQ:MtM X "list.extend" aRh:=by
 intro pins s σ H x vs v us Q I rx rv h
 obtain⟨l,b,xs,zs,rfl,rfl,hH,hB,hz,q⟩:=h
 cases rx
 obtain⟨u,rfl,ru⟩:=rv.one
 cases ru
 obtain⟨z,its,n,r,hl,e⟩:=I.lstM hH
 obtain⟨z2,its2,n2,r2,hl2,e2⟩:=I.lstM hB
 have hsz:its.toArray.size+its2.toArray.size<=sizeLine:=by rw [List.size_toArray,List.size_toArray];omega
 have hlong:¬(!its.toArray.isEmpty && Builtin.List.listTooLong (its.toArray.size+its2.toArray.size))=true:=by
  rw [aMq hsz,Bool.and_false]
  exact Bool.false_ne_true
 refine call_meets F.slot_list_extend ⟨_,e,rfl⟩ F.entry_list_extend (F.args_list_extend_2 _ _)
  (AutoSeq1.list_extend_list_list_0 l its.toArray n b its2.toArray n2 hlong (by rw [List.size_toArray];omega) (by omega)) ⟨e,e2,?_⟩
 refine⟨.non,_,I.lset (its':=its++its2) hH e (by simp) (r.append r2) ?_,rfl,q⟩
 rw [List.length_append]
 omega
inductive aR9 (x:V) (vs:List V) (H:Hp) (Q:VK):Prop
 |mk (l xs y:_) (q0_:x= .ref l) (q1_:vs=[]) (q2_:H l=some (.lst xs)) (q3_:xs[xs.length-1]? =some y) (q4_:Q y (upd H l (.lst xs.dropLast))):aR9 x vs H Q
def aWr:V->List V->Hp->VK->Prop:=fun x vs H Q=>aR9 x vs H Q
theorem aSt:MtM X "list.pop" aWr:=by
 intro pins s σ H x vs v us Q I rx rv h
 obtain⟨l,xs,y,rfl,rfl,hH,hy,q⟩:=h
 cases rx
 have hus:=rv.zero
 subst hus
 obtain⟨z,its,n,r,hl,e⟩:=I.lstM hH
 obtain⟨u,hu,ru⟩:=r.get hy
 have hy':its.toArray[its.toArray.size-1]? =some u:=by
  show its.toArray[its.length-1]? =some u
  rw [<-Array.getElem?_toList, <-hl]
  exact hu
 refine call_meets F.slot_list_pop ⟨_,e,rfl⟩ F.entry_list_pop (F.args_list_pop_1 _) (MeetsSeq.list_pop_last l its.toArray n u hy' (by rw [List.size_toArray];omega)) ⟨e,?_⟩
 refine⟨y,_,I.lset (its':=its.dropLast) hH e ?_ r.dropLast ?_,ru,q⟩
 ·show its.toArray.eraseIdxIfInBounds (its.toArray.size-1)=its.dropLast.toArray
  rw [List.size_toArray,List.eraseIdxIfInBounds_toArray,aGi]
 ·rw [List.length_dropLast]
  omega
end
section
variable {prog:Program} {w:World} {A:Around} {E:Value->Shared->Prop} {s:Shared}
set_option maxRecDepth 100000 in
end
section
variable {X:Cx}
end
end L2
namespace Att
open PySem PySem.W PySem.Calls PyProof.Rows
theorem uO {P:Params} {h:Heap}:∀(ns:List Int) (vs:List Value),WellAll P h vs (ns.map WData.int)->IntsAre vs ns:=by
 intro ns
 induction ns with
 |nil=>
  intro vs w
  rw [List.map_nil]at w
  cases w
  exact .nil
 |cons n ns ih=>
  intro vs w
  rw [List.map_cons]at w
  cases w with
  |cons a b=>
   cases a
   exact .cons _ _ (ih _ b)
theorem aJ6 {l:OpenLaw} {n:Nat} (hn:l.most=some n) {P:Params} {h:Heap} {args:List WData} {vals:List Value}
  (hpre:l.row.toRowW.claim.pre args=true) (hwl:WellAll P h vals args):
  ∃a vs ns,vals=[Value.ref a]/\args=[WData.list (ns.map WData.int)]/\h.get? a=some {cls:= .type "list",data:= .seq vs.toArray}/\IntsAre vs ns/\ns.length<=n:=by
 have hsh:WShape.hasAll [] args [.list .int]=true:=(pre_splitW hpre).1
 have hc:l.pre.holds [] {args:=args}=true:=(pre_splitW hpre).2
 obtain⟨d,r,rfl,h1,h2⟩:=hasAllW_cons hsh
 obtain rfl:=hasAllW_nil h2
 obtain⟨xs,rfl,h3⟩:=hasW_list h1
 obtain⟨ns,rfl⟩:=items_int h3
 have hlen:ns.length<=n:=by
  unfold OpenLaw.pre at hc
  have h4:(WTm.not (.lt (.lit (.int (n:Int))) (.len (.arg 0)))).holds [] {args:=[.list (ns.map .int)]}=true:=by
   have h4:=(holds_andW hc).1
   rw [hn]at h4
   exact h4
  have h5:=condW_of h4 (w_not (w_lt w_lit (w_len_list (w_arg rfl))))
  rw [List.length_map]at h5
  refine Nat.le_of_not_lt fun q=>?_
  have q':(n:Int)<((ns.length:Nat):Int):=by omega
  first
   |(rw [decide_eq_true q']at h5;exact absurd h5 (by decide))
   |(simp at h5;omega)
 cases hwl with
 |cons w1 w2=>
  cases w2
  cases w1 with
  |list ho hall=>exact⟨_,_,ns,rfl,rfl,ho,uO ns _ hall,hlen⟩
theorem aJ2 (l:OpenLaw) (args:List WData):l.row.toRowW.claim.post args (.bool true) args=true:=
 postW_of (r:=l.row.toRowW) (X:=(true==true))
  (show WShape.has [] (.bool true) .bool=true by first|rfl|decide|simp [WShape.has,WShape.arms,WShape.armsAll])
  (show(WTm.eq .res (.lit (.bool true))).value [] {args:=args,res:=some (.bool true),after:=args}=some (.bool (true==true))from w_eq_bool (w_res rfl) w_lit) rfl
theorem aDu {l:OpenLaw} {n:Nat} {q:Program} {loose:List Str} {XP:(Str->Option Value)->Heap->Prop} {YP:World->Heap->Prop} {d:DefRec}
  (hn:l.most=some n) (hdf:d.params.defaults=[])
  (call:∀(w:World) (s₀ s₁:Shared) (mg mb:Str->Option Value) (fa:Addr) (o:Obj) (pm cd doc:Value) (a:Addr) (vs:List Value) (ns:List Int),
   Ground q loose [] XP w s₀ mg mb s₁.heap->YP w s₁.heap->
   s₁.heap.get? fa=some o->o.data= .func (docDef d.name d.params d.body d.scope pm cd doc)->s₁.heap.CodeRec cd d.name->mg d.name=some (.ref fa)->
   s₁.heap.get? a=some {cls:= .type "list",data:= .seq vs.toArray}->IntsAre vs ns->ns.length<=n->s₁.gens= #[]->
   codeAny (model l.prog w) callerA (.call (.ref fa) ⟨[.ref a],[]⟩) (fun r s'=>r= .ok (.ret (.bool true))/\OldK s₁.heap s'.heap/\s'.os=s₁.os/\AllBare s'.gens) s₁):
  WalkO q loose XP YP l.row.toRowW d [] (fun f vs=>PySem.call f vs):=by
 intro w s₀ s₁ mg mb G Y fa o pm cd doc dV kV ho hd hcd hD hmg hg args vals as hpre hlay hrd hwl hlo
 obtain rfl:dV= .none:=Dflts.none hD hdf
 obtain rfl:kV= .none:=Dflts.noKw hD
 obtain⟨a,vs,ns,rfl,rfl,hobj,hints,hlen⟩:=aJ6 hn hpre hwl
 refine enter_call (codeAny_mono (call w s₀ s₁ mg mb fa o pm cd doc a vs ns G Y ho (fd_plain hd) hcd hmg hobj hints hlen hg) fun r s' hq=>?_)
 obtain⟨rfl,h2,h3,h4⟩:=hq
 exact⟨.inl ⟨.bool true,.bool true,[],rfl,fun _=>rfl,.bool true,aJ2 l _,fun _=>⟨List.Pairwise.nil,fun _ hm=>(nomatch hm)⟩⟩,h2,h3,h4⟩
section
variable {prog:Program} {w:World} {A:Around} {E:Value->Shared->Prop} {s:Shared} {K:Frag}
end
end Att
namespace L2
open PySem PySem.Spec PyProof.Rows
theorem aA9:∀{vs:List Value} {ns:List Int},IntsAre vs ns->Vals (ns.map V.int) vs
 |_,_,.nil=> .nil
 |_,_,.cons n t h=> .cons ⟨t,rfl⟩ (aA9 h)
def Only (H:Hp):Prop:=∀b,H b=none∨∃o xs,H b=some (.frz o (.lst xs))
theorem aOf {P:Program} {w:World} {K:PySem.W.Frag} {mg mb:Str->Option Value} {CX:CXT} {k:Nat} {fa a:Addr} {fd:FuncData} {x:Str} {sp:Sp} {s₁:Shared} {vs:List Value} {ns:List Int}
  (KX:K.In s₁.heap) (hns:s₁.heap.Ns mainGlobals mg) (hb:s₁.heap.Ns builtinsNs mb) (hbb:∀x:Str,x≠"__name__"->mb x=bootBuiltins x) (hlim:s₁.heap.NoLimit) (hg:s₁.gens= #[])
  (ha:s₁.heap.get? a=some {cls:= .type "list",data:= .seq vs.toArray}) (hi:IntsAre vs ns) (hl:ns.length<=sizeLine) (hr:eU k callerA)
  (F:∀base:Heap,K.In base->base.Ns mainGlobals mg->bC P w K mg base CX k fa fd [x] sp) (hbind:∀(s:Shared) (u:Value),BindsTo s fd ⟨[u],[]⟩ [(x,u)])
  (hsp:∀H:Hp,Only H->SqL K H a (ns.map V.int)->sp [.ref a] H (fun v _=>v= .bl true) fun _ _ _=>False)
  (hCX:∀H e s',CX [] H s₁ (fun _ _ _=>False) e s'->False):
  codeAny (model P w) callerA (.call (.ref fa) ⟨[.ref a],[]⟩) (fun r s'=>r= .ok (.ret (.bool true))/\OldK s₁.heap s'.heap/\s'.os=s₁.os/\AllBare s'.gens) s₁:=by
 have rv:=aA9 hi
 have lenV:=hi.length
 have core:∀H:Hp,Only H->SqL K H a (ns.map V.int)->HOk P w H s₁.heap->(∀b,H b≠none->b=a)->(H a≠none->K.lookup a=none)->
   codeAny (model P w) callerA (.call (.ref fa) ⟨[.ref a],[]⟩) (fun r s'=>r= .ok (.ret (.bool true))/\OldK s₁.heap s'.heap/\s'.os=s₁.os/\AllBare s'.gens) s₁:=by
  intro H hO hS hok hA hK
  have base_of:∀{b:Addr} {o:Obj},s₁.heap.get? b=some o->H b=none->(aBf s₁.heap H).get? b=some o:=fun e n=>aLa e n
  have noA:∀{b:Addr} {o:Obj} {es:Array DictEntry} {ep:Nat},s₁.heap.get? b=some o->o.data= .dict es ep->H b=none:=fun{b o es ep} e d=>by
   cases q:H b with
   |none=>rfl
   |some u=>
    have e':b=a:=hA b (by rw [q];simp)
    subst e'
    rw [ha]at e;cases e
    have d':Data.seq vs.toArray _=Data.dict es ep:=d
    cases d'
  have nsK:∀{b:Addr} {m:Str->Option Value},s₁.heap.Ns b m->(aBf s₁.heap H).Ns b m:=fun{b m} ⟨o,es,ep,e,d,r⟩=>⟨o,es,ep,base_of e (noA e d),d,r⟩
  have hKb:K.In (aBf s₁.heap H):=fun b o e=>base_of (KX b o e) (by
   cases q:H b with
   |none=>rfl
   |some u=>
    have e':b=a:=hA b (by rw [q];simp)
    subst e'
    rw [hK (by rw [q];simp)]at e;cases e)
  have hM:Mod K mg (aBf s₁.heap H):=⟨hKb,nsK hns,⟨mb,nsK hb,hbb⟩,let⟨mc,h1,h2⟩:=hlim;⟨mc,nsK h1,h2⟩⟩
  have e0:aGr P w K mg (aBf s₁.heap H) callerA [] s₁ H:=⟨rfl,hM,fun b o e=>aRg e,Nat.le_of_eq (aK1 _ _),trivial,fun b hb=>absurd (show b∈([]:List Addr)from hb) (by simp),hok,.of_eq hg⟩
  refine codeAny_mono ((F _ hKb (nsK hns)).run callerA [] s₁ H ⟨[.ref a],[]⟩ [.ref a] [.ref a] _ _ hr e0 (hbind s₁ (.ref a)) (.cons rfl .nil) (hsp H hO hS)) fun r s' h=>?_
  cases r with
  |error e=>exact(hCX H e s' h).elim
  |ok fl=>
   cases fl with
   |next=>exact False.elim h
   |brk=>exact False.elim h
   |cont=>exact False.elim h
   |ret u=>
    obtain⟨v,H',os,bare,un,hok',r',q⟩:=h
    have q':v= .bl true:=q
    subst q'
    obtain rfl:u=Value.bool true:=r'
    refine⟨rfl,OldK.of_keep fun b o e=>?_,os,bare⟩
    cases q:H b with
    |none=>exact un.keep b o e q (by intro z;exact absurd (show b∈([]:List Addr)from z) (by simp)) (by simp)
    |some u=>
     rcases hO b with z|⟨ob,xs,z⟩
     ·rw [q]at z;cases z
     ·have z2:=un.frzs b ob _ z
      obtain⟨e1,_⟩:=hok b _ z
      obtain⟨e2,_⟩:=hok' b _ z2
      rw [e]at e1;cases e1
      exact e2
 cases hk:K.lookup a with
 |some o=>
  have e:=KX a o hk
  rw [ha]at e
  cases e
  refine core (fun _=>none) (fun _=> .inl rfl) (.inr ⟨_,vs.toArray,_,hk,rfl,rfl,rfl,by rw [List.size_toArray,lenV];exact hl,by simpa using rv⟩) (fun b u z=>by have z':(none:Option HO)=some u:=z;cases z') (fun b z=>absurd rfl z) fun z=>absurd rfl z
 |none=>
  refine core (fun b=>if b=a then some (.frz {cls:= .type "list",data:= .seq vs.toArray} (.lst (ns.map V.int)))else none) (fun b=>?_) (.inl (.inr ⟨{cls:= .type "list",data:= .seq vs.toArray},if_pos rfl⟩)) (fun b u z=>?_) (fun b z=>?_) fun _=>hk
  ·by_cases hb:b=a
   ·exact .inr ⟨_,_,if_pos hb⟩
   ·exact .inl (if_neg hb)
  ·by_cases hb:b=a
   ·have z':=(if_pos hb).symm.trans z
    cases z'
    subst hb
    exact⟨ha,by rw [List.length_map];exact hl,vs,_,rv,ha⟩
   ·have z':=(if_neg hb).symm.trans z
    cases z'
  ·by_cases hb:b=a
   ·exact hb
   ·exact absurd (if_neg hb) z
end L2
namespace L2
open PySem PySem.Spec PyProof.Rows
theorem aG9 {l:PySem.W.OpenLaw} {n k:Nat} {q:Program} {loose:List Str} {XP:(Str->Option Value)->Heap->Prop} {YP:World->Heap->Prop} {d:DefRec} {K:Params->PySem.W.Frag} {CX:World->CXT} {sp:World->Sp} {x:Str}
  (hn:l.most=some n) (hn2:n<=sizeLine) (hdf:d.params.defaults=[]) (hr:eU k callerA)
  (hY:∀(w:World) (h:Heap),YP w h->(K w.params).In h)
  (F:∀(w:World) (mg:Str->Option Value) (fa:Addr) (h:Heap),(K w.params).In h->h.Ns mainGlobals mg->mg d.name=some (.ref fa)->
   ∃fd:FuncData,(∀(s:Shared) (u:Value),BindsTo s fd ⟨[u],[]⟩ [(x,u)])/\
    ∀base:Heap,(K w.params).In base->base.Ns mainGlobals mg->bC l.prog w (K w.params) mg base (CX w) k fa fd [x] (sp w))
  (hsp:∀(w:World) (H:Hp) (a:Addr) (ns:List Int),ns.length<=n->Only H->SqL (K w.params) H a (ns.map V.int)->sp w [.ref a] H (fun v _=>v= .bl true) fun _ _ _=>False)
  (hCX:∀(w:World) (H:Hp) (s:Shared) (e:Value) (s':Shared),CX w [] H s (fun _ _ _=>False) e s'->False):
  PySem.W.WalkO q loose XP YP l.row.toRowW d [] (fun f vs=>PySem.call f vs):=by
 refine Att.aDu hn hdf fun w s₀ s₁ mg mb fa o pm cd doc a vs ns G Y ho hd hcd hmg hobj hints hlen hg=>?_
 have KX:=hY w _ Y
 obtain⟨fd,hb,hF⟩:=F w mg fa _ KX G.T.g hmg
 exact aOf KX G.T.g G.T.b G.T.builtins G.T.nolimit hg hobj hints (Nat.le_trans hlen hn2) hr hF hb (fun H hO hS=>hsp w H a ns hlen hO hS) fun H e s'=>hCX w H s₁ e s'
end L2
/-THE LAST THEOREM (shape;LID,My.*are yours):
   My.Adr:a structure of the addresses that your layer names (classes,functions);My.Txt K t:a structure (Prop) of the equations over K;
   My.txt_mk:{K} {implicit addresses ..} (e1:nsIn K mainGlobals "law"=some (some (.ref f))) (e2:K.lookup f=some ⟨oc,od,.func (fnOf "law" "law" params body scope dV kV doc pm an cdv ct),sl⟩) (e3:codeIn K cdv "law"=true) .. :∃t,My.Txt K t
set_option maxRecDepth 100000 in
set_option maxHeartbeats 0 in
theorem PySem.Challenge.cw_LID_holds : PySem.Challenge.rw_LID.Holds := by
  w_on; o_law; k_head; (case hw => w_witness2)
  k_fill
  refine L2.aG9 (l := PySem.Challenge.rw_LID) (n := 63) (k := 40) (x := "script") (CX := fun w => ..) (sp := fun _ => My.sp_law) rfl (by decide) rfl ⟨rfl, by decide, by decide⟩ (fun w h Y => PySem.W.kIn_of Y) ?F ?S ?C
  case F =>
    intro w mg fa h KX G hmg
    have T : ∃ t, My.Txt (L2.KOf KX) t := by
      dsimp only [L2.KOf]                          -- K must stand as «<heap const> w.params» for k_is
      refine' My.txt_mk ?e1 ?e2 ?e3 ..
      (case e1 => PySem.W.k_is)                    -- in the order: a name -> its address -> its object -> its parts
      (case e2 => PySem.W.k_is)
      ..
    obtain ⟨t, T⟩ := T
    have e0 := hmg.symm.trans (PySem.W.mg_of KX G T.law)
    cases e0                                       -- fa is the law's own address
    exact ⟨_, fun s u => .of_eq rfl, fun base kb nb => My.law_fn T kb nb⟩     -- if «.of_eq rfl» comes too early: refine' ⟨_, ?b, fun base kb nb => My.law_fn T kb nb⟩; exact fun s u => .of_eq rfl
  case S => exact fun w H a ns hl hO hS => ..
  case C => exact ..
(the tactic k_is has no namespace:write k_is)-/
namespace L2
open PySem PySem.Spec PyProof.Rows
def inClass (s:Stmt) (j:Nat):Stmt:=match s with
 | .ClassDef _ _ _ body _ _ _ _ _ _ _=>body.getD j (.Pass ⟨0,0,0,0⟩)
 |_=> .Pass ⟨0,0,0,0⟩
def jF (s:Stmt):Arguments:=match s with
 | .FunctionDef _ a _ _ _ _ _ _ _ _=>a
 |_=>{posonlyargs:=[],args:=[],vararg:=none,kwonlyargs:=[],kw_defaults:=[],kwarg:=none,defaults:=[]}
def gF (s:Stmt):List Stmt:=match s with
 | .FunctionDef _ _ b _ _ _ _ _ _ _=>b
 |_=>[]
def aH (s:Stmt):Scope:=match s with
 | .FunctionDef _ _ _ _ _ _ sc _ _ _=>sc
 |_=>{kind:= .function,names:=[],isGenerator:=false,isCoroutine:=false}
abbrev CX0:CXT:=fun _ _ _ _ _ _=>False
abbrev E0:XK:=fun _ _ _=>False
theorem aP {X:Cx}:kO CX0 X E0:=fun _ _ _ _ _ _ _ h=>h.elim
structure Fun (K:PySem.W.Frag) (x qual:Str) (st:Stmt) (f:Addr) (fd:FuncData):Prop where
 ex:∃(oc:Value) (od:Option Addr) (kV doc pm:Value) (an:Option Addr) (cdv ct:Value) (osl:Array (Option Value)),
  fd=PySem.W.fnOf x qual (jF st) (gF st) (aH st) .none kV doc pm an cdv ct/\K.lookup f=some ⟨oc,od,.func fd,osl⟩/\PySem.W.codeIn K cdv qual=true
 kp:PySem.W.keepIn K (.ref f)=true
section
variable {P:Program} {w:World} {K:PySem.W.Frag} {mg:Str->Option Value} {base:Heap}
theorem Fun.ok {x qual:Str} {st:Stmt} {f:Addr} {fd:FuncData} {N ps:List Str} {k:Nat} {sp:Sp} (F:Fun K x qual st f fd) (S:aM N ps (aH st)) (len:∀vs H Q E,sp vs H Q E->vs.length=ps.length)
  (hbody:∀(cdv:Value) (A:Around) (outer:List Env) (s:Shared) (H:Hp) (vs:List V) (Q:VK) (E:XK),eU k (A.deeper (envOfC qual (aH st) s.heap.objs.size f cdv))->sp vs H Q E->
   ∃t,PSs (aBs CX0 P w K mg base N qual (aH st) f cdv A outer s H E).nox (gF st) t/\t {nx:=fun _ H'=>Q .non H',rt:=Q} (start N vs) H):bC P w K mg base CX0 (k+1) f fd ps sp:=by
 obtain⟨oc,od,kV,doc,pm,an,cdv,ct,osl,rfl,lk,hcd⟩:=F.ex
 refine aSh lk hcd S len fun A outer s H vs Q E hr hsp=>?_
 obtain⟨t,h,q⟩:=hbody cdv A outer s H vs Q E hr hsp
 exact⟨t,h.nox,q⟩
theorem Fun.binds {x qual:Str} {st:Stmt} {f:Addr} {fd:FuncData} {ps:List Str} (F:Fun K x qual st f fd)
  (h:∀(kV doc pm:Value) (an:Option Addr) (cdv ct:Value) (us:List Value),us.length=ps.length->bindArgs (PySem.W.fnOf x qual (jF st) (gF st) (aH st) .none kV doc pm an cdv ct) ⟨us,[]⟩=pure (ps.zip us)):Binds K fd ps []:=by
 obtain⟨oc,od,kV,doc,pm,an,cdv,ct,osl,rfl,lk,hcd⟩:=F.ex
 exact .all (h kV doc pm an cdv ct)
theorem aSu {x qual:Str} {st:Stmt} {f:Addr} {oc:Value} {od an:Option Addr} {osl:Array (Option Value)} {kV doc pm cdv ct:Value} (l:K.lookup f=some ⟨oc,od,.func (PySem.W.fnOf x qual (jF st) (gF st) (aH st) .none kV doc pm an cdv ct),osl⟩)
  (c:PySem.W.codeIn K cdv qual=true) (k:PySem.W.keepIn K (.ref f)=true):Fun K x qual st f (PySem.W.fnOf x qual (jF st) (gF st) (aH st) .none kV doc pm an cdv ct):=⟨⟨oc,od,kV,doc,pm,an,cdv,ct,osl,rfl,l,c⟩,k⟩
end
section
variable {X:Cx}
theorem pv (i:Nat) {x:Str} {pos:Pos} (hN:X.N[i]? =some x:=by rfl) (hv:Vis X.env.scope x:=by first|exact Or.inl rfl|exact Or.inr (Or.inl rfl)|exact Or.inr (Or.inr rfl)) (hd:(x==("__debug__":Str))=false:=by decide)
  (hcd:(x==("__classdict__":Str))=false:=by decide):PE X (.Name x pos) (aUd i):=aTr hN hv hd hcd
end
theorem fU {A B:Prop} (h:B):if false=true then A else B:=by
 rw [if_neg Bool.false_ne_true]
 exact h
theorem nO {A B:Prop} (h:A):if true=true then A else B:=by
 rw [if_pos rfl]
 exact h
theorem aWo {c A B:Prop} [Decidable c] (h1:c->A) (h2:¬c->B):if c then A else B:=by
 by_cases h:c
 ·rw [if_pos h]
  exact h1 h
 ·rw [if_neg h]
  exact h2 h
theorem aEr {c A B:Prop} [Decidable c] (hc:c) (h:B):if(!decide c)=true then A else B:=by
 rw [decide_eq_true hc]
 exact fU h
def bA (H H':Hp):Prop:=∀b o,H b=some o->H' b=some o
theorem bA.refl (H:Hp):bA H H:=fun _ _ h=>h
theorem bA.trans {H H1 H2:Hp} (a:bA H H1) (b:bA H1 H2):bA H H2:=fun c o h=>b c o (a c o h)
theorem bA.free {H H':Hp} (e:bA H H') {l:Addr} (h:H' l=Option.none):H l=Option.none:=by
 cases q:H l with
 |none=>rfl
 |some o=>
  rw [e l o q]at h
  cases h
end L2
set_option maxHeartbeats 4000000
namespace L2
open PySem PySem.Spec PyProof.Rows
section
variable {κ:Type} [DecidableEq κ]
def uP (kvs:List (κ×V)) (k:κ):Option V:=(kvs.find? fun kv=>decide (kv.1=k)).map (·.2)
def putK (kvs:List (κ×V)) (k:κ) (v:V):List (κ×V):=
 if(kvs.any fun kv=>decide (kv.1=k))=true then kvs.map (fun kv=>if kv.1=k then(kv.1,v)else kv)else kvs++[(k,v)]
theorem eZ {p:κ×V} {r:List (κ×V)} {k:κ} (e:p.1=k):uP (p::r) k=some p.2:=by simp [uP,List.find?_cons,e]
theorem eY {p:κ×V} {r:List (κ×V)} {k:κ} (e:¬p.1=k):uP (p::r) k=uP r k:=by simp [uP,List.find?_cons,e]
theorem aEi (k:κ):∀kvs:List (κ×V),(kvs.any fun kv=>decide (kv.1=k))=(uP kvs k).isSome
 | []=>rfl
 |p::r=>by
  rw [List.any_cons]
  by_cases e:p.1=k
  ·simp only [eZ e,decide_eq_true e,Bool.true_or,Option.isSome_some]
  ·rw [eY e,decide_eq_false e,Bool.false_or];exact aEi k r
theorem oV (kvs:List (κ×V)) (k:κ) (v:V):(putK kvs k v).length<=kvs.length+1:=by
 unfold putK
 split
 ·rw [List.length_map];omega
 ·rw [List.length_append,List.length_cons,List.length_nil];omega
theorem oK.isSome_eq {o:Option V} {u:Option Value} (r:oK o u):o.isSome=u.isSome:=by
 cases o with
 |none=>cases u with
  |none=>rfl
  |some _=>exact(show False from r).elim
 |some _=>cases u with
  |none=>exact(show False from r).elim
  |some _=>rfl
theorem oK.getD {o:Option V} {u:Option Value} {d:V} {d':Value} (r:oK o u) (rd:RelV d d'):RelV (o.getD d) (u.getD d'):=by
 cases o with
 |none=>cases u with
  |none=>exact rd
  |some _=>exact(show False from r).elim
 |some _=>cases u with
  |none=>exact(show False from r).elim
  |some _=>exact r
theorem KV.val {kvs:List (κ×V)} {vs:List (κ×Value)} (r:KV kvs vs) (k:κ):oK (uP kvs k) (valueAt vs k):=by
 unfold KV at r
 induction r with
 |nil=>exact True.intro
 |@cons p q ps qs h t ih=>
  obtain⟨h1,h2⟩:=h
  by_cases e:p.1=k
  ·have e':q.1=k:=h1.symm.trans e
   have b:valueAt (q::qs) k=some q.2:=by simp [valueAt,List.find?_cons,e']
   rw [eZ e,b];exact h2
  ·have e':¬q.1=k:=fun z=>e (h1.trans z)
   have b:valueAt (q::qs) k=valueAt qs k:=by simp [valueAt,List.find?_cons,e']
   rw [eY e,b];exact ih
theorem KV.any {kvs:List (κ×V)} {vs:List (κ×Value)} (r:KV kvs vs) (k:κ):(kvs.any fun kv=>decide (kv.1=k))=vs.any fun kv=>decide (kv.1=k):=by
 unfold KV at r
 induction r with
 |nil=>rfl
 |cons h t ih=>rw [List.any_cons,List.any_cons,ih,h.1]
theorem KV.repl {kvs:List (κ×V)} {vs:List (κ×Value)} (r:KV kvs vs) (k:κ) {y:V} {u:Value} (ry:RelV y u):
  KV (kvs.map fun kv=>if kv.1=k then(kv.1,y)else kv) (vs.map fun kv=>if kv.1=k then(kv.1,u)else kv):=by
 unfold KV at r⊢
 induction r with
 |nil=>exact .nil
 |@cons p q ps qs h t ih=>
  rw [List.map_cons,List.map_cons]
  refine .cons ?_ ih
  obtain⟨h1,h2⟩:=h
  by_cases e:p.1=k
  ·rw [if_pos e,if_pos (h1.symm.trans e)];exact⟨h1,ry⟩
  ·rw [if_neg e,if_neg (fun z=>e (h1.trans z))];exact⟨h1,h2⟩
theorem KV.put {kvs:List (κ×V)} {vs:List (κ×Value)} (r:KV kvs vs) (k:κ) {y:V} {u:Value} (ry:RelV y u):KV (putK kvs k y) (stored vs k u):=by
 unfold putK stored
 rw [r.any k]
 by_cases e:(vs.any fun kv=>decide (kv.1=k))=true
 ·rw [if_pos e,if_pos e];exact r.repl k ry
 ·rw [if_neg e,if_neg e];exact Paired.snoc r ⟨rfl,ry⟩
theorem KV.length {kvs:List (κ×V)} {vs:List (κ×Value)} (r:KV kvs vs):kvs.length=vs.length:=Paired.length r
end
theorem aHm {P:Program} {w:World} {k:Key} {u:Value} (r:RelV (kV k) u):(dI P w).is k u=true:=by
 cases k with
 |inl i=>obtain⟨t,e⟩:=(show∃t,u=Value.int i t from r);subst e;exact aEm P w i t
 |inr x=>obtain⟨t,e⟩:=(show∃t,u=Value.str x t from r);subst e;exact aDl P w x t
theorem aAn {P:Program} {w:World}:∀{ks:List Key} {us:List Value},Vals (ks.map kV) us->ItemsAre (dI P w) ks us
 | [],_,r=>by rw [List.map_nil]at r;cases r;exact .nil
 |k::ks,_,r=>by
  rw [List.map_cons]at r
  cases r with
  |cons h t=>exact .cons (aHm h) (aAn t)
abbrev KT (H:Hp):List (List Key×V)->List (List Key×Addr×Value)->Prop:=Paired fun p q=>p.1=q.1/\H q.2.1=some (.tup (p.1.map kV))/\RelV p.2 q.2.2
theorem KT.val {H:Hp} {kvs:List (List Key×V)} {xs:List (List Key×Addr×Value)} (r:KT H kvs xs) (k:List Key):oK (uP kvs k) ((atKey xs k).map (·.2)):=by
 induction r with
 |nil=>exact True.intro
 |@cons p q ps qs h t ih=>
  obtain⟨h1,_,h2⟩:=h
  by_cases e:p.1=k
  ·have e':q.1=k:=h1.symm.trans e
   have b:atKey (q::qs) k=some q.2:=by simp [atKey,List.find?_cons,e']
   rw [eZ e,b];exact h2
  ·have e':¬q.1=k:=fun z=>e (h1.trans z)
   have b:atKey (q::qs) k=atKey qs k:=by simp [atKey,List.find?_cons,e']
   rw [eY e,b];exact ih
theorem KT.repl {H:Hp} {kvs:List (List Key×V)} {xs:List (List Key×Addr×Value)} (r:KT H kvs xs) (k:List Key) {y:V} {u:Value} (ry:RelV y u):
  KT H (kvs.map fun kv=>if kv.1=k then(kv.1,y)else kv) (xs.map (putAt k u)):=by
 induction r with
 |nil=>exact .nil
 |@cons p q ps qs h t ih=>
  rw [List.map_cons,List.map_cons]
  refine .cons ?_ ih
  obtain⟨h1,h2,h3⟩:=h
  unfold putAt
  by_cases e:p.1=k
  ·rw [if_pos e,if_pos (h1.symm.trans e)];exact⟨h1,h2,ry⟩
  ·rw [if_neg e,if_neg (fun z=>e (h1.trans z))];exact⟨h1,h2,h3⟩
theorem KT.put {H:Hp} {kvs:List (List Key×V)} {xs:List (List Key×Addr×Value)} (r:KT H kvs xs) (k:List Key) {b:Addr} {y:V} {u:Value} (hb:H b=some (.tup (k.map kV))) (ry:RelV y u):
  KT H (putK kvs k y) (storedH xs k b u):=by
 have e:(kvs.any fun kv=>decide (kv.1=k))=(atKey xs k).isSome:=by
  rw [aEi,(r.val k).isSome_eq,Option.isSome_map]
 unfold putK storedH
 rw [e]
 by_cases q:(atKey xs k).isSome=true
 ·rw [if_pos q,if_pos q];exact r.repl k ry
 ·rw [if_neg q,if_neg q];exact Paired.snoc r ⟨rfl,hb,ry⟩
theorem KT.keeps {H H':Hp} {kvs:List (List Key×V)} {xs:List (List Key×Addr×Value)} (r:KT H kvs xs) (ht:∀b ys,H b=some (.tup ys)->H' b=some (.tup ys)):KT H' kvs xs:=
 Paired.mapP r fun _ _ z=>⟨z.1,ht _ _ z.2.1,z.2.2⟩
section
variable {P:Program} {w:World} {H:Hp} {h:Heap} {a:Addr}
theorem aR2 {u:HO} (ok:HOk P w H h) (e:Rd H a u):cY P w H h a u:=e.ok ok
theorem aOl {kvs:List (Key×V)} (ok:HOk P w H h) (e:Rd H a (.dK kvs)):kvs.length<=sizeLine/\(a==sysModules)=false/\∃vs,KV kvs vs/\h.DictOf (dI P w) a vs:=
 show cY P w H h a (.dK kvs)from aR2 ok e
theorem aR1 {kvs:List (Key×V)} (ok:HOk P w H h) (e:H a=some (.dK kvs)):kvs.length<=sizeLine/\(a==sysModules)=false/\∃vs,KV kvs vs/\h.DictOf (dI P w) a vs:=aOl ok (.inl e)
theorem aF2 {ks:List Key} (ok:HOk P w H h) (e:H a=some (.tup (ks.map kV))):(tupleKind (dI P w)).is h ks a:=by
 obtain⟨_,its,r,o,h1,h2,n,h3⟩:=(show cY P w H h a (.tup (ks.map kV))from ok a _ e)
 exact⟨o,its.toArray,n,h1,h2,h3,by simpa using aAn r⟩
theorem aN6 {kvs:List (List Key×V)} (ok:HOk P w H h) (e:Rd H a (.dT kvs)):kvs.length<=sizeLine/\(a==sysModules)=false/\
  ∃xs,KT H kvs xs/\h.DictOfH (tupleKind (dI P w)) a xs:=by
 obtain⟨z,y,xs,r,o,es,ep,h1,h2,h3,h4,h5⟩:=(show cY P w H h a (.dT kvs)from aR2 ok e)
 refine⟨z,y,xs,r,o,es,ep,h1,h2,h3,h4,fun x hx=>?_,h5⟩
 have all:∀{l:List (List Key×V)} {m:List (List Key×Addr×Value)},KT H l m->∀x∈m,(tupleKind (dI P w)).is h x.1 x.2.1:=by
  intro l m q
  induction q with
  |nil=>intro x hx;exact nomatch hx
  |@cons p q ps qs hq t ih=>
   intro x hx
   rcases List.mem_cons.mp hx with e|hx
   ·subst e
    exact aF2 ok (by rw [<-hq.1];exact hq.2.1)
   ·exact ih x hx
 exact all r x hx
theorem aVd {kvs:List (List Key×V)} (ok:HOk P w H h) (e:H a=some (.dT kvs)):kvs.length<=sizeLine/\(a==sysModules)=false/\
  ∃xs,KT H kvs xs/\h.DictOfH (tupleKind (dI P w)) a xs:=aN6 ok (.inl e)
end
def aU1 (H:Hp) (a:Addr) (y:V) (r:Option V):Prop:=
 (∃kvs k,Rd H a (.dK kvs)/\y=kV k/\r=uP kvs k)∨∃kvs k b,Rd H a (.dT kvs)/\y= .ref b/\H b=some (.tup (k.map kV))/\r=uP kvs k
def aUp (H:Hp) (a:Addr) (y v:V) (H':Hp):Prop:=
 (∃kvs k,H a=some (.dK kvs)/\y=kV k/\kvs.length<sizeLine/\H'=upd H a (.dK (putK kvs k v)))∨
 ∃kvs k b,H a=some (.dT kvs)/\y= .ref b/\H b=some (.tup (k.map kV))/\kvs.length<sizeLine/\H'=upd H a (.dT (putK kvs k v))
section
variable {X:Cx} {pins:List (Addr×Obj)} {σ:St} {H:Hp} {s:Shared} {a:Addr} {y v:V} {u r:Value} {o:Option V} {A:Around} {E:Value->Shared->Prop}
theorem Inv.big (I:Inv X pins σ H s):sysModules<s.heap.objs.size:=by
 have h:mainGlobals<s.heap.objs.size:=(I.mod.glob.keeps I.bk).lt
 exact Nat.lt_trans (by decide) h
theorem aBo {h':Heap} {t':Nat} {ob:HO} (I:Inv X pins σ H s) (mu:Mut (H a)) (hs:Heap.SameBut a s.heap h') (he:∃q,h'.get? a=some q) (new:cY X.prog X.w (upd H a ob) h' a ob):
  Inv X pins σ (upd H a ob) {s with heap:=h',toks:=t'}:=
 I.write (x:=a) (e:=a) mu (.inl rfl) (fun b q hb z=>(hs.2 b hb).trans z) he new
theorem aNe {P:Program} {w:World} {H':Hp} {h':Heap} {kvs:List (Key×V)} {vs:List (Key×Value)} (z:kvs.length<=sizeLine) (hd:(a==sysModules)=false) (rel:KV kvs vs) (dd:h'.DictOf (dI P w) a vs):
  cY P w H' h' a (.dK kvs):=⟨z,hd,vs,rel,dd⟩
theorem aJx {H':Hp} {Q:Unit->Shared->Prop} (hu:A.units+1<cLine) (I:Inv X pins σ H s) (g:aUp H a y v H') (ry:RelV y u) (rv:RelV v r) (h:∀s',Inv X pins σ H' s'->Q () s'):
  wpAny (model X.prog X.w) A (setItem (.ref a) u r) Q E s:=by
 rcases g with ⟨kvs,k,e,ey,l,eH⟩|⟨kvs,k,b,e,ey,eb,l,eH⟩
 ·subst ey eH
  obtain⟨z,hd,vs,rel,dd⟩:=aR1 I.hok e
  have hz:vs.length<=sizeLine:=by rw [<-rel.length];exact z
  have hl:(putK kvs k v).length<=sizeLine:=by have:=oV kvs k v;omega
  refine wpAny_setItem_pairs (hsz:=hz) (aHm ry) dd fun h' dd' hs=>h _ ?_
  have he:∃q,h'.get? a=some q:=let⟨q,_,_,hq,_⟩:=dd';⟨q,hq⟩
  exact aBo I (by rw [e];exact True.intro) hs he (aNe hl hd (rel.put k rv) dd')
 ·subst ey eH
  cases (show u=Value.ref b from ry)
  obtain⟨z,hd,xs,rel,dd⟩:=aVd I.hok e
  have hz:xs.length<=sizeLine:=by rw [<-Paired.length rel];exact z
  have hl:(putK kvs k v).length<=sizeLine:=by have:=oV kvs k v;omega
  refine wpAny_setItem_heap (hsz:=hz) (tupleKind_room_in1 hu) (aF2 I.hok eb) dd fun h' dd' hs=>h _ ?_
  obtain⟨q,es,ep,hq,h2,h3,h4,_,h5⟩:=dd'
  refine aBo I (by rw [e];exact True.intro) hs ⟨q,hq⟩ ⟨hl,hd,_,(rel.put k eb rv).keeps fun c ys ec=>?_,q,es,ep,hq,h2,h3,h4,h5⟩
  rw [aX (aR6 ec e (fun z=>nomatch z))]
  exact ec
end
section
variable {X:Cx} {pins:List (Addr×Obj)} {σ:St} {H:Hp} {s:Shared} {a:Addr} {kvs:List (Key×V)} {k:Key} {u:Value} {A:Around} {E:Value->Shared->Prop}
end
def aUm (td ty tv:TE):TS:=fun D σ H=>tv σ H fun v H1=>td σ H1 fun x H2=>ty σ H2 fun y H3=>∃a H4,x= .ref a/\aUp H3 a y v H4/\D.nx σ H4
section
variable {X:Cx} {o i e value:Expr} {pos pos' tpos:Pos} {td ty tv:TE}
theorem aQ8 (hu:X.A.units+1<cLine) (ho:PE X o td) (hi:PE X i ty) (hv:PE X value tv) (hs:swapsWith value (some (.Subscript o i pos')) pos.line X.env=pure false):
  PS X (.Assign [.Subscript o i pos'] value pos) (aUm td ty tv):=by
 intro pins s σ H D I h
 refine wpAny_Assign_Subscript (thn (hv pins s σ H _ I h) fun r s1 ⟨v,H1,I1,rv,q1⟩=>thn (ho pins s1 σ H1 _ I1 q1) fun u s2 ⟨x,H2,I2,rx,q2⟩=>thn (hi pins s2 σ H2 _ I2 q2) fun iv s3 ⟨y,H3,I3,ry,a,H4,ex,g,q3⟩=>?_) hs
 subst ex
 obtain rfl:u=Value.ref a:=rx
 exact aJx hu I3 g ry rv fun s4 I4=>⟨σ,H4,I4,q3⟩
end
theorem aN7 {P:Program} {w:World} {H:Hp} (h:Heap) (hb:sysModules<h.objs.size):cY P w H (h.push {cls:= .type "dict",data:= .dict #[]}) h.objs.size (.dK []):=
 ⟨Nat.zero_le _,beq_eq_false_iff_ne.mpr (Ne.symm (Nat.ne_of_lt hb)),[],.nil,Heap.DictOf.new h⟩
section
variable {X:Cx} {pos:Pos}
end
def aFw:List (TE×TE)->St->Hp->(List (V×V)->Hp->Prop)->Prop
 | [],_,H,Q=>Q [] H
 |(tk,tv)::r,σ,H,Q=>tk σ H fun x H1=>tv σ H1 fun y H2=>aFw r σ H2 fun ps H3=>Q ((x,y)::ps) H3
abbrev VV:List (V×V)->List (Value×Value)->Prop:=Paired fun p q=>RelV p.1 q.1/\RelV p.2 q.2
def PPs (X:Cx) (pos:Pos) (keys:List (Option Expr)) (values:List Expr) (trs:List (TE×TE)):Prop:=
 ∀(pins:List (Addr×Obj)) (s:Shared) (σ:St) (H:Hp) (Q:List (V×V)->Hp->Prop),Inv X pins σ H s->aFw trs σ H Q->
  wpAny (model X.prog X.w) X.A (evalPairs (pairTrees keys values X.env pos)) (fun vs s'=>∃ps H',Inv X pins σ H' s'/\VV ps vs/\Q ps H') X.xe s
theorem aIc {X:Cx} {pos:Pos}:PPs X pos [] [] []:=fun pins s σ H Q I h=>pairTrees_nil_walk ⟨[],H,I,.nil,h⟩
theorem iQ {X:Cx} {pos:Pos} {k v:Expr} {ks:List (Option Expr)} {vs:List Expr} {tk tv:TE} {trs:List (TE×TE)} (hk:PE X k tk) (hv:PE X v tv) (hr:PPs X pos ks vs trs):
  PPs X pos (some k::ks) (v::vs) ((tk,tv)::trs):=fun pins s σ H Q I h=>
 pairTrees_cons_walk (thn (hk pins s σ H _ I h) fun u s1 ⟨x,H1,I1,rx,q1⟩=>thn (hv pins s1 σ H1 _ I1 q1) fun w2 s2 ⟨y,H2,I2,ry,q2⟩=>
  thn (hr pins s2 σ H2 _ I2 q2) fun ws s3 ⟨ps,H3,I3,rel,q3⟩=>⟨(x,y)::ps,H3,I3,.cons ⟨rx,ry⟩ rel,q3⟩)
def jU (kvs more:List (Key×V)):List (Key×V):=more.foldl (fun acc kv=>putK acc kv.1 kv.2) kvs
theorem KV.merge:∀{more:List (Key×V)} {rs:List (Key×Value)} {kvs:List (Key×V)} {vs:List (Key×Value)},KV more rs->KV kvs vs->KV (jU kvs more) (merged vs rs):=by
 intro more rs kvs vs r
 unfold KV at r
 induction r generalizing kvs vs with
 |nil=>intro q;exact q
 |@cons p q ps qs h t ih=>
  intro r0
  have e:KV (putK kvs p.1 p.2) (stored vs q.1 q.2):=by
   have:=r0.put p.1 h.2
   rw [<-h.1];exact this
  exact ih e
theorem pK:∀(more kvs:List (Key×V)),(jU kvs more).length<=kvs.length+more.length
 | [],kvs=>by show kvs.length<=kvs.length+0;omega
 |p::r,kvs=>by
  have h1:=pK r (putK kvs p.1 p.2)
  have h2:=oV kvs p.1 p.2
  show(jU (putK kvs p.1 p.2) r).length<=_
  rw [List.length_cons];omega
theorem zE {P:Program} {w:World}:∀{kvs:List (Key×V)} {ws:List (Value×Value)},VV (kvs.map fun kv=>(kV kv.1,kv.2)) ws->∃rs,Carries (dI P w) ws rs/\KV kvs rs
 | [],_,r=>by rw [List.map_nil]at r;cases r;exact⟨[],True.intro,.nil⟩
 |p::kvs,_,r=>by
  rw [List.map_cons]at r
  cases r with
  |@cons a b as bs h t=>
   obtain⟨rs,c,q⟩:=zE (P:=P) (w:=w) t
   obtain⟨b1,b2⟩:=b
   exact⟨(p.1,b2)::rs,⟨aHm h.1,rfl,c⟩,.cons ⟨rfl,h.2⟩ q⟩
def aVp (trs:List (TE×TE)):TE:=fun σ H Q=>∀p,H p=none->aFw trs σ (upd H p (.dK [])) fun ps H2=>H2 p=some (.dK [])/\∃kvs:List (Key×V),ps=kvs.map (fun kv=>(kV kv.1,kv.2))/\kvs.length<=15/\Q (.ref p) (upd H2 p (.dK (jU [] kvs)))
theorem aH9 {X:Cx} {pos:Pos} {keys:List (Option Expr)} {values:List Expr} {trs:List (TE×TE)} (h:PPs X pos keys values trs) (hall:keys.all (·.isSome)=true) (hl:keys.length=values.length) (h0:keys≠[])
  (h15:keys.length<=15):PE X (.Dict keys values pos) (aVp trs):=by
 intro pins s σ H Q I q
 have hn:=I.hok.fresh (Nat.le_refl s.heap.objs.size)
 have I1:=I.laid (a:=s.heap.objs.size) (o:= .dK []) (h':=s.heap.push {cls:= .type "dict",data:= .dict #[]}) (t':=s.toks) (fun _ _ q=>Heap.get?_push_of_some _ q) (Nat.le_refl _) (aN7 s.heap I.big)
 refine wpAny_Dict_walk (knd:=dI X.prog X.w) hall hl h0 h15 (thn (h pins _ σ _ _ I1 (q _ hn)) fun ws s2 ⟨ps,H2,I2,rel,e,kvs,ep,lk,q2⟩=>?_)
 subst ep
 obtain⟨rs,c,rk⟩:=zE (P:=X.prog) (w:=X.w) rel
 obtain⟨z,hd,vs0,r0,dd⟩:=aR1 I2.hok e
 cases r0
 refine⟨rs,c,dd,fun h' dd' hs=>⟨.ref s.heap.objs.size,_,?_,rfl,q2⟩⟩
 have hz:(jU [] kvs).length<=sizeLine:=by
  have h1:=pK kvs []
  rw [List.length_nil]at h1
  rw [sizeLine_eq];omega
 have he:∃q,h'.get? s.heap.objs.size=some q:=let⟨q,_,_,hq,_⟩:=dd';⟨q,hq⟩
 exact aBo I2 (by rw [e];exact True.intro) hs he (aNe hz hd (rk.merge .nil) dd')
structure M2 (X:Cx) (o:Expr) (m:Str) (apos:Pos) (e f:Expr) (cpos:Pos):Prop where
 base:attributeBase o m X.env (eval o X.env)=eval o X.env
 few:((backTo cpos (starEach [e,f] X.env)).all (fun x=> !x.1) && (backToKw cpos (keywordEach [] X.env)).all (fun x=>x.1.isSome)
  && decide (([e,f]:List Expr).length+([]:List Keyword).length+(if([]:List Keyword).isEmpty then 0 else 1)<30))=true
 line:(apos.endLine==cpos.line)=true
 trees:backTo cpos (starEach [e,f] X.env)=[(false,eval e X.env),(false,eval f X.env)]
def IsD (H:Hp) (a:Addr):Prop:=(∃kvs,Rd H a (.dK kvs))∨∃kvs,Rd H a (.dT kvs)
theorem aTp {X:Cx} {pins:List (Addr×Obj)} {σ:St} {H:Hp} {s:Shared} {a:Addr} (I:Inv X pins σ H s) (d:IsD H a):
  s.TypeIs (.ref a) "dict"/\(∀b,Value.ref a= .ref b->∃ob,s.heap.get? b=some ob/\ob.dict=none)/\(a==sysModules)=false:=by
 rcases d with ⟨kvs,e⟩|⟨kvs,e⟩
 ·obtain⟨_,hd,vs,_,dd⟩:=aOl I.hok e
  refine⟨dd.typeIs,fun b q=>?_,hd⟩
  cases q
  obtain⟨ob,_,_,h1,h2,_⟩:=dd
  exact⟨ob,h1,h2.2.1⟩
 ·obtain⟨_,hd,xs,_,dd⟩:=aN6 I.hok e
  refine⟨dd.typeIs,fun b q=>?_,hd⟩
  cases q
  obtain⟨ob,_,_,h1,h2,_⟩:=dd
  exact⟨ob,h1,h2.2.1⟩
section
variable {X:Cx} {pins:List (Addr×Obj)} {σ:St} {H:Hp} {s:Shared} {a:Addr} {y d:V} {u r:Value} {o:Option V} {A:Around} {E:Value->Shared->Prop}
theorem aTl {Q:Value->Shared->Prop} (hu:A.units+1<cLine) (I:Inv X pins σ H s) (g:aU1 H a y o) (ry:RelV y u) (rd:RelV d r) (h:∀w' s',Inv X pins σ H s'->RelV (o.getD d) w'->Q w' s'):
  wpAny (model X.prog X.w) A (call (.builtin "dict.get") [.ref a,u,r]) Q E s:=by
 rcases g with ⟨kvs,k,e,ey,l⟩|⟨kvs,k,b,e,ey,eb,l⟩
 ·subst ey
  obtain⟨z,hd,vs,rel,dd⟩:=aOl I.hok e
  refine call_meetsIn PySem.F.slot_dict_get dd.typeIs PySem.F.entry_dict_get (PySem.F.args_dict_get_3 _ _ _) (meets_dict_get_default (dI X.prog X.w) a (aHm ry) hd r) ⟨_,dd.mapOf,h _ _ (I.tok _) ?_⟩
  rw [l]
  exact(rel.val k).getD rd
 ·subst ey
  cases (show u=Value.ref b from ry)
  obtain⟨z,hd,xs,rel,dd⟩:=aN6 I.hok e
  refine call_meetsIn PySem.F.slot_dict_get dd.typeIs PySem.F.entry_dict_get (PySem.F.args_dict_get_3 _ _ _) (meetsH_dict_get_default (tupleKind (dI X.prog X.w)) a b hd r) ⟨tupleKind_room_in1 hu,k,xs,aF2 I.hok eb,dd,h _ _ (I.tok _) ?_⟩
  rw [l]
  exact(rel.val k).getD rd
end
def aTh (td ty tx:TE):TE:=fun σ H Q=>td σ H fun x H1=>∃a,x= .ref a/\IsD H1 a/\ty σ H1 fun y H2=>tx σ H2 fun z H3=>∃o,aU1 H3 a y o/\Q (o.getD z) H3
section
variable {X:Cx} {o e f:Expr} {apos cpos:Pos} {td ty tx:TE}
theorem aD3 (hu:X.A.units+1<cLine) (ho:PE X o td) (he:PE X e ty) (hf:PE X f tx) (m:M2 X o "get" apos e f cpos):PE X (.Call (.Attribute o "get" apos) [e,f] [] cpos) (aTh td ty tx):=by
 intro pins s σ H Q I h
 refine wpAny_Call_method m.base m.few m.line PySem.F.plainAttrs_dict PySem.F.slot_dict_get PySem.F.type_dict_get (thn (ho pins s σ H _ I h) fun u s1 ⟨x,H1,I1,rx,a,ex,d,q1⟩=>?_)
 subst ex
 obtain rfl:u=Value.ref a:=rx
 obtain⟨t1,t2,_⟩:=aTp I1 d
 refine⟨t1,t2,?_⟩
 rw [m.trees]
 refine Calls.callWith_builtin rfl (Calls.evalArgs_plain (Calls.spliced_cons (thn (he pins s1 σ H1 _ I1 q1) fun iv s2 ⟨y,H2,I2,ry,q2⟩=>
  Calls.spliced_cons (thn (hf pins s2 σ H2 _ I2 q2) fun fv s3 ⟨z,H3,I3,rz,ov,g,q3⟩=>Calls.spliced_nil ?_))))
 exact aTl hu I3 g ry rz fun w' s4 I4 rw'=>⟨_,H3,I4,rw',q3⟩
end
section
variable {X:Cx} {pins:List (Addr×Obj)} {σ:St} {H:Hp} {s:Shared} {a:Addr} {kvs:List (Key×V)} {A:Around} {E:Value->Shared->Prop}
end
section
variable {X:Cx} {pins:List (Addr×Obj)} {σ:St} {H:Hp} {s:Shared} {a:Addr} {y:V} {u:Value} {A:Around} {E:Value->Shared->Prop}
end
end L2
namespace L2
open PySem PySem.Spec PyProof.Rows
section
variable {X:Cx}
end
section
variable {κ:Type} [DecidableEq κ]
end
end L2
namespace PySem
open AutoSeq1 (wpAny_loadPart')
open Sem (wp)
section
variable {prog:Program} {w:World} {A:Around} {E:Value->Shared->Prop} {s:Shared}
end
section
variable {prog:Program} {w:World} {A:Around} {E:Value->Shared->Prop} {s:Shared}
end
end PySem
namespace PySem
open Sem (wp)
section
variable {prog:Program} {w:World} {K:Type} [DecidableEq K] (knd:KeyKind prog w K)
def bL (h:Heap) (x:K×List K) (a:Addr):Prop:=∃o v b n,h.get? a=some o/\o.cls= .type "tuple"/\o.data= .seq #[v,.ref b] n/\knd.is x.1 v=true/\IsTupleKey knd h x.2 b
def oE (x:K×List K):Int:=reduceHash (Builtin.Tuple.tupleHashOf [knd.hash x.1,tupleKeyHash knd x.2])
variable {knd}
theorem bL.typeIs {s:Shared} {x:K×List K} {a:Addr} (h:bL knd s.heap x a):s.TypeIs (.ref a) "tuple":=let⟨o,_,_,_,ho,hc,_⟩:=h;⟨o,ho,hc⟩
theorem bL.inj {h:Heap} {a:Addr} {x y:K×List K} (hx:bL knd h x a) (hy:bL knd h y a):x=y:=by
 obtain⟨o,v,b,n,ho,_,hd,h1,h2⟩:=hx
 obtain⟨o',v',b',n',ho',_,hd',h1',h2'⟩:=hy
 obtain rfl:o=o':=Option.some.inj (ho.symm.trans ho')
 rw [hd]at hd'
 injection hd' with e _
 have e1:v=v'/\b=b':=by simpa using e
 obtain⟨rfl,rfl⟩:=e1
 exact Prod.ext (knd.inj _ _ _ h1 h1') (h2.inj h2')
theorem bL.keeps {h h':Heap} {x:K×List K} {a d:Addr} {o:Obj} {es ep} (hx:bL knd h x a) (ho:h.get? d=some o) (hd:o.data= .dict es ep) (hs:Heap.SameBut d h h'):bL knd h' x a:=by
 obtain⟨o',v,b,n,ho',hc,hd',h1,h2⟩:=hx
 have hne:a≠d:=by
  rintro rfl
  obtain rfl:o'=o:=Option.some.inj (ho'.symm.trans ho)
  rw [hd]at hd';exact nomatch hd'
 exact⟨o',v,b,n,(hs.2 a hne).trans ho',hc,hd',h1,h2.keeps ho hd hs⟩
variable {A:Around} {E:Value->Shared->Prop} {s:Shared}
theorem rB {x:K×List K} {a:Addr} {Q:Int->Shared->Prop} (hu:A.units+1<cLine) (hk:bL knd s.heap x a) (h:Q (oE knd x) {s with toks:=s.toks+(x.2.length+3)}):
  wpAny (model prog w) A (pyHash (.ref a)) Q E s:=by
 have hT:=hk.typeIs
 obtain⟨o,v,b,n,ho,_,hd,h1,h2⟩:=hk
 unfold pyHash
 first|unfold pyHashByItsType|skip
 first|refine wpAny_bind (wpAny_cRoomFor_or (.inr (by omega)) ?_)|skip
 refine wpAny_bind (wpAny_specialOf hT F.slot_tuple_hash.lookup ?_)
 show wpAny _ _ (if(some (Value.builtin "tuple.__hash__")==some Value.none)=true then _ else _) Q E s
 rw [if_neg (by rw [beq_builtin_none];exact Bool.false_ne_true)]
 refine wpAny_bind (wpAny_specialOf hT F.slot_tuple_hash.lookup ?_)
 show wpAny _ _ (callSpecialIfBoundUnlessNone? (.ref a) "__hash__" _>>=_) Q E s
 refine wpAny_bind (wpAny_callSpecialIfBoundUnlessNone?_slot hT F.slot_tuple_hash (wpAny_call_entry F.slot_tuple_hash hT F.entry_tuple_hash ?_ (F.args_tuple_hash_1 _)))
 show wpAny _ _ (Builtin.Tuple.tupleItemsOf (.ref a)>>=_) _ _ s
 refine wpAny_bind (wpAny_tupleItemsOf ho hd ?_)
 refine wpAny_bind ?_
 rw [<-Array.forIn_toList]
 refine wpAny_forIn_list _
  (fun rest (r:Array Int) s'=>(rest=[v,.ref b]/\r= #[]/\s'=s)∨(rest=[.ref b]/\r= #[knd.hash x.1]/\s'={s with toks:=s.toks+1})∨(rest=[]/\r= #[knd.hash x.1,tupleKeyHash knd x.2]/\s'={s with toks:=s.toks+1+(x.2.length+1)}))
  _ ?_ ?_ _ _ (.inl ⟨rfl,rfl,rfl⟩)
 ·rintro y rest r s' (⟨e,rfl,rfl⟩|⟨e,rfl,rfl⟩|⟨e,_,_⟩)
  ·obtain⟨rfl,rfl⟩:=List.cons.inj e
   refine wpAny_bind (knd.pyHash h1 ?_)
   exact wpAny_pure (.inr (.inl ⟨rfl,rfl,rfl⟩))
  ·obtain⟨rfl,rfl⟩:=List.cons.inj e
   refine wpAny_bind (wpAny_pyHash_tuple (show A.in1.units<cLine from hu) h2 ?_)
   exact wpAny_pure (.inr (.inr ⟨rfl,rfl,rfl⟩))
  ·cases e
 ·rintro r s' (⟨e,_,_⟩|⟨e,_,_⟩|⟨_,rfl,rfl⟩)
  ·cases e
  ·cases e
  ·show wpAny _ _ (retInt (Builtin.Tuple.tupleHashOf [knd.hash x.1,tupleKeyHash knd x.2])) _ _ _
   refine wpAny_ret_mkInt ?_
   show wpAny _ _ (if(decide (-(2:Int) ^ 63<=Builtin.Tuple.tupleHashOf [knd.hash x.1,tupleKeyHash knd x.2]) && decide (Builtin.Tuple.tupleHashOf [knd.hash x.1,tupleKeyHash knd x.2]<2 ^ 63))=true then _ else _) Q E _
   have et:s.toks+1+(x.2.length+1)+1=s.toks+(x.2.length+3):=by omega
   unfold oE reduceHash at h
   by_cases hr:(decide (-(2:Int) ^ 63<=Builtin.Tuple.tupleHashOf [knd.hash x.1,tupleKeyHash knd x.2]) && decide (Builtin.Tuple.tupleHashOf [knd.hash x.1,tupleKeyHash knd x.2]<2 ^ 63))=true
   ·rw [if_pos hr]
    rw [if_pos hr, <-et]at h
    exact wpAny_pure h
   ·rw [if_neg hr]
    rw [if_neg hr, <-et]at h
    exact wpAny_bind (wpAny_rule (wpAny_pure h))
theorem aB4 {x y:K×List K} {a b:Addr} {P:Fin->Shared->Prop} (hu:A.units<cLine) (hx:bL knd s.heap x a) (hy:bL knd s.heap y b) (h:P (.done (.ret (.bool (decide (x=y))))) s):
  wpAny (model prog w) A (Builtin.«tuple.__eq__» ⟨[.ref a,.ref b],[]⟩) P E s:=by
 have hTb:=hy.typeIs
 obtain⟨oa,va,ba,na,hoa,_,hda,h1,h2⟩:=hx
 obtain⟨ob,vb,bb,nb,hob,_,hdb,h1',h2'⟩:=hy
 show wpAny _ _ (isInstance (.ref b) (.type "tuple")>>=_) _ _ s
 refine wpAny_bind (wpAny_isInstance hTb isSubtype_tuple_tuple ?_)
 simp only [Bool.not_true,Bool.false_eq_true,if_false]
 refine wpAny_bind (wpAny_tupleItemsOf hoa hda ?_)
 refine wpAny_bind (wpAny_tupleItemsOf hob hdb ?_)
 refine wpAny_bind ?_
 refine wpAny_forIn_list _
  (fun rest r s'=>r.1=none/\s'=s/\((rest=[(va,vb),(.ref ba,.ref bb)])∨(rest=[(.ref ba,.ref bb)]/\x.1=y.1)∨(rest=[]/\x=y)))
  _ ?_ ?_ _ _ ⟨rfl,rfl,.inl rfl⟩
 ·rintro⟨u,v⟩ rest r s' ⟨hr,rfl,(e|⟨e,e1⟩|⟨e,_⟩)⟩
  ·obtain⟨e2,rfl⟩:=List.cons.inj e
   cases e2
   refine wpAny_bind (knd.eqBool (a:=x.1) (b:=y.1) h1 h1' ?_)
   by_cases hk:x.1=y.1
   ·rw [decide_eq_true hk]
    simp only [Bool.not_true,Bool.false_eq_true,if_false]
    exact wpAny_pure ⟨by first|rfl|trivial,by first|rfl|trivial,by first|exact .inr (.inl ⟨rfl,hk⟩)|simp [hk]⟩
   ·rw [decide_eq_false hk]
    simp only [Bool.not_false,if_true]
    have hf:decide (x=y)=false:=decide_eq_false fun z=>hk (by rw [z])
    rw [hf]at h
    exact wpAny_bind (wpAny_pure (wpAny_pure (wpAny_pure h)))
  ·obtain⟨e2,rfl⟩:=List.cons.inj e
   cases e2
   refine wpAny_bind (wpAny_eqBool_tuple hu h2 h2' ?_)
   by_cases hk:x.2=y.2
   ·rw [decide_eq_true hk]
    simp only [Bool.not_true,Bool.false_eq_true,if_false]
    exact wpAny_pure ⟨by first|rfl|trivial,by first|rfl|trivial,by first|exact .inr (.inr ⟨rfl,Prod.ext e1 hk⟩)|simp [e1,hk,Prod.ext_iff]⟩
   ·rw [decide_eq_false hk]
    simp only [Bool.not_false,if_true]
    have hf:decide (x=y)=false:=decide_eq_false fun z=>hk (by rw [z])
    rw [hf]at h
    exact wpAny_bind (wpAny_pure (wpAny_pure (wpAny_pure h)))
  ·cases e
 ·rintro⟨r1,r2⟩ s' ⟨hr,rfl,(e|⟨e,_⟩|⟨_,e⟩)⟩
  ·cases e
  ·cases e
  ·simp only at hr
   subst hr
   refine wpAny_pure ?_
   rw [decide_eq_true e]at h
   exact h
theorem qW {x y:K×List K} {a b:Addr} {Q:Bool->Shared->Prop} (hu:A.units+1<cLine) (hx:bL knd s.heap x a) (hy:bL knd s.heap y b) (h:Q (decide (x=y)) s):
  wpAny (model prog w) A (eqBool (.ref a) (.ref b)) Q E s:=by
 unfold eqBool
 try with_reducible refine wpAny_holding ?_
 show wpAny _ _ (if(Value.ref a==Value.ref b)=true then _ else _) Q E s
 by_cases hab:(Value.ref a==Value.ref b)=true
 ·rw [if_pos hab]
  have e:a=b:=by have:=eq_of_beq hab;injection this
  subst e
  obtain rfl:=hx.inj hy
  exact wpAny_bind (wpAny_rule (wpAny_pure (by simpa using h)))
 ·rw [if_neg hab]
  exact wpAny_bind (wpAny_richCompare_same_room (op:= .Eq) hx.typeIs hy.typeIs F.slot_tuple_eq
   (wpAny_call_entry F.slot_tuple_eq hx.typeIs F.entry_tuple_eq (aB4 (by show A.units+1<cLine;exact hu) hx hy ⟨_,rfl,(fun e=>nomatch e),wpAny_truthy_bool h⟩) (F.args_tuple_eq_2 _ _)) (by omega))
theorem mD {n:Nat} {ks:List K} {a:Addr} {Q:Bool->Shared->Prop} (hk:IsTupleKey knd s.heap ks a) (h:Q true s):wpAny (model prog w) A (eqIsQuiet (n+1) (.ref a)) Q E s:=by
 have hT:=hk.typeIs
 obtain⟨o,items,m,ho,_,hd,hi⟩:=hk
 unfold eqIsQuiet
 refine wpAny_bind (wpAny_specialOf hT F.slot_tuple_eq.lookup ?_)
 show wpAny _ _ (isInstance (.ref a) (.type "tuple")>>=_) _ _ s
 refine wpAny_bind (wpAny_isInstance hT isSubtype_tuple_tuple ?_)
 simp only [Bool.not_true,Bool.false_eq_true,if_false]
 refine wpAny_bind (wpAny_seqItems ho hd ?_)
 refine wpAny_bind ?_
 show wpAny _ _ (forIn items _ _) _ _ s
 rw [<-Array.forIn_toList]
 refine wpAny_forIn_list _ (fun rest r s'=>r.1=none/\s'=s/\∀v∈rest,carriedByValue v=true) _ ?_ ?_ _ _ ⟨rfl,rfl,hi.byValue⟩
 ·rintro v rest r s' ⟨hr,rfl,hall⟩
  rw [eqIsQuiet_byValue _ (hall v List.mem_cons_self)]
  refine wpAny_bind (wpAny_pure ?_)
  simp only [Bool.not_true,Bool.false_eq_true,if_false]
  exact wpAny_pure ⟨rfl,rfl,fun u hu'=>hall u (List.mem_cons_of_mem _ hu')⟩
 ·rintro⟨r1,r2⟩ s' ⟨hr,rfl,_⟩
  simp only at hr
  subst hr
  exact wpAny_pure h
theorem oA {x:K×List K} {a:Addr} {Q:Bool->Shared->Prop} (hk:bL knd s.heap x a) (h:Q true s):wpAny (model prog w) A (eqIsQuiet 8 (.ref a)) Q E s:=by
 have hT:=hk.typeIs
 obtain⟨o,v,b,m,ho,_,hd,h1,h2⟩:=hk
 unfold eqIsQuiet
 refine wpAny_bind (wpAny_specialOf hT F.slot_tuple_eq.lookup ?_)
 show wpAny _ _ (isInstance (.ref a) (.type "tuple")>>=_) _ _ s
 refine wpAny_bind (wpAny_isInstance hT isSubtype_tuple_tuple ?_)
 simp only [Bool.not_true,Bool.false_eq_true,if_false]
 refine wpAny_bind (wpAny_seqItems ho hd ?_)
 refine wpAny_bind ?_
 show wpAny _ _ (forIn _ _ _) _ _ s
 rw [<-Array.forIn_toList]
 refine wpAny_forIn_list _ (fun rest r s'=>r.1=none/\s'=s/\∀u∈rest,u=v∨u= .ref b) _ ?_ ?_ _ _ ⟨rfl,rfl,fun u hu=>by simpa using hu⟩
 ·rintro u rest r s' ⟨hr,rfl,hall⟩
  rcases hall u List.mem_cons_self with rfl|rfl
  ·rw [eqIsQuiet_byValue _ (knd.byValue _ _ h1)]
   refine wpAny_bind (wpAny_pure ?_)
   simp only [Bool.not_true,Bool.false_eq_true,if_false]
   exact wpAny_pure ⟨rfl,rfl,fun u hu'=>hall u (List.mem_cons_of_mem _ hu')⟩
  ·refine wpAny_bind (mD h2 ?_)
   simp only [Bool.not_true,Bool.false_eq_true,if_false]
   exact wpAny_pure ⟨rfl,rfl,fun u hu'=>hall u (List.mem_cons_of_mem _ hu')⟩
 ·rintro⟨r1,r2⟩ s' ⟨hr,rfl,_⟩
  simp only at hr
  subst hr
  exact wpAny_pure h
end
def jQ {prog:Program} {w:World} {K:Type} [DecidableEq K] (knd:KeyKind prog w K):HeapKind prog w (K×List K) where
 is:=bL knd
 hash:=oE knd
 draws:=fun x=>x.2.length+3
 room:=fun A=>A.units+1<cLine
 inj:=fun hx hy=>hx.inj hy
 keeps:=fun x ho hd hs=>x.keeps ho hd hs
 pyHash:=fun hu hk h=>rB hu hk h
 eqBool:=fun hu hx hy h=>qW hu hx hy h
 quiet:=fun hk h=>oA hk h
end PySem
namespace PySem
namespace SetTable
def fQ (mask:Nat):Nat->Nat×Nat->Nat×Nat
 |0,p=>p
 |m+1,p=>fQ mask m (leap mask p.1 p.2)
theorem pL (mask:Nat):∀m p,(fQ mask m p).2=p.2 / 32 ^ m
 |0,p=>by rw [fQ,Nat.pow_zero,Nat.div_one]
 |m+1,p=>by
  rw [fQ,pL mask m]
  show p.2 / 32 / 32 ^ m=_
  rw [Nat.div_div_eq_div_mul,Nat.pow_succ,Nat.mul_comm]
theorem aBd (mask:Nat):∀m k p,fQ mask (m+k) p=fQ mask k (fQ mask m p)
 |0,k,p=>by rw [Nat.zero_add,fQ]
 |m+1,k,p=>by rw [Nat.succ_add,fQ,aBd mask m k,fQ]
def five (mask i:Nat):Nat:=(i*5+1) % (mask+1)
def aFc (mask:Nat):Nat->Nat->Nat
 |0,i=>i
 |m+1,i=>aFc mask m (five mask i)
theorem xQ (mask:Nat):∀m i,(fQ mask m (i,0))=(aFc mask m i,0)
 |0,i=>rfl
 |m+1,i=>by
  rw [fQ,aFc]
  show fQ mask m ((i*5+1+0 / 32) % (mask+1),0 / 32)=_
  rw [Nat.zero_div,Nat.add_zero]
  exact xQ mask m (five mask i)
theorem aDp (mask:Nat):∀m p,(fQ mask (m+1) p).1<=mask
 |0,p=>by
  show(p.1*5+1+p.2 / 32) % (mask+1)<=mask
  have:=Nat.mod_lt (p.1*5+1+p.2 / 32) (show 0<mask+1 by omega)
  omega
 |m+1,p=>by rw [fQ];exact aDp mask m _
def Round (mask:Nat):Prop:=∀i,i<=mask->∀e,e<=mask->∃k,k<=mask/\aFc mask (k+1) i=e
theorem aEo {mask:Nat} (h:∀i:_root_.Fin (mask+1),∀e:_root_.Fin (mask+1),∃k:_root_.Fin (mask+1),aFc mask (k.1+1) i.1=e.1):Round mask:=fun i hi e he=>by
 obtain⟨k,hk⟩:=h ⟨i,by omega⟩ ⟨e,by omega⟩
 exact⟨k.1,by omega,hk⟩
theorem aSv:Round 7:=aEo (by decide+kernel)
theorem aQx:Round 31:=aEo (by decide+kernel)
theorem yK {mask:Nat} (R:Round mask) {e:Nat} (he:e<=mask) (i perturb:Nat) (hp:perturb<2 ^ 64):∃L,1<=L/\L<=mask+14/\(fQ mask L (i,perturb)).1=e:=by
 have h13:(fQ mask 13 (i,perturb)).2=0:=by
  rw [pL]
  exact Nat.div_eq_of_lt (Nat.lt_of_lt_of_le hp (by decide))
 have hi:=aDp mask 12 (i,perturb)
 obtain⟨k,hk,e1⟩:=R _ hi e he
 refine⟨13+(k+1),by omega,by omega,?_⟩
 rw [aBd]
 have e2:fQ mask 13 (i,perturb)=((fQ mask 13 (i,perturb)).1,0):=Prod.ext rfl h13
 rw [e2,xQ]
 exact e1
variable {t:SetTable} {hashAt:Nat->Int} {h:Int}
theorem aN9 (mask i:Nat):runEnd mask i-i<=9:=by unfold runEnd;split<;>omega
theorem aO9 {e:Nat} (hd:∀j,t.slot j≠ .dummy) (he:t.slot e= .empty):∀(fuel:Nat) (p:Probe) (L:Nat),1<=L->(fQ t.mask L (p.i,p.perturb)).1=e->p.more+2+10*(L-1)<=fuel->∃m,probe.go t hashAt h fuel p=some m:=by
 intro fuel
 induction fuel with
 |zero=>intro p L h1 _ h3;omega
 |succ fuel ih=>
  intro p L h1 h2 h3
  have step:∃m,probe.go t hashAt h fuel (t.advance p)=some m:=by
   unfold advance
   by_cases hm:p.more>0
   ·rw [if_pos hm]
    exact ih _ L h1 h2 (by show p.more-1+2+10*(L-1)<=fuel;omega)
   ·rw [if_neg hm]
    match L,h1 with
    |1,_=>
     have h4:(leap t.mask p.i p.perturb).1=e:=h2
     cases fuel with
     |zero=>omega
     |succ f=>
      show∃m,(match t.slot (leap t.mask p.i p.perturb).1 with| .empty=>_| .dummy=>_| .live i=>_)=some m
      rw [h4,he]
      exact⟨_,rfl⟩
    |L+2,_=>
     have hr:=aN9 t.mask (leap t.mask p.i p.perturb).1
     exact ih _ (L+1) (by omega) h2 (by show runEnd t.mask (leap t.mask p.i p.perturb).1-(leap t.mask p.i p.perturb).1+2+10*(L+1-1)<=fuel;omega)
  show∃m,(match t.slot p.j with| .empty=>some (.empty p.j p.dummy)| .dummy=>probe.go t hashAt h fuel (t.advance {p with dummy:=some p.j})| .live i=>if(hashAt i==h)=true then some (.candidate p.j i (t.advance p))else probe.go t hashAt h fuel (t.advance p))=some m
  cases hs:t.slot p.j with
  |empty=>exact⟨_,rfl⟩
  |dummy=>exact absurd hs (hd _)
  |live i=>
   by_cases hh:(hashAt i==h)=true
   ·exact⟨_,if_pos hh⟩
   ·obtain⟨m,hm⟩:=step
    exact⟨m,by simp only;rw [if_neg hh];exact hm⟩
theorem aF6 {e:Nat} (R:Round t.mask) (he:e<=t.mask) (hd:∀j,t.slot j≠ .dummy) (hs:t.slot e= .empty) (p:Probe) (hp:p.perturb<2 ^ 64) (hm:p.more<=9):∃m,t.probe hashAt h p=some m:=by
 obtain⟨L,h1,h2,h3⟩:=yK R he p.i p.perturb hp
 refine aO9 hd hs _ p L h1 h3 ?_
 unfold turns
 omega
def pY (xs:Array Nat):Prop:=∀i k,i<k->k<xs.size->xs.getD i 0<xs.getD k 0
theorem yF {xs:Array Nat} {i a b:Nat} (h:i<xs.size):xs.getD i a=xs.getD i b:=by simp [Array.getD,h]
theorem aOy {xs:Array Nat} {j:Nat} (R:pY xs):∀(fuel lo hi:Nat),lo<=hi->hi<=xs.size->hi-lo<=fuel->(∀i,i<lo->xs.getD i 0<j)->(∀i,hi<=i->i<xs.size->j<=xs.getD i 0)->
  below.go xs j fuel lo hi<=xs.size/\(∀i,i<below.go xs j fuel lo hi->xs.getD i 0<j)/\∀i,below.go xs j fuel lo hi<=i->i<xs.size->j<=xs.getD i 0:=by
 intro fuel
 induction fuel with
 |zero=>
  intro lo hi h1 h2 h3 a b
  have:lo=hi:=by omega
  subst this
  exact⟨h2,a,b⟩
 |succ fuel ih=>
  intro lo hi h1 h2 h3 a b
  have key:below.go xs j (fuel+1) lo hi=if lo<hi then(if xs.getD ((lo+hi) / 2) j<j then below.go xs j fuel ((lo+hi) / 2+1) hi else below.go xs j fuel lo ((lo+hi) / 2))else lo:=rfl
  rw [key]
  by_cases hl:lo<hi
  ·have hm:(lo+hi) / 2<xs.size:=by omega
   rw [if_pos hl]
   by_cases hx:xs.getD ((lo+hi) / 2) j<j
   ·rw [if_pos hx]
    refine ih _ _ (by omega) h2 (by omega) (fun i hi'=>?_) b
    by_cases e:i=(lo+hi) / 2
    ·subst e;rw [yF hm (b:=j)];exact hx
    ·have:=R i ((lo+hi) / 2) (by omega) hm
     rw [yF hm (b:=j)]at this
     omega
   ·rw [if_neg hx]
    refine ih _ _ (by omega) (by omega) (by omega) a fun i hi' hs=>?_
    rw [yF hm (b:=0)]at hx
    by_cases e:i=(lo+hi) / 2
    ·subst e;omega
    ·have:=R ((lo+hi) / 2) i (by omega) hs
     omega
  ·have:lo=hi:=by omega
   subst this
   rw [if_neg hl]
   exact⟨h2,a,b⟩
theorem fW {xs:Array Nat} (R:pY xs) (j:Nat):below xs j<=xs.size/\(∀i,i<below xs j->xs.getD i 0<j)/\∀i,below xs j<=i->i<xs.size->j<=xs.getD i 0:=
 aOy R _ _ _ (Nat.zero_le _) (Nat.le_refl _) (by omega) (fun i h=>absurd h (Nat.not_lt_zero i)) fun i h1 h2=>by omega
theorem below_at {xs:Array Nat} (R:pY xs) {i:Nat} (h:i<xs.size):below xs (xs.getD i 0)=i:=by
 obtain⟨_,h2,h3⟩:=fW R (xs.getD i 0)
 rcases Nat.lt_trichotomy (below xs (xs.getD i 0)) i with z|z|z
 ·have:=h3 (below xs (xs.getD i 0)) (Nat.le_refl _) (by omega)
  have:=R _ i z h
  omega
 ·exact z
 ·have:=h2 i z
  omega
theorem aL1 {xs:Array Nat} {i j:Nat}:xs[i]? =some j↔i<xs.size/\xs.getD i 0=j:=by
 by_cases h:i<xs.size
 ·simp [Array.getD,h]
 ·simp [h]
theorem aAe (R:pY t.place) {i j:Nat} (h:t.place[i]? =some j):t.slot j= .live i:=by
 obtain⟨h1,rfl⟩:=aL1.mp h
 unfold slot
 dsimp only
 rw [below_at R h1,h]
 simp
theorem aGa (hd:t.dummies= #[]) {j:Nat} (h:∀i:Nat,t.place[i]? ≠some j):t.slot j= .empty:=by
 unfold slot
 dsimp only
 have h1:(t.place[below t.place j]? ==some j)=false:=beq_eq_false_iff_ne.mpr (h _)
 rw [h1]
 have h2:has t.dummies j=false:=by rw [hd];unfold has;simp
 rw [h2]
 rfl
theorem pR (hd:t.dummies= #[]) (j:Nat):t.slot j= .empty∨∃i:Nat,t.slot j= .live i/\t.place[i]? =some j:=by
 by_cases h:t.place[below t.place j]? =some j
 ·refine .inr ⟨below t.place j,?_,h⟩
  unfold slot
  dsimp only
  rw [h]
  simp
 ·refine .inl ?_
  unfold slot
  dsimp only
  have h1:(t.place[below t.place j]? ==some j)=false:=beq_eq_false_iff_ne.mpr h
  rw [h1]
  have h2:has t.dummies j=false:=by rw [hd];unfold has;simp
  rw [h2]
  rfl
theorem nC (hd:t.dummies= #[]) (j:Nat):t.slot j≠ .dummy:=by
 rcases pR hd j with e|⟨i,e,_⟩<;>rw [e]<;>intro z<;>cases z
theorem aGt (hd:t.dummies= #[]) (hs:t.place.size<=t.mask):∃e,e<=t.mask/\t.slot e= .empty:=by
 refine Classical.byContradiction fun no=>?_
 have all:∀e,e<=t.mask->∃i:Nat,t.place[i]? =some e:=fun e he=>by
  rcases pR hd e with z|⟨i,_,z⟩
  ·exact absurd ⟨e,he,z⟩ no
  ·exact⟨i,z⟩
 have sub:List.range (t.mask+1) ⊆ t.place.toList:=fun e he=>by
  obtain⟨i,hi⟩:=all e (by have:=List.mem_range.mp he;omega)
  obtain⟨h1,h2⟩:=Array.getElem?_eq_some_iff.mp hi
  rw [<-h2]
  simp
 have:=(List.nodup_range (n:=t.mask+1)).length_le_of_subset sub
 rw [List.length_range,Array.length_toList]at this
 omega
theorem aEx (R:Round t.mask) (hd:t.dummies= #[]) (hs:t.place.size<=t.mask) (p:Probe) (hp:p.perturb<2 ^ 64) (hm:p.more<=9):∃m,t.probe hashAt h p=some m:=by
 obtain⟨e,he,h1⟩:=aGt hd hs
 exact aF6 R he (nC hd) h1 p hp hm
def adv (mask:Nat) (p:Probe):Probe:=if p.more>0 then{p with j:=p.j+1,more:=p.more-1}else{p with j:=(leap mask p.i p.perturb).1,more:=runEnd mask (leap mask p.i p.perturb).1-(leap mask p.i p.perturb).1,i:=(leap mask p.i p.perturb).1,perturb:=(leap mask p.i p.perturb).2}
def advs (mask:Nat):Nat->Probe->Probe
 |0,p=>p
 |n+1,p=>advs mask n (adv mask p)
theorem oU (mask:Nat):∀m k p,advs mask (m+k) p=advs mask k (advs mask m p)
 |0,k,p=>by rw [Nat.zero_add,advs]
 |m+1,k,p=>by rw [Nat.succ_add,advs,oU mask m k,advs]
theorem aAh (mask:Nat) (p:Probe):(adv mask p).dummy=p.dummy:=by unfold adv;split<;>rfl
theorem aRs (fuel:Nat) (p:Probe):probe.go t hashAt h (fuel+1) p=match t.slot p.j with| .empty=>some (.empty p.j p.dummy)| .dummy=>probe.go t hashAt h fuel (t.advance {p with dummy:=some p.j})| .live i=>if(hashAt i==h)=true then some (.candidate p.j i (t.advance p))else probe.go t hashAt h fuel (t.advance p):=rfl
theorem aPe (hd:∀j,t.slot j≠ .dummy):∀(fuel:Nat) (p:Probe) (N:Nat),t.slot (advs t.mask N p).j= .empty->N<fuel->p.dummy=none->
    ∃n,n<=N/\(∀m,m<n->∃i,t.slot (advs t.mask m p).j= .live i/\hashAt i≠h)/\
      ((t.slot (advs t.mask n p).j= .empty/\probe.go t hashAt h fuel p=some (.empty (advs t.mask n p).j none))∨
       ∃i,t.slot (advs t.mask n p).j= .live i/\hashAt i=h/\probe.go t hashAt h fuel p=some (.candidate (advs t.mask n p).j i (advs t.mask (n+1) p))):=by
  intro fuel
  induction fuel with
  |zero=>intro p N _ h2;omega
  |succ fuel ih=>
    intro p N h1 h2 h3
    rw [aRs]
    cases hs:t.slot p.j with
    |empty=>exact⟨0,Nat.zero_le _,fun m hm=>absurd hm (Nat.not_lt_zero m),.inl ⟨hs,by rw [h3];rfl⟩⟩
    |dummy=>exact absurd hs (hd _)
    |live i=>
      by_cases hh:hashAt i=h
      · exact⟨0,Nat.zero_le _,fun m hm=>absurd hm (Nat.not_lt_zero m),.inr ⟨i,hs,hh,by dsimp only;rw [if_pos (beq_iff_eq.mpr hh)];rfl⟩⟩
      · cases N with
        |zero=>
          have h1':t.slot p.j= .empty:=h1
          rw [hs]at h1'
          cases h1'
        |succ N=>
          obtain⟨n,a1,a2,a3⟩:=ih (adv t.mask p) N h1 (by omega) (by rw [aAh];exact h3)
          have hb:¬(hashAt i==h)=true:=fun z=>hh (beq_iff_eq.mp z)
          refine⟨n+1,by omega,fun m hm=>?_,?_⟩
          · cases m with
            |zero=>exact⟨i,hs,hh⟩
            |succ m=>exact a2 m (by omega)
          · rcases a3 with ⟨b1,b2⟩|⟨i',b1,b2,b3⟩
            · exact .inl ⟨b1,by dsimp only;rw [if_neg hb];exact b2⟩
            · exact .inr ⟨i',b1,b2,by dsimp only;rw [if_neg hb];exact b3⟩
theorem aOq (hn:∀i,hashAt i≠h) (hd:∀j,t.slot j≠ .dummy):∀(fuel:Nat) (p:Probe) (m:Met),probe.go t hashAt h fuel p=some m->∃N,N<fuel/\t.slot (advs t.mask N p).j= .empty:=by
 intro fuel
 induction fuel with
 |zero=>intro p m e;cases e
 |succ fuel ih=>
  intro p m e
  rw [aRs]at e
  cases hs:t.slot p.j with
  |empty=>exact⟨0,Nat.succ_pos _,hs⟩
  |dummy=>exact absurd hs (hd _)
  |live i=>
   rw [hs]at e
   dsimp only at e
   rw [if_neg (fun z=>hn i (beq_iff_eq.mp z))]at e
   obtain⟨N,h1,h2⟩:=ih _ _ e
   exact⟨N+1,by omega,h2⟩
theorem aFh (R:Round t.mask) (hd:t.dummies= #[]) (hs:t.place.size<=t.mask) (p:Probe) (hp:p.perturb<2 ^ 64) (hm:p.more<=9):∃N,N<10*turns t.mask/\t.slot (advs t.mask N p).j= .empty:=by
 obtain⟨m,e⟩:=aEx (hashAt:=fun _=>1) (h:=0) R hd hs p hp hm
 exact aOq (hashAt:=fun _=>1) (h:=0) (fun _=>by decide) (nC hd) _ p m e
theorem aEd (t:SetTable) (h:Int):(t.probeStart h).perturb<2 ^ 64/\(t.probeStart h).more<=9:=by
 refine⟨?_,aN9 _ _⟩
 show bits h<2 ^ 64
 unfold bits
 have h1:=Int.emod_nonneg h (show((2:Int) ^ 64)≠0 by decide)
 have h2:=Int.emod_lt_of_pos h (show(0:Int)<2 ^ 64 by decide)
 omega
def oO (t:SetTable) (h:Int) (j:Nat):Prop:=∃n,(advs t.mask n (t.probeStart h)).j=j/\∀m,m<n->t.slot (advs t.mask m (t.probeStart h)).j≠ .empty
theorem oO.ahead {j N:Nat} (w:oO t h j) (hj:t.slot j≠ .empty) (hN:t.slot (advs t.mask N (t.probeStart h)).j= .empty):∃n,n<N/\(advs t.mask n (t.probeStart h)).j=j:=by
 obtain⟨n,e,a⟩:=w
 rcases Nat.lt_trichotomy n N with z|z|z
 ·exact⟨n,z,e⟩
 ·subst z
  rw [e]at hN
  exact absurd hN hj
 ·exact absurd hN (a N z)
theorem dY {α:Type} (xs:Array α) (p:Nat) (x:α):(insertAt xs p x).toList=xs.toList.take p++x::xs.toList.drop p:=by
 unfold insertAt
 simp [Array.toList_extract]
 exact List.take_of_length_le (by simp)
theorem rR {xs:Array Nat}:pY xs↔xs.toList.Pairwise (·<·):=by
 rw [List.pairwise_iff_getElem]
 constructor
 ·intro R i k hi hk hik
  have h2:k<xs.size:=by simpa using hk
  have:=R i k hik h2
  have h1:i<xs.size:=by omega
  simpa [Array.getD,h1,h2]using this
 ·intro R i k hik hk
  have h1:i<xs.size:=by omega
  have:=R i k (by simpa using h1) (by simpa using hk) hik
  simpa [Array.getD,h1,hk]using this
theorem aJh {j:Nat}:(∃i:Nat,t.place[i]? =some j)↔j∈t.place.toList:=by
 rw [List.mem_iff_getElem?]
 simp
theorem eV (R:pY t.place) (hd:t.dummies= #[]) {j:Nat}:t.slot j= .empty↔j∉t.place.toList:=by
 rw [<-aJh]
 constructor
 ·rintro e ⟨i,hi⟩
  rw [aAe R hi]at e
  cases e
 ·intro no
  exact aGa hd fun i z=>no ⟨i,z⟩
theorem aDc (R:pY t.place) {j:Nat} (hj:j∉t.place.toList):pY (insertAt t.place (below t.place j) j):=by
 obtain⟨hb,h1,h2⟩:=fW R j
 rw [rR,dY]
 have Rl:=rR.mp R
 have lo:∀x∈t.place.toList.take (below t.place j),x<j:=fun x hx=>by
  obtain⟨i,hi,e⟩:=List.getElem_of_mem hx
  rw [List.length_take]at hi
  rw [List.getElem_take]at e
  have hs:i<t.place.size:=by simp at hi;omega
  have:=h1 i (by omega)
  rw [<-e]
  simpa [Array.getD,hs]using this
 have hi':∀x∈t.place.toList.drop (below t.place j),j<x:=fun x hx=>by
  have hm:x∈t.place.toList:=List.mem_of_mem_drop hx
  obtain⟨i,hi,e⟩:=List.getElem_of_mem hx
  rw [List.length_drop]at hi
  rw [List.getElem_drop]at e
  have hs:below t.place j+i<t.place.size:=by simp at hi;omega
  have:=h2 (below t.place j+i) (by omega) hs
  have h3:j<=x:=by rw [<-e];simpa [Array.getD,hs]using this
  have h4:j≠x:=fun z=>hj (z▸hm)
  omega
 rw [List.pairwise_append]
 refine⟨Rl.sublist (List.take_sublist _ _),List.pairwise_cons.mpr ⟨hi',Rl.sublist (List.drop_sublist _ _)⟩,fun x hx y hy=>?_⟩
 have:=lo x hx
 rcases List.mem_cons.mp hy with e|m
 ·omega
 ·have:=hi' y m;omega
theorem iB (hd:t.dummies= #[]) (j:Nat):t.put j=({t with place:=insertAt t.place (below t.place j) j},below t.place j):=by
 unfold put
 have h2:has t.dummies j=false:=by rw [hd];unfold has;simp
 rw [h2]
 rfl
theorem wN {xs:Array Nat} {p j x:Nat}:x∈(insertAt xs p j).toList↔x=j∨x∈xs.toList:=by
 rw [dY,List.mem_append,List.mem_cons]
 constructor
 ·rintro(h|h|h)
  ·exact .inr (List.mem_of_mem_take h)
  ·exact .inl h
  ·exact .inr (List.mem_of_mem_drop h)
 ·rintro(h|h)
  ·exact .inr (.inl h)
  ·rw [<-List.take_append_drop p xs.toList]at h
   rcases List.mem_append.mp h with h|h
   ·exact .inl h
   ·exact .inr (.inr h)
theorem kE {α:Type} (xs:Array α) {p:Nat} (x:α) (h:p<=xs.size):(insertAt xs p x).size=xs.size+1:=by
 rw [<-Array.length_toList,dY,List.length_append,List.length_cons,List.length_take,List.length_drop,Array.length_toList]
 omega
structure Good (t:SetTable):Prop where
 dum:t.dummies= #[]
 rise:pY t.place
 low:∀j∈t.place.toList,j<=t.mask
 room:t.place.size<=t.mask
 round:Round t.mask
theorem Good.put (G:Good t) {j:Nat} (hj:t.slot j= .empty) (hl:j<=t.mask) (hr:t.place.size+1<=t.mask):Good (t.put j).1:=by
 rw [iB G.dum]
 have nj:=(eV G.rise G.dum).mp hj
 refine⟨G.dum,aDc G.rise nj,fun x hx=>?_,?_,G.round⟩
 ·rcases wN.mp hx with e|m
  ·rw [e];exact hl
  ·exact G.low x m
 ·show(insertAt t.place (below t.place j) j).size<=t.mask
  rw [kE _ _ (fW G.rise j).1]
  exact hr
theorem Good.put_empty (G:Good t) {j:Nat} (hj:t.slot j= .empty) (x:Nat):(t.put j).1.slot x= .empty↔t.slot x= .empty/\x≠j:=by
 have nj:=(eV G.rise G.dum).mp hj
 rw [iB G.dum]
 rw [eV (t:={t with place:=insertAt t.place (below t.place j) j}) (aDc G.rise nj) G.dum,eV G.rise G.dum]
 show x∉(insertAt t.place (below t.place j) j).toList↔_
 rw [wN,not_or]
 exact⟨fun z=>⟨z.2,z.1⟩,fun z=>⟨z.2,z.1⟩⟩
theorem oO.put (G:Good t) {j x:Nat} (hj:t.slot j= .empty) (w:oO t h x):oO (t.put j).1 h x:=by
 obtain⟨n,e,a⟩:=w
 have em:(t.put j).1.mask=t.mask:=by rw [iB G.dum]
 have es:(t.put j).1.probeStart h=t.probeStart h:=by rw [iB G.dum];rfl
 refine⟨n,by rw [em,es];exact e,fun m hm z=>?_⟩
 rw [em,es]at z
 exact a m hm ((G.put_empty hj _).mp z).1
theorem oO.new (G:Good t) {N:Nat} (hj:t.slot (advs t.mask N (t.probeStart h)).j= .empty) (a:∀m,m<N->t.slot (advs t.mask m (t.probeStart h)).j≠ .empty):oO (t.put (advs t.mask N (t.probeStart h)).j).1 h (advs t.mask N (t.probeStart h)).j:=by
 have em:(t.put (advs t.mask N (t.probeStart h)).j).1.mask=t.mask:=by rw [iB G.dum]
 have es:(t.put (advs t.mask N (t.probeStart h)).j).1.probeStart h=t.probeStart h:=by rw [iB G.dum];rfl
 refine⟨N,by rw [em,es],fun m hm z=>?_⟩
 rw [em,es]at z
 exact a m hm ((G.put_empty hj _).mp z).1
end SetTable
end PySem
namespace PySem
open Sem (wp)
section
variable {prog:Program} {w:World} {K:Type} [DecidableEq K] (knd:HeapKind prog w K)
structure gQ (s:Shared) (a:Addr) (o:Obj) (es:Array (Int×Value)) (ep:Nat) (t:SetTable) (xs:List (K×Addr)):Prop where
 ho:s.heap.get? a=some o
 hex:o.ExactSet
 hd:o.data= .set es ep t
 he:es.toList=xs.map fun x=>(knd.hash x.1,Value.ref x.2)
 good:t.Good
 size:t.place.size=es.size
 keys:∀x∈xs,knd.is s.heap x.1 x.2
 nd:(xs.map (·.1)).Nodup
 way:∀(i j:Nat) (x:K×Addr),t.place[i]? =some j->xs[i]? =some x->SetTable.oO t (knd.hash x.1) j
variable {knd} {A:Around} {E:Value->Shared->Prop} {s:Shared} {a b:Addr} {o:Obj} {es:Array (Int×Value)} {ep:Nat} {t:SetTable} {xs:List (K×Addr)} {k:K}
structure pF (knd:HeapKind prog w K):Prop where
 mono:∀{h h':Heap} {k:K} {c:Addr},knd.is h k c->(∀b o,o.cls= .type "tuple"->h.get? b=some o->h'.get? b=some o)->knd.is h' k c
 byValue:∀{A:Around} {E:Value->Shared->Prop} {s:Shared} {k:K} {c:Addr} {Q:Bool->Shared->Prop},knd.is s.heap k c->Q true s->wpAny (model prog w) A (hashByValue 8 (.ref c)) Q E s
 plain:∀{A:Around} {E:Value->Shared->Prop} {s:Shared} {k:K} {c:Addr} {Q:Bool->Shared->Prop},knd.is s.heap k c->Q false s->wpAny (model prog w) A (ofAClassStatement 8 (.ref c)) Q E s
theorem pF.keep (D:pF knd) {h h':Heap} {k:K} {c d:Addr} {o:Obj} (hx:knd.is h k c) (ho:h.get? d=some o) (hex:o.ExactSet) (sb:Heap.SameBut d h h'):knd.is h' k c:=D.mono hx fun b o' hc e=>by
 have ne:b≠d:=by
  rintro rfl
  rw [ho]at e
  cases e
  rw [hex.1]at hc
  exact absurd hc (by decide)
 rw [sb.2 b ne]
 exact e
theorem uN (D:pF knd) (hkey:knd.is s.heap k b) {ys:List Value} (hy:∀y∈ys,∃x c,y=Value.ref c/\knd.is s.heap x c) {Q:Bool->Shared->Prop} (h:Q false s):wpAny (model prog w) A (searchCouldBeSeen (.ref b) ys) Q E s:=by
 unfold searchCouldBeSeen
 refine wpAny_bind ?_
 refine wpAny_forIn_list _ (fun rest r s'=>r.1=none/\s'=s/\∀v∈rest,∃x c,v=Value.ref c/\knd.is s.heap x c) _ ?_ ?_ _ _ ⟨rfl,rfl,hy⟩
 ·rintro v rest r s' ⟨hr,rfl,hall⟩
  obtain⟨x,c,rfl,hx⟩:=hall v List.mem_cons_self
  dsimp only
  have nx:∀u∈rest,∃x c,u=Value.ref c/\knd.is s'.heap x c:=fun u hu=>hall u (List.mem_cons_of_mem _ hu)
  split
  ·exact wpAny_pure ⟨rfl,rfl,nx⟩
  ·refine wpAny_bind (knd.quiet hkey ?_)
   simp only [Bool.not_true,Bool.false_eq_true,if_false]
   refine wpAny_bind (knd.quiet hx ?_)
   simp only [Bool.not_true,Bool.false_eq_true,if_false]
   refine wpAny_bind (D.plain hkey ?_)
   simp only [Bool.false_eq_true,if_false]
   refine wpAny_bind (D.plain hx ?_)
   simp only [Bool.false_eq_true,if_false]
   exact wpAny_pure ⟨rfl,rfl,nx⟩
 ·rintro⟨r1,r2⟩ s' ⟨hr,rfl,_⟩
  simp only at hr
  subst hr
  exact wpAny_pure h
theorem gQ.fits (S:gQ knd s a o es ep t xs):t.fits es.size=true:=by
 unfold SetTable.fits SetTable.fill
 have h1:=S.size
 have h2:=S.good.room
 rw [S.good.dum]
 simp [h1]
 omega
theorem gQ.len (S:gQ knd s a o es ep t xs):es.size=xs.length:=by rw [<-Array.length_toList,S.he,List.length_map]
theorem gQ.entry (S:gQ knd s a o es ep t xs) (i:Nat):es[i]? =(xs[i]?).map fun x=>(knd.hash x.1,Value.ref x.2):=by
 rw [<-Array.getElem?_toList,S.he,List.getElem?_map]
theorem gQ.even (S:gQ knd s a o es ep t xs) (hm:t.mask % 2=1):t.gaveWay=false:=by
 unfold SetTable.gaveWay
 rw [hm]
 rfl
theorem qX (S:gQ knd s a o es ep t xs) (hm:t.mask % 2=1) (D:pF knd) (hu:knd.room A) (hkey:knd.is s.heap k b) {N:Nat} (hN:t.slot (SetTable.advs t.mask N (t.probeStart (knd.hash k))).j= .empty) (hF:N<10*SetTable.turns t.mask)
  (first:∀m,m<N->t.slot (SetTable.advs t.mask m (t.probeStart (knd.hash k))).j≠ .empty) {Q:SetFound->Shared->Prop} (hold:(∃x∈xs,x.1=k)->Q (.there none) s) (hnew:(∀x∈xs,x.1≠k)->Q (.free (SetTable.advs t.mask N (t.probeStart (knd.hash k))).j false) s):
  ∀(fuel n:Nat) (stand:Option SetTable.Probe),stand.getD (t.probeStart (knd.hash k))=SetTable.advs t.mask n (t.probeStart (knd.hash k))->n<=N->N-n<fuel->(∀m,m<n->∃(i:Nat) (x:K×Addr),t.slot (SetTable.advs t.mask m (t.probeStart (knd.hash k))).j= .live i/\xs[i]? =some x/\x.1≠k)->
   wpAny (model prog w) A (setSearchFrom a (.ref b) (knd.hash k) true fuel stand) Q E s:=by
 intro fuel
 induction fuel with
 |zero=>intro n stand _ _ h3;omega
 |succ fuel ih=>
  intro n stand h1 h2 h3 past
  have dumA:∀m p,(SetTable.advs t.mask m p).dummy=p.dummy:=by
   intro m
   induction m with
   |zero=>intro p;rfl
   |succ m ih=>intro p;rw [SetTable.advs,ih,SetTable.aAh]
  unfold setSearchFrom
  refine wpAny_bind (wpAny_setState_of S.ho S.hd S.fits ?_)
  dsimp only
  rw [S.even hm]
  simp only [Bool.false_eq_true,if_false]
  rw [h1]
  have comp:∀m,SetTable.advs t.mask m (SetTable.advs t.mask n (t.probeStart (knd.hash k)))=SetTable.advs t.mask (n+m) (t.probeStart (knd.hash k)):=fun m=>(SetTable.oU t.mask n m _).symm
  have ent:∀i:Nat,(es[i]?.map (·.1)).getD 0=((xs[i]?).map fun x=>knd.hash x.1).getD 0:=fun i=>by
   rw [S.entry i,Option.map_map]
   rfl
  have inx:∀(i j:Nat),t.slot j= .live i->∃x,xs[i]? =some x/\t.place[i]? =some j:=fun i j hs=>by
   rcases SetTable.pR S.good.dum j with z|⟨i',z1,z2⟩
   ·rw [hs]at z;cases z
   ·rw [hs]at z1
    cases z1
    have hi:i<t.place.size:=(Array.getElem?_eq_some_iff.mp z2).1
    rw [S.size,S.len]at hi
    exact⟨xs[i],List.getElem?_eq_getElem hi,z2⟩
  obtain⟨n',a1,a2,a3⟩:=SetTable.aPe (t:=t) (hashAt:=fun i:Nat=>(es[i]?.map (·.1)).getD 0) (h:=knd.hash k) (SetTable.nC S.good.dum) (10*SetTable.turns t.mask) (SetTable.advs t.mask n (t.probeStart (knd.hash k))) (N-n) (by rw [comp,show n+(N-n)=N by omega];exact hN) (by omega) (by rw [dumA];rfl)
  rw [comp]at a3
  rcases a3 with ⟨b1,b2⟩|⟨i,b1,b2,b3⟩
  ·have eN:n+n'=N:=by
    rcases Nat.lt_or_ge (n+n') N with z|z
    ·exact absurd b1 (first _ z)
    ·omega
   have e:t.probe (fun i:Nat=>(es[i]?.map (·.1)).getD 0) (knd.hash k) (SetTable.advs t.mask n (t.probeStart (knd.hash k)))=some (.empty (SetTable.advs t.mask (n+n') (t.probeStart (knd.hash k))).j none):=b2
   erw [e]
   dsimp only
   rw [eN]
   refine wpAny_pure (hnew fun x hx ek=>?_)
   obtain⟨i,hi⟩:=List.mem_iff_getElem?.mp hx
   have his:i<t.place.size:=by rw [S.size,S.len];exact(List.getElem?_eq_some_iff.mp hi).1
   have hpl:t.place[i]? =some t.place[i]:=Array.getElem?_eq_getElem his
   have hsl:=SetTable.aAe S.good.rise hpl
   have wy:=S.way i _ x hpl hi
   rw [ek]at wy
   obtain⟨m,hm1,hm2⟩:=wy.ahead (by rw [hsl];intro z;cases z) hN
   rcases Nat.lt_or_ge m n with z|z
   ·obtain⟨i',x',c1,c2,c3⟩:=past m z
    rw [hm2,hsl]at c1
    cases c1
    rw [hi]at c2
    cases c2
    exact c3 ek
   ·obtain⟨i',c1,c2⟩:=a2 (m-n) (by omega)
    rw [comp,show n+(m-n)=m by omega,hm2,hsl]at c1
    cases c1
    rw [ent,hi]at c2
    exact c2 (by rw [<-ek];rfl)
  ·obtain⟨x,hx,hpl⟩:=inx i _ b1
   have hxm:=List.mem_of_getElem? hx
   have e:t.probe (fun i:Nat=>(es[i]?.map (·.1)).getD 0) (knd.hash k) (SetTable.advs t.mask n (t.probeStart (knd.hash k)))=some (.candidate (SetTable.advs t.mask (n+n') (t.probeStart (knd.hash k))).j i (SetTable.advs t.mask (n'+1) (SetTable.advs t.mask n (t.probeStart (knd.hash k))))):=b3
   erw [e]
   dsimp only
   cases hl:t.led
   focus
    simp only [Bool.not_false,if_true]
    refine wpAny_bind (uN D hkey (fun y hy=>?_) ?_)
    obtain⟨e,he,rfl⟩:=List.mem_map.mp hy
    have he2:=(Array.mem_filter.mp (Array.mem_toList_iff.mp he)).1
    rw [<-Array.mem_toList_iff,S.he]at he2
    obtain⟨x',hx',rfl⟩:=List.mem_map.mp he2
    exact⟨_,_,rfl,S.keys x' hx'⟩
    simp only [Bool.false_eq_true,if_false]
   rotate_left
   focus
    simp only [Bool.not_true,Bool.false_eq_true,if_false]
   all_goals
    rw [S.entry i,hx]
    dsimp only [Option.map_some]
    refine wpAny_bind (wpAny_holding (knd.eqBool hu (S.keys x hxm) hkey ?_))
    refine wpAny_bind (wpAny_setState_of S.ho S.hd S.fits ?_)
    by_cases ek:x.1=k
    ·rw [decide_eq_true ek]
     simp only [Bool.and_self,if_true]
     exact wpAny_pure (hold ⟨x,hxm,ek⟩)
    ·rw [decide_eq_false ek]
     simp only [Bool.and_false,Bool.false_eq_true,if_false]
     have sm:t.sameMemory t.moves t.mask=some true:=by unfold SetTable.sameMemory;simp
     rw [sm]
     simp only [if_true]
     rw [b1]
     dsimp only
     rw [S.entry i,hx]
     dsimp only [Option.map_some]
     refine wpAny_bind (wpAny_isSame_ref_self ?_)
     simp only [if_true]
     refine wpAny_bind (wpAny_pure ?_)
     dsimp only
     have lt:n+n'<N:=by
      rcases Nat.lt_or_ge (n+n') N with z|z
      ·exact z
      ·have z2:n+n'=N:=by omega
       rw [z2,hN]at b1
       cases b1
     refine ih (n+(n'+1)) _ (by show SetTable.advs t.mask (n'+1) _=_;rw [comp]) (by omega) (by omega) fun m hm'=>?_
     rcases Nat.lt_or_ge m n with z|z
     ·exact past m z
     ·by_cases z2:m=n+n'
      ·subst z2
       exact⟨i,x,b1,hx,ek⟩
      ·obtain⟨i',c1,c2⟩:=a2 (m-n) (by omega)
       rw [comp,show n+(m-n)=m by omega]at c1
       obtain⟨x',hx',_⟩:=inx i' _ c1
       refine⟨i',x',c1,hx',fun ek'=>c2 ?_⟩
       rw [ent,hx', <-ek']
       rfl
theorem rA {o:Obj} (es':Array (Int×Value)) (t':SetTable) (hd:o.data= .set es ep t) (h:o.ExactSet):(Obj.putSet es' t' o).ExactSet:=by
 rw [putSet_of es' t' hd]
 exact h
theorem get_ins {α:Type} {l:List α} {p i:Nat} {y x:α} (hp:p<=l.length) (h:(l.take p++x::l.drop p)[i]? =some y):(i<p/\l[i]? =some y)∨(i=p/\y=x)∨(p<i/\l[i-1]? =some y):=by
 have hlen:(l.take p).length=p:=by rw [List.length_take];omega
 rcases Nat.lt_trichotomy i p with z|z|z
 ·rw [List.getElem?_append_left (by omega),List.getElem?_take_of_lt z]at h
  exact .inl ⟨z,h⟩
 ·subst z
  rw [List.getElem?_append_right (by omega),hlen,Nat.sub_self]at h
  exact .inr (.inl ⟨rfl,(Option.some.inj h).symm⟩)
 ·rw [List.getElem?_append_right (by omega),hlen]at h
  obtain⟨d,rfl⟩:∃d,i=p+(d+1):=⟨i-p-1,by omega⟩
  rw [show p+(d+1)-p=d+1 by omega,List.getElem?_cons_succ,List.getElem?_drop]at h
  exact .inr (.inr ⟨by omega,by rw [show p+(d+1)-1=p+d by omega];exact h⟩)
theorem gQ.add (S:gQ knd s a o es ep t xs) (hkey:knd.is s.heap k b) (hn:∀x∈xs,x.1≠k) (hkeep:∀h',Heap.SameBut a s.heap h'->∀x c,knd.is s.heap x c->knd.is h' x c) {N:Nat} (hN:t.slot (SetTable.advs t.mask N (t.probeStart (knd.hash k))).j= .empty)
  (first:∀m,m<N->t.slot (SetTable.advs t.mask m (t.probeStart (knd.hash k))).j≠ .empty) (hl:(SetTable.advs t.mask N (t.probeStart (knd.hash k))).j<=t.mask) (hroom:t.place.size+1<=t.mask) {j p:Nat} (ej:j=(SetTable.advs t.mask N (t.probeStart (knd.hash k))).j) (epp:p=SetTable.below t.place j):
  gQ knd {s with heap:=s.heap.update a (Obj.putSet (SetTable.insertAt es p (knd.hash k,.ref b)) (t.put j).1)} a (Obj.putSet (SetTable.insertAt es p (knd.hash k,.ref b)) (t.put j).1 o) (SetTable.insertAt es p (knd.hash k,.ref b)) (ep+1) (t.put j).1 (xs.take p++(k,b)::xs.drop p):=by
 subst ej epp
 have hb:=(SetTable.fW S.good.rise (SetTable.advs t.mask N (t.probeStart (knd.hash k))).j).1
 have hbx:SetTable.below t.place (SetTable.advs t.mask N (t.probeStart (knd.hash k))).j<=xs.length:=by rw [<-S.len, <-S.size];exact hb
 have hnf:(Obj.putSet (SetTable.insertAt es (SetTable.below t.place (SetTable.advs t.mask N (t.probeStart (knd.hash k))).j) (knd.hash k,.ref b)) (t.put (SetTable.advs t.mask N (t.probeStart (knd.hash k))).j).1 o).isFreed=false:=by
  rw [putSet_of _ _ S.hd]
  rfl
 refine⟨Heap.get?_update_self _ S.ho hnf,rA _ _ S.hd S.hex,by rw [putSet_of _ _ S.hd],?_,S.good.put hN hl hroom,?_,fun x hx=>?_,?_,fun i j x h1 h2=>?_⟩
 ·rw [SetTable.dY,S.he, <-List.map_take, <-List.map_drop,List.map_append,List.map_cons]
 ·rw [SetTable.iB S.good.dum]
  show(SetTable.insertAt t.place _ _).size=_
  rw [SetTable.kE _ _ hb,SetTable.kE _ _ (by rw [<-S.size];exact hb),S.size]
 ·rcases List.mem_append.mp hx with m|m
  ·exact hkeep _ (Heap.SameBut.update ..) _ _ (S.keys x (List.mem_of_mem_take m))
  ·rcases List.mem_cons.mp m with e|m
   ·rw [e];exact hkeep _ (Heap.SameBut.update ..) _ _ hkey
   ·exact hkeep _ (Heap.SameBut.update ..) _ _ (S.keys x (List.mem_of_mem_drop m))
 ·have pm:((xs.take (SetTable.below t.place (SetTable.advs t.mask N (t.probeStart (knd.hash k))).j)++(k,b)::xs.drop (SetTable.below t.place (SetTable.advs t.mask N (t.probeStart (knd.hash k))).j)).map (·.1)).Perm (k::xs.map (·.1)):=by
   have:=(List.perm_middle (a:=(k,b)) (l₁:=xs.take (SetTable.below t.place (SetTable.advs t.mask N (t.probeStart (knd.hash k))).j)) (l₂:=xs.drop (SetTable.below t.place (SetTable.advs t.mask N (t.probeStart (knd.hash k))).j))).map (·.1)
   rw [List.take_append_drop]at this
   exact this
  rw [pm.nodup_iff,List.nodup_cons]
  refine⟨fun m=>?_,S.nd⟩
  obtain⟨x,hx,e⟩:=List.mem_map.mp m
  exact hn x hx e
 ·rw [SetTable.iB S.good.dum]at h1
  have h1':(t.place.toList.take (SetTable.below t.place (SetTable.advs t.mask N (t.probeStart (knd.hash k))).j)++(SetTable.advs t.mask N (t.probeStart (knd.hash k))).j::t.place.toList.drop (SetTable.below t.place (SetTable.advs t.mask N (t.probeStart (knd.hash k))).j))[i]? =some j:=by
   rw [<-SetTable.dY,Array.getElem?_toList];exact h1
  have gp:=get_ins (by rw [Array.length_toList];exact hb) h1'
  have gx:=get_ins hbx h2
  rcases gp with ⟨z1,z2⟩|⟨z1,z2⟩|⟨z1,z2⟩
  ·rcases gx with ⟨y1,y2⟩|⟨y1,y2⟩|⟨y1,y2⟩
   ·exact(S.way i j x (by rw [<-Array.getElem?_toList];exact z2) y2).put S.good hN
   ·omega
   ·omega
  ·rcases gx with ⟨y1,y2⟩|⟨y1,y2⟩|⟨y1,y2⟩
   ·omega
   ·rw [z2,y2]
    exact SetTable.oO.new S.good hN first
   ·omega
  ·rcases gx with ⟨y1,y2⟩|⟨y1,y2⟩|⟨y1,y2⟩
   ·omega
   ·omega
   ·exact(S.way (i-1) j x (by rw [<-Array.getElem?_toList];exact z2) y2).put S.good hN
end
end PySem
namespace PySem
namespace SetTable
def stP (M:Nat) (i perturb:Nat):Probe:={j:=i,more:=runEnd M i-i,i,perturb,dummy:=none}
def st (M:Nat) (h:Int):Probe:=stP M (bits h % (M+1)) (bits h)
theorem uX (M i perturb:Nat):∀k,k<=runEnd M i-i->(advs M k (stP M i perturb))={stP M i perturb with j:=i+k,more:=runEnd M i-i-k}:=by
 have gen:∀(k:Nat) (p:Probe),k<=p.more->advs M k p={p with j:=p.j+k,more:=p.more-k}:=by
  intro k
  induction k with
  |zero=>intro p _;rfl
  |succ k ih=>
   intro p hk
   rw [advs]
   have e:adv M p={p with j:=p.j+1,more:=p.more-1}:=by unfold adv;rw [if_pos (by omega)]
   rw [e,ih _ (by show k<=p.more-1;omega)]
   have e1:p.j+1+k=p.j+(k+1):=by omega
   have e2:p.more-1-k=p.more-(k+1):=by omega
   show({p with j:=p.j+1+k,more:=p.more-1-k}:Probe)=_
   rw [e1,e2]
 intro k hk
 exact gen k _ hk
theorem aDm (M i perturb:Nat):advs M (runEnd M i-i+1) (stP M i perturb)=stP M (leap M i perturb).1 (leap M i perturb).2:=by
 rw [oU,uX M i perturb _ (Nat.le_refl _),Nat.sub_self,advs,advs]
 unfold adv
 rw [if_neg (by show¬(0>0);omega)]
 rfl
theorem aNx {M:Nat} {owner:Array (Option Nat)} (hsz:owner.size=M+1):∀(fuel i perturb:Nat) (j:Nat),layClean.free M owner fuel i perturb=some j->
  owner[j]? =some none/\∃n,(advs M n (stP M i perturb)).j=j/\∀m,m<n->owner[(advs M m (stP M i perturb)).j]? ≠some none:=by
 intro fuel
 induction fuel with
 |zero=>intro i perturb j e;cases e
 |succ fuel ih=>
  intro i perturb j e
  have key:layClean.free M owner (fuel+1) i perturb=match (List.range (runEnd M i+1-i)).find? fun k=>(owner.getD (i+k) (some 0)).isNone with|some k=>some (i+k)|none=>layClean.free M owner fuel (leap M i perturb).1 (leap M i perturb).2:=rfl
  rw [key]at e
  have none_of:∀x,(owner.getD x (some 0)).isNone=true↔owner[x]? =some none:=fun x=>by
   by_cases hx:x<owner.size
   ·simp [Array.getD,hx]
   ·simp [Array.getD,hx]
  have hre:runEnd M i+1-i=runEnd M i-i+1:=by unfold runEnd;split<;>omega
  cases hf:(List.range (runEnd M i+1-i)).find? fun k=>(owner.getD (i+k) (some 0)).isNone with
  |some k=>
   rw [hf]at e
   cases e
   have h1:=List.find?_some hf
   have h2:=List.mem_range.mp (List.mem_of_find?_eq_some hf)
   refine⟨(none_of _).mp h1,k,by rw [uX M i perturb k (by omega)],fun m hm=>?_⟩
   rw [uX M i perturb m (by omega)]
   intro z
   have z':owner[i+m]? =some none:=z
   rw [List.find?_eq_some_iff_append]at hf
   obtain⟨_,as,bs,e1,e2⟩:=hf
   have hk:as.length=k:=by
    have h3:(List.range (runEnd M i+1-i))[as.length]? =some k:=by rw [e1];simp
    rw [List.getElem?_range (by have:=congrArg List.length e1;simp at this;omega)]at h3
    exact Option.some.inj h3
   have h4:m∈as:=by
    have h5:(List.range (runEnd M i+1-i))[m]? =some m:=List.getElem?_range (by omega)
    rw [e1,List.getElem?_append_left (by omega)]at h5
    exact List.mem_of_getElem? h5
   have:=e2 m h4
   rw [(none_of _).mpr z']at this
   exact absurd this (by decide)
  |none=>
   rw [hf]at e
   obtain⟨b1,n,b2,b3⟩:=ih _ _ _ e
   refine⟨b1,runEnd M i-i+1+n,by rw [oU,aDm];exact b2,fun m hm=>?_⟩
   rcases Nat.lt_or_ge m (runEnd M i-i+1)with z|z
   ·rw [uX M i perturb m (by omega)]
    intro y
    have y':owner[i+m]? =some none:=y
    have:=List.find?_eq_none.mp hf m (List.mem_range.mpr (by omega))
    exact this ((none_of _).mpr y')
   ·obtain⟨d,rfl⟩:∃d,m=runEnd M i-i+1+d:=⟨m-(runEnd M i-i+1),by omega⟩
    rw [oU,aDm]
    exact b3 d (by omega)
theorem aI3 {M:Nat} {owner:Array (Option Nat)} {e:Nat} (he:owner[e]? =some none):∀(fuel i perturb L:Nat),(fQ M L (i,perturb)).1=e->L<fuel->∃j,layClean.free M owner fuel i perturb=some j:=by
 intro fuel
 induction fuel with
 |zero=>intro i perturb L _ h;omega
 |succ fuel ih=>
  intro i perturb L h1 h2
  have key:layClean.free M owner (fuel+1) i perturb=match (List.range (runEnd M i+1-i)).find? fun k=>(owner.getD (i+k) (some 0)).isNone with|some k=>some (i+k)|none=>layClean.free M owner fuel (leap M i perturb).1 (leap M i perturb).2:=rfl
  rw [key]
  cases hf:(List.range (runEnd M i+1-i)).find? fun k=>(owner.getD (i+k) (some 0)).isNone with
  |some k=>exact⟨_,rfl⟩
  |none=>
   cases L with
   |zero=>
    have h1':i=e:=h1
    subst h1'
    have hr:0<runEnd M i+1-i:=by unfold runEnd;split<;>omega
    have:=List.find?_eq_none.mp hf 0 (List.mem_range.mpr hr)
    have hs:i<owner.size:=(Array.getElem?_eq_some_iff.mp he).1
    have h3:owner[i]=none:=(Array.getElem?_eq_some_iff.mp he).2
    exact absurd (by simp [Array.getD,hs,h3]) this
   |succ L=>exact ih _ _ L h1 (by omega)
structure Lay (M:Nat) (hs:List Int) (owner:Array (Option Nat)):Prop where
 size:owner.size=M+1
 has:∀i,i<hs.length->∃j:Nat,owner[j]? =some (some i)
 low:∀(j i:Nat),owner[j]? =some (some i)->i<hs.length
 uniq:∀(j j' i:Nat),owner[j]? =some (some i)->owner[j']? =some (some i)->j=j'
 way:∀(j i:Nat) (h:Int),owner[j]? =some (some i)->hs[i]? =some h->∃n,(advs M n (st M h)).j=j/\∀m,m<n->owner[(advs M m (st M h)).j]? ≠some none
theorem Lay.start (M:Nat):Lay M [] (Array.replicate (M+1) none):=by
 have no:∀(j i:Nat),(Array.replicate (M+1) (none:Option Nat))[j]? ≠some (some i):=fun j i e=>by
  rw [Array.getElem?_replicate]at e
  split at e<;>cases e
 exact⟨by simp,fun i h=>absurd h (Nat.not_lt_zero i),fun j i e=>absurd e (no j i),fun j j' i e=>absurd e (no j i),fun j i h e=>absurd e (no j i)⟩
theorem Lay.empty {M:Nat} {hs:List Int} {owner:Array (Option Nat)} (L:Lay M hs owner) (hl:hs.length<=M):∃e,e<=M/\owner[e]? =some none:=by
 refine Classical.byContradiction fun no=>?_
 have all:∀j,j<=M->∃i,owner[j]? =some (some i):=fun j hj=>by
  have hs:j<owner.size:=by rw [L.size];omega
  cases g:owner[j]with
  |none=>exact absurd ⟨j,hj,by rw [Array.getElem?_eq_getElem hs,g]⟩ no
  |some i=>exact⟨i,by rw [Array.getElem?_eq_getElem hs,g]⟩
 have f:∀j,∃i,j<=M->owner[j]? =some (some i):=fun j=>by
  by_cases hj:j<=M
  ·obtain⟨i,hi⟩:=all j hj;exact⟨i,fun _=>hi⟩
  ·exact⟨0,fun z=>absurd z hj⟩
 obtain⟨F,hF⟩:=Classical.axiomOfChoice f
 have nd:((List.range (M+1)).map F).Nodup:=by
  rw [List.Nodup,List.pairwise_map]
  refine(List.nodup_range (n:=M+1)).imp_of_mem fun{a b} ha hb hab z=>hab ?_
  have h1:=hF a (by have:=List.mem_range.mp ha;omega)
  have h2:=hF b (by have:=List.mem_range.mp hb;omega)
  rw [z]at h1
  exact L.uniq a b _ h1 h2
 have sub:(List.range (M+1)).map F ⊆ List.range hs.length:=fun x hx=>by
  obtain⟨j,hj,rfl⟩:=List.mem_map.mp hx
  exact List.mem_range.mpr (L.low j _ (hF j (by have:=List.mem_range.mp hj;omega)))
 have:=nd.length_le_of_subset sub
 rw [List.length_map,List.length_range,List.length_range]at this
 omega
theorem Lay.step {M:Nat} {hs:List Int} {owner:Array (Option Nat)} (R:Round M) (L:Lay M hs owner) (hl:hs.length<=M) (h:Int):∃j,layClean.free M owner (turns M) (bits h % (M+1)) (bits h)=some j/\Lay M (hs++[h]) (owner.setIfInBounds j (some hs.length)):=by
 obtain⟨e,he,e1⟩:=L.empty hl
 have hb:bits h<2 ^ 64:=by
  unfold bits
  have h1:=Int.emod_nonneg h (show((2:Int) ^ 64)≠0 by decide)
  have h2:=Int.emod_lt_of_pos h (show(0:Int)<2 ^ 64 by decide)
  omega
 obtain⟨Lp,_,l2,l3⟩:=yK R he (bits h % (M+1)) (bits h) hb
 obtain⟨j,hj⟩:=aI3 e1 (turns M) _ _ Lp l3 (by unfold turns;omega)
 obtain⟨w1,n,w2,w3⟩:=aNx L.size _ _ _ _ hj
 have hjs:j<owner.size:=(Array.getElem?_eq_some_iff.mp w1).1
 have at_:∀x,(owner.setIfInBounds j (some hs.length))[x]? =if x=j then some (some hs.length)else owner[x]? :=fun x=>by
  rw [Array.getElem?_setIfInBounds]
  by_cases z:j=x
  ·subst z;simp [hjs]
  ·rw [if_neg z,if_neg (fun y=>z y.symm)]
 have occ:∀x,owner[x]? ≠some none->(owner.setIfInBounds j (some hs.length))[x]? ≠some none:=fun x z=>by
  rw [at_]
  split
  ·intro y;cases y
  ·exact z
 refine⟨j,hj,⟨by simp [L.size],fun i hi=>?_,fun x i g=>?_,fun x y i g1 g2=>?_,fun x i h' g g'=>?_⟩⟩
 ·rw [List.length_append,List.length_singleton]at hi
  by_cases z:i<hs.length
  ·obtain⟨x,hx⟩:=L.has i z
   refine⟨x,?_⟩
   rw [at_,if_neg (fun y=>by subst y;rw [w1]at hx;cases hx)]
   exact hx
  ·exact⟨j,by rw [at_,if_pos rfl,show i=hs.length by omega]⟩
 ·rw [at_]at g
  rw [List.length_append,List.length_singleton]
  split at g
  ·cases g;omega
  ·have:=L.low x i g;omega
 ·rw [at_]at g1
  rw [at_]at g2
  split at g1
  ·split at g2
   ·omega
   ·cases g1
    exact absurd (L.low y _ g2) (Nat.lt_irrefl _)
  ·split at g2
   ·cases g2
    exact absurd (L.low x _ g1) (Nat.lt_irrefl _)
   ·exact L.uniq x y i g1 g2
 ·rw [at_]at g
  split at g
  ·cases g
   rw [List.getElem?_append_right (Nat.le_refl _),Nat.sub_self]at g'
   cases g'
   subst x
   exact⟨n,w2,fun m hm=>occ _ (w3 m hm)⟩
  ·have:=L.low x i g
   rw [List.getElem?_append_left this]at g'
   obtain⟨n',a1,a2⟩:=L.way x i h' g g'
   exact⟨n',a1,fun m hm=>occ _ (a2 m hm)⟩
theorem aIy {M:Nat} (R:Round M):∀(l hs:List Int) (owner:Array (Option Nat)),Lay M hs owner->hs.length+l.length<=M+1->∃owner',(l.foldl (init:=some (owner,hs.length)) fun acc h=>do
   let(owner,k)<-acc
   let j<-layClean.free M owner (turns M) (bits h % (M+1)) (bits h)
   pure (owner.setIfInBounds j (some k),k+1))=some (owner',(hs++l).length)/\Lay M (hs++l) owner'
 | [],hs,owner,L,_=>⟨owner,by simp,by simpa using L⟩
 |h::l,hs,owner,L,hl=>by
  rw [List.length_cons]at hl
  obtain⟨j,hj,L'⟩:=L.step R (by omega) h
  obtain⟨o',e1,e2⟩:=aIy R l (hs++[h]) _ L' (by rw [List.length_append,List.length_singleton];omega)
  refine⟨o',?_,by simpa using e2⟩
  rw [List.foldl_cons]
  have:(do
   let(owner,k)<-some (owner,hs.length)
   let j<-layClean.free M owner (turns M) (bits h % (M+1)) (bits h)
   pure (owner.setIfInBounds j (some k),k+1):Option (Array (Option Nat)×Nat))=some (owner.setIfInBounds j (some hs.length),hs.length+1):=by
   show(layClean.free M owner (turns M) (bits h % (M+1)) (bits h)).bind _=_
   rw [hj]
   rfl
  rw [this]
  rw [List.length_append,List.length_singleton]at e1
  rw [e1]
  simp
theorem zN {M:Nat} (R:Round M) (hashes:Array Int) (hl:hashes.size<=M+1):∃owner,layClean M hashes=some owner/\Lay M hashes.toList owner:=by
 obtain⟨o',e1,e2⟩:=aIy R hashes.toList [] _ (Lay.start M) (by simpa using hl)
 refine⟨o',?_,by simpa using e2⟩
 unfold layClean
 rw [<-Array.foldl_toList]
 have e1':=e1
 rw [List.length_nil]at e1'
 rw [e1']
 rfl
def fV (M:Nat) (owner:Array (Option Nat)):List (Nat×Nat):=(List.range (M+1)).filterMap fun j=>(owner.getD j none).map (j,·)
theorem jP {M:Nat} {owner:Array (Option Nat)} (hsz:owner.size=M+1) {j i:Nat}:(j,i)∈fV M owner↔owner[j]? =some (some i):=by
 unfold fV
 rw [List.mem_filterMap]
 constructor
 ·rintro⟨x,hx,e⟩
  obtain⟨y,hy,e2⟩:=Option.map_eq_some_iff.mp e
  cases e2
  have hs:j<owner.size:=by rw [hsz];exact List.mem_range.mp hx
  have hy':owner[j]=some i:=by simpa [Array.getD,hs]using hy
  rw [Array.getElem?_eq_getElem hs,hy']
 ·intro e
  obtain⟨hs,e2⟩:=Array.getElem?_eq_some_iff.mp e
  refine⟨j,List.mem_range.mpr (by omega),?_⟩
  have:owner.getD j none=some i:=by simp [Array.getD,hs,e2]
  rw [this]
  rfl
theorem rZ (M:Nat) (owner:Array (Option Nat)):((fV M owner).map (·.1)).Pairwise (·<·):=by
 unfold fV
 rw [List.pairwise_map,List.pairwise_filterMap]
 refine(List.pairwise_lt_range (n:=M+1)).imp fun{a b} hab x hx y hy=>?_
 obtain⟨_,_,rfl⟩:=Option.map_eq_some_iff.mp hx
 obtain⟨_,_,rfl⟩:=Option.map_eq_some_iff.mp hy
 exact hab
theorem aGb {M:Nat} {hs:List Int} {owner:Array (Option Nat)} (L:Lay M hs owner):((fV M owner).map (·.2)).Perm (List.range hs.length):=by
 have nd:((fV M owner).map (·.2)).Nodup:=by
  rw [List.Nodup,List.pairwise_map]
  have h1:=rZ M owner
  rw [List.pairwise_map]at h1
  refine h1.imp_of_mem fun{a b} ha hb hab z=>?_
  have g1:=(jP L.size).mp (show(a.1,a.2)∈_ from ha)
  have g2:=(jP L.size).mp (show(b.1,b.2)∈_ from hb)
  rw [z]at g1
  have:=L.uniq _ _ _ g1 g2
  omega
 refine(List.perm_ext_iff_of_nodup nd List.nodup_range).mpr fun i=>?_
 rw [List.mem_range,List.mem_map]
 constructor
 ·rintro⟨⟨j,i'⟩,hm,rfl⟩
  exact L.low j _ ((jP L.size).mp hm)
 ·intro hi
  obtain⟨j,hj⟩:=L.has i hi
  exact⟨(j,i),(jP L.size).mpr hj,rfl⟩
theorem aRd (M:Nat) {p:Probe} (h:p.j+p.more<=M):(adv M p).j+(adv M p).more<=M:=by
 unfold adv
 split
 ·show p.j+1+(p.more-1)<=M;omega
 ·show(leap M p.i p.perturb).1+(runEnd M (leap M p.i p.perturb).1-(leap M p.i p.perturb).1)<=M
  have:(leap M p.i p.perturb).1<=M:=by
   show(p.i*5+1+p.perturb / 32) % (M+1)<=M
   have:=Nat.mod_lt (p.i*5+1+p.perturb / 32) (show 0<M+1 by omega)
   omega
  unfold runEnd
  split<;>omega
theorem xY (M:Nat):∀(n:Nat) {p:Probe},p.j+p.more<=M->(advs M n p).j<=M
 |0,_,h=>by rw [advs];omega
 |n+1,_,h=>by rw [advs];exact xY M n (aRd M h)
theorem aOa (M:Nat) (h:Int):(st M h).j+(st M h).more<=M:=by
 show bits h % (M+1)+(runEnd M (bits h % (M+1))-bits h % (M+1))<=M
 have:=Nat.mod_lt (bits h) (show 0<M+1 by omega)
 unfold runEnd
 split<;>omega
theorem aI9 {M:Nat} (R:Round M) (finger moves:Nat) (led plain:Bool) (hashes:Array Int) (hl:hashes.size<=M):
  ∃t order,laid M finger moves led plain hashes=some (t,order)/\t.mask=M/\t.led=led/\t.plain=plain/\t.moves=moves/\t.Good/\t.place.size=hashes.size/\order.toList.Perm (List.range hashes.size)/\
   ∀(r j i:Nat) (h:Int),t.place[r]? =some j->order[r]? =some i->hashes[i]? =some h->oO t h j:=by
 obtain⟨owner,e1,L⟩:=zN R hashes (by omega)
 have Pm:=aGb L
 have Ps:(fV M owner).length=hashes.size:=by
  have:=Pm.length_eq
  rw [List.length_map,List.length_range,Array.length_toList]at this
  exact this
 refine⟨{mask:=M,place:=((fV M owner).map (·.1)).toArray,dummies:= #[],finger,led,moves,plain},((fV M owner).map (·.2)).toArray,?_,rfl,rfl,rfl,rfl,?_,?_,?_,?_⟩
 ·unfold laid
  rw [e1]
  rfl
 ·refine⟨rfl,rR.mpr (rZ M owner),fun j hj=>?_,?_,R⟩
  ·obtain⟨⟨j',i⟩,hm,rfl⟩:=List.mem_map.mp hj
   have:=(Array.getElem?_eq_some_iff.mp ((jP L.size).mp hm)).1
   show j'<=M
   rw [L.size]at this
   omega
  ·show((fV M owner).map (·.1)).toArray.size<=M
   rw [List.size_toArray,List.length_map,Ps]
   exact hl
 ·show((fV M owner).map (·.1)).toArray.size=_
  rw [List.size_toArray,List.length_map,Ps]
 ·show((fV M owner).map (·.2)).Perm _
  rw [Array.length_toList]at Pm
  exact Pm
 ·intro r j i h h1 h2 h3
  have g1:((fV M owner).map (·.1))[r]? =some j:=by simpa using h1
  have g2:((fV M owner).map (·.2))[r]? =some i:=by simpa using h2
  rw [List.getElem?_map]at g1 g2
  obtain⟨x,hx,rfl⟩:=Option.map_eq_some_iff.mp g1
  rw [hx]at g2
  cases g2
  have hm:=(jP L.size).mp (show(x.1,x.2)∈_ from List.mem_of_getElem? hx)
  obtain⟨n,w1,w2⟩:=L.way x.1 x.2 h hm (by rw [Array.getElem?_toList];exact h3)
  refine⟨n,w1,fun m hm' z=>w2 m hm' ?_⟩
  have z1:=(eV (t:={mask:=M,place:=((fV M owner).map (·.1)).toArray,dummies:= #[],finger,led,moves,plain}) (rR.mpr (rZ M owner)) rfl).mp z
  have low:(advs M m (st M h)).j<=M:=xY M m (aOa M h)
  have hs:(advs M m (st M h)).j<owner.size:=by rw [L.size];omega
  cases g:owner[(advs M m (st M h)).j]with
  |none=>rw [Array.getElem?_eq_getElem hs,g]
  |some i'=>
   have g':owner[(advs M m (st M h)).j]? =some (some i'):=by rw [Array.getElem?_eq_getElem hs,g]
   exact absurd (List.mem_map.mpr ⟨((advs M m (st M h)).j,i'),(jP L.size).mpr g',rfl⟩) z1
end SetTable
end PySem
namespace PySem
open Sem (wp)
theorem filterMap_get {α β:Type} {f:α->Option β}:∀{l:List α},(∀i∈l,∃y,f i=some y)->∀r:Nat,(l.filterMap f)[r]? =l[r]?.bind f
 | [],_,r=>by simp
 |a::l,h,r=>by
  obtain⟨y,hy⟩:=h a (List.mem_cons_self ..)
  rw [List.filterMap_cons_some hy]
  cases r with
  |zero=>simp [hy]
  |succ r=>
   rw [List.getElem?_cons_succ,List.getElem?_cons_succ]
   exact filterMap_get (fun i hi=>h i (List.mem_cons_of_mem _ hi)) r
theorem nJ {α:Type} (l:List α):(List.range l.length).filterMap (fun i:Nat=>l[i]?)=l:=by
 apply List.ext_getElem?
 intro r
 rw [filterMap_get (fun i hi=>⟨l[i]'(List.mem_range.mp hi),List.getElem?_eq_getElem (List.mem_range.mp hi)⟩)]
 by_cases h:r<l.length
 ·rw [List.getElem?_range h];rfl
 ·rw [List.getElem?_eq_none (by rw [List.length_range];omega),List.getElem?_eq_none (by omega)];rfl
section
variable {prog:Program} {w:World} {K:Type} [DecidableEq K] {knd:HeapKind prog w K} {A:Around} {E:Value->Shared->Prop} {s:Shared} {a b:Addr} {o:Obj} {es:Array (Int×Value)} {ep:Nat} {t:SetTable} {xs:List (K×Addr)} {k:K}
theorem gQ.relaid (S:gQ knd s a o es ep t xs) (hkeep:∀h',Heap.SameBut a s.heap h'->∀x c,knd.is s.heap x c->knd.is h' x c) {wanted:Nat} (R:SetTable.Round (SetTable.sizeAbove wanted-1)) (hl:es.size<=SetTable.sizeAbove wanted-1):
  ∃t' order,t.relaid (es.map (·.1)) wanted=some (t',order)/\(order.filterMap (es[·]?)).size=es.size/\t'.mask=SetTable.sizeAbove wanted-1/\t'.led=t.led/\t'.plain=t.plain/\∃xs':List (K×Addr),xs'.Perm xs/\
   gQ knd {s with heap:=s.heap.update a (Obj.putSet (order.filterMap (es[·]?)) t')} a (Obj.putSet (order.filterMap (es[·]?)) t' o) (order.filterMap (es[·]?)) (ep+1) t' xs':=by
 obtain⟨t',order,e1,e2,e3,e4,e5,G,sz,pm,wy⟩:=SetTable.aI9 R t.finger (t.movedTo (SetTable.sizeAbove wanted-1)) t.led t.plain (es.map (·.1)) (by rw [Array.size_map];exact hl)
 rw [Array.size_map]at sz pm
 have hin:∀i∈order.toList,∃y,xs[i]? =some y:=fun i hi=>by
  have:=List.mem_range.mp (pm.mem_iff.mp hi)
  rw [S.len]at this
  exact⟨xs[i],List.getElem?_eq_getElem this⟩
 have el:(order.filterMap (es[·]?)).toList=(order.toList.filterMap fun i:Nat=>xs[i]?).map fun x=>(knd.hash x.1,Value.ref x.2):=by
  rw [Array.toList_filterMap,List.map_filterMap]
  congr 1
  funext i
  exact S.entry i
 have px:(order.toList.filterMap fun i:Nat=>xs[i]?).Perm xs:=by
  have:=pm.filterMap fun i:Nat=>xs[i]?
  rw [S.len,nJ]at this
  exact this
 have esz:(order.filterMap (es[·]?)).size=es.size:=by rw [<-Array.length_toList,el,List.length_map,px.length_eq,S.len]
 have hnf:(Obj.putSet (order.filterMap (es[·]?)) t' o).isFreed=false:=by
  rw [putSet_of _ _ S.hd]
  rfl
 refine⟨t',order,e1,esz,e2,e3,e4,_,px,⟨Heap.get?_update_self _ S.ho hnf,rA _ _ S.hd S.hex,by rw [putSet_of _ _ S.hd],el,G,by rw [sz,esz],fun x hx=>hkeep _ (Heap.SameBut.update ..) _ _ (S.keys x (px.mem_iff.mp hx)),?_,fun r j x h1 h2=>?_⟩⟩
 ·rw [(px.map (·.1)).nodup_iff];exact S.nd
 ·rw [filterMap_get hin]at h2
  obtain⟨i,hi,hx⟩:=Option.bind_eq_some_iff.mp h2
  refine wy r j i _ h1 (by rw [<-Array.getElem?_toList];exact hi) ?_
  rw [Array.getElem?_map,S.entry i,hx]
  rfl
theorem sZ (S:gQ knd s a o es ep t xs) (hkeep:∀h',Heap.SameBut a s.heap h'->∀x c,knd.is s.heap x c->knd.is h' x c) {wanted:Nat} (R:SetTable.Round (SetTable.sizeAbove wanted-1)) (hl:es.size<=SetTable.sizeAbove wanted-1) (hsz:SetTable.sizeAbove wanted<=sizeLine) {Q:Unit->Shared->Prop}
  (h:∀(h':Heap) (o':Obj) (es':Array (Int×Value)) (t':SetTable) (xs':List (K×Addr)),Heap.SameBut a s.heap h'->xs'.Perm xs->t'.mask=SetTable.sizeAbove wanted-1->t'.led=t.led->t'.plain=t.plain->gQ knd {s with heap:=h'} a o' es' (ep+1) t' xs'->Q () {s with heap:=h'}):
  wpAny (model prog w) A (setRelay a wanted) Q E s:=by
 obtain⟨t',order,e1,e2,e3,e4,e5,xs',px,S'⟩:=S.relaid hkeep R hl
 unfold setRelay
 refine wpAny_bind (wpAny_setState_of S.ho S.hd S.fits ?_)
 dsimp only
 rw [if_neg (by omega)]
 refine wpAny_bind ?_
 rw [e1]
 show wpAny _ _ (if(order.filterMap (es[·]?)).size != es.size then _ else pure (order.filterMap (es[·]?),t')) _ _ _
 rw [if_neg (by rw [e2];simp)]
 refine wpAny_pure ?_
 refine wpAny_storeSet_of S.ho S.hd (h _ _ _ _ xs' (Heap.SameBut.update ..) px e3 e4 e5 S') ?_
 rw [e2]
 omega
end
end PySem
namespace PySem
open Sem (wp)
namespace SetTable
variable {t:SetTable}
theorem aE2 (G:t.Good) (h:Int):∃N,N<10*turns t.mask/\t.slot (advs t.mask N (t.probeStart h)).j= .empty/\∀m,m<N->t.slot (advs t.mask m (t.probeStart h)).j≠ .empty:=by
 obtain⟨N,h1,h2⟩:=aFh G.round G.dum G.room (t.probeStart h) (aEd t h).1 (aEd t h).2
 induction N using Nat.strongRecOn with
 |_ N ih=>
  by_cases hx:∃m,m<N/\t.slot (advs t.mask m (t.probeStart h)).j= .empty
  ·obtain⟨m,hm,e⟩:=hx
   exact ih m hm (by omega) e
  ·exact⟨N,h1,h2,fun m hm e=>hx ⟨m,hm,e⟩⟩
def Small (t:SetTable):Prop:=(t.mask=7/\t.place.size<=4)∨(t.mask=31/\t.place.size<=18)
theorem Small.odd (S:t.Small):t.mask % 2=1:=by rcases S with ⟨e,_⟩|⟨e,_⟩<;>rw [e]
end SetTable
section
variable {prog:Program} {w:World} {K:Type} [DecidableEq K] (knd:HeapKind prog w K)
def jA (s:Shared) (a:Addr) (l:Bool) (xs:List (K×Addr)):Prop:=∃o es ep t,gQ knd s a o es ep t xs/\t.Small/\t.plain=true/\t.led=l
variable {knd} {A:Around} {E:Value->Shared->Prop} {s:Shared} {a b:Addr} {o:Obj} {es:Array (Int×Value)} {ep:Nat} {t:SetTable} {xs:List (K×Addr)} {k:K} {l:Bool}
theorem jA.at (D:pF knd) {s':Shared} (S:jA knd s a l xs) (h1:∀o,s.heap.get? a=some o->s'.heap.get? a=some o) (h2:∀b o,o.cls= .type "tuple"->s.heap.get? b=some o->s'.heap.get? b=some o):jA knd s' a l xs:=by
 obtain⟨o,es,ep,t,S,r⟩:=S
 exact⟨o,es,ep,t,⟨h1 o S.ho,S.hex,S.hd,S.he,S.good,S.size,fun x hx=>D.mono (S.keys x hx) h2,S.nd,S.way⟩,r⟩
theorem aFq (x:Addr) (es:Array (Int×Value)):byScan (.ref x) es=false:=rfl
theorem lE (D:pF knd) (S:jA knd s a l xs) (hn:xs.length<18) (hu:knd.room A) (hkey:knd.is s.heap k b) {Q:Bool->Shared->Prop}
  (hold:(∃x∈xs,x.1=k)->Q false s)
  (hnew:(∀x∈xs,x.1≠k)->∀h' xs',Heap.SameBut a s.heap h'->xs'.Perm ((k,b)::xs)->jA knd {s with heap:=h'} a l xs'->Q true {s with heap:=h'}):
  wpAny (model prog w) A (setAddHashed a (.ref b) (knd.hash k)) Q E s:=by
 obtain⟨o,es,ep,t,S,sm,pl,rfl⟩:=S
 unfold setAddHashed
 refine wpAny_holding ?_
 unfold setAddHashedIn
 refine wpAny_bind (wpAny_setState_of S.ho S.hd S.fits ?_)
 dsimp only
 rw [aFq]
 simp only [Bool.false_eq_true,if_false]
 obtain⟨N,n1,n2,n3⟩:=SetTable.aE2 S.good (knd.hash k)
 have bigm:10*SetTable.turns t.mask<=100000:=by
  unfold SetTable.turns
  rcases sm with ⟨e,_⟩|⟨e,_⟩<;>rw [e]<;>decide
 refine wpAny_bind (qX S sm.odd D hu hkey n2 n1 n3 (fun h=>?_) (fun h=>?_) 100000 0 none rfl (Nat.zero_le _) (by omega) fun m hm=>absurd hm (Nat.not_lt_zero m))
 ·exact wpAny_pure (hold h)
 ·dsimp only
  refine wpAny_bind (wpAny_setState_of S.ho S.hd S.fits ?_)
  dsimp only
  have lowj:(SetTable.advs t.mask N (t.probeStart (knd.hash k))).j<=t.mask:=SetTable.xY _ _ (SetTable.aOa _ _)
  have hsz:t.place.size+1<=t.mask:=by rcases sm with ⟨e,h⟩|⟨e,h⟩<;>omega
  have S':=S.add hkey h (fun h' sb x c hx=>D.keep hx S.ho S.hex sb) n2 n3 lowj hsz rfl rfl
  have hb:=(SetTable.fW S.good.rise (SetTable.advs t.mask N (t.probeStart (knd.hash k))).j).1
  have psz:(t.put (SetTable.advs t.mask N (t.probeStart (knd.hash k))).j).1.place.size=t.place.size+1:=by
   rw [SetTable.iB S.good.dum]
   exact SetTable.kE _ _ hb
  have pmk:(t.put (SetTable.advs t.mask N (t.probeStart (knd.hash k))).j).1.mask=t.mask:=by rw [SetTable.iB S.good.dum]
  have ppl:(t.put (SetTable.advs t.mask N (t.probeStart (knd.hash k))).j).1.plain=true:=by rw [SetTable.iB S.good.dum];exact pl
  have pld:(t.put (SetTable.advs t.mask N (t.probeStart (knd.hash k))).j).1.led=t.led:=by rw [SetTable.iB S.good.dum]
  have p2:(t.put (SetTable.advs t.mask N (t.probeStart (knd.hash k))).j).2=SetTable.below t.place (SetTable.advs t.mask N (t.probeStart (knd.hash k))).j:=by rw [SetTable.iB S.good.dum]
  have pm:=(List.perm_middle (a:=(k,b)) (l₁:=xs.take (SetTable.below t.place (SetTable.advs t.mask N (t.probeStart (knd.hash k))).j)) (l₂:=xs.drop (SetTable.below t.place (SetTable.advs t.mask N (t.probeStart (knd.hash k))).j)))
  rw [List.take_append_drop]at pm
  have fl:(t.put (SetTable.advs t.mask N (t.probeStart (knd.hash k))).j).1.fill=t.place.size+1:=by
   unfold SetTable.fill
   rw [psz,S'.good.dum]
   rfl
  rw [ppl]
  simp only [if_true]
  refine wpAny_bind (D.byValue hkey ?_)
  simp only [if_true,p2]
  have els:=S'.len
  have eln:=S.len
  have hxl:=pm.length_eq
  rw [List.length_cons]at hxl
  refine wpAny_bind (wpAny_storeSet_of S.ho S.hd ?_ (by rw [els,hxl];unfold sizeLine;omega))
  by_cases full:(t.put (SetTable.advs t.mask N (t.probeStart (knd.hash k))).j).1.tooFull=true
  ·rw [full]
   simp only [Bool.not_false,Bool.and_self,if_true]
   have fd:t.mask=7/\t.place.size=4:=by
    unfold SetTable.tooFull at full
    rw [fl,pmk]at full
    have full:=of_decide_eq_true full
    have:=S.size
    rcases sm with ⟨e,h⟩|⟨e,h⟩<;>rw [e]at full<;>omega
   have e5:es.size=4:=by rw [<-S.size];exact fd.2
   have eg:SetTable.sizeAbove (SetTable.grown (es.size+1))=32:=by rw [e5];decide
   refine wpAny_bind (sZ S' (fun h' sb x c hx=>D.keep hx S'.ho S'.hex sb) (by rw [eg];exact SetTable.aQx) (by rw [els,hxl,eg, <-eln,e5];decide) (by rw [eg];unfold sizeLine;omega) fun h' o' es' t' xs' sb px e1 e2 e3 S2=>?_)
   refine wpAny_pure ?_
   refine hnew h h' xs' (Heap.SameBut.trans (Heap.SameBut.update ..) sb) (px.trans pm) ⟨o',es',_,t',S2,.inr ⟨by rw [e1,eg],?_⟩,by rw [e3];exact ppl,by rw [e2];exact pld⟩
   rw [S2.size,S2.len,px.length_eq,hxl, <-eln,e5]
   decide
  ·have full:=Bool.eq_false_iff.mpr full
   rw [full]
   simp only [Bool.and_false,Bool.false_eq_true,if_false]
   refine wpAny_pure (hnew h _ _ (Heap.SameBut.update ..) pm ⟨_,_,_,_,S',?_,ppl,pld⟩)
   unfold SetTable.tooFull at full
   rw [fl,pmk]at full
   have full:=of_decide_eq_false full
   have sz:=S.size
   unfold SetTable.Small
   rw [pmk,psz]
   rcases sm with ⟨e,h⟩|⟨e,h⟩
   ·left
    rw [e]at full
    exact⟨e,by omega⟩
   ·right
    exact⟨e,by omega⟩
end
end PySem
namespace PySem
open Sem (wp)
theorem uR (n:Nat) (i:Int) (tk):hashByValue n (.int i tk)=pure true:=by cases n<;>rfl
theorem rM (n:Nat) {v:Value} (h:carriedByValue v=true):ofAClassStatement n v=pure false:=by
 cases v with
 |ref a=>cases h
 |_=>first|rfl|(unfold ofAClassStatement;rfl)
section
variable {prog:Program} {w:World} {K:Type} [DecidableEq K] {knd:KeyKind prog w K} {A:Around} {E:Value->Shared->Prop} {s:Shared}
theorem oW {n:Nat} {ks:List K} {a:Addr} {Q:Bool->Shared->Prop} (hk:IsTupleKey knd s.heap ks a) (h:Q false s):wpAny (model prog w) A (ofAClassStatement (n+1) (.ref a)) Q E s:=by
 have hT:=hk.typeIs
 obtain⟨o,items,m,ho,_,hd,hi⟩:=hk
 unfold ofAClassStatement
 refine wpAny_bind (wpAny_typeOf hT ?_)
 dsimp only
 simp only [beq_self_eq_true,if_true]
 refine wpAny_bind (wpAny_pure ?_)
 simp only [Bool.not_true,Bool.false_eq_true,if_false]
 refine wpAny_bind (wpAny_seqItems ho hd ?_)
 dsimp only
 refine wpAny_bind ?_
 rw [<-Array.forIn_toList]
 refine wpAny_forIn_list _ (fun rest r s'=>r.1=none/\s'=s/\∀v∈rest,carriedByValue v=true) _ ?_ ?_ _ _ ⟨rfl,rfl,hi.byValue⟩
 ·rintro v rest r s' ⟨hr,rfl,hall⟩
  rw [rM _ (hall v List.mem_cons_self)]
  refine wpAny_bind (wpAny_pure ?_)
  simp only [Bool.false_eq_true,if_false]
  exact wpAny_pure ⟨rfl,rfl,fun u hu'=>hall u (List.mem_cons_of_mem _ hu')⟩
 ·rintro⟨r1,r2⟩ s' ⟨hr,rfl,_⟩
  simp only at hr
  subst hr
  exact wpAny_pure h
theorem pD {x:K×List K} {a:Addr} {Q:Bool->Shared->Prop} (hk:bL knd s.heap x a) (h:Q false s):wpAny (model prog w) A (ofAClassStatement 8 (.ref a)) Q E s:=by
 have hT:=hk.typeIs
 obtain⟨o,v,b,m,ho,_,hd,h1,h2⟩:=hk
 unfold ofAClassStatement
 refine wpAny_bind (wpAny_typeOf hT ?_)
 dsimp only
 simp only [beq_self_eq_true,if_true]
 refine wpAny_bind (wpAny_pure ?_)
 simp only [Bool.not_true,Bool.false_eq_true,if_false]
 refine wpAny_bind (wpAny_seqItems ho hd ?_)
 dsimp only
 refine wpAny_bind ?_
 rw [<-Array.forIn_toList]
 refine wpAny_forIn_list _ (fun rest r s'=>r.1=none/\s'=s/\∀u∈rest,u=v∨u= .ref b) _ ?_ ?_ _ _ ⟨rfl,rfl,fun u hu=>by simpa using hu⟩
 ·rintro u rest r s' ⟨hr,rfl,hall⟩
  rcases hall u List.mem_cons_self with rfl|rfl
  ·rw [rM _ (knd.byValue _ _ h1)]
   refine wpAny_bind (wpAny_pure ?_)
   simp only [Bool.false_eq_true,if_false]
   exact wpAny_pure ⟨rfl,rfl,fun u hu'=>hall u (List.mem_cons_of_mem _ hu')⟩
  ·refine wpAny_bind (oW h2 ?_)
   simp only [Bool.false_eq_true,if_false]
   exact wpAny_pure ⟨rfl,rfl,fun u hu'=>hall u (List.mem_cons_of_mem _ hu')⟩
 ·rintro⟨r1,r2⟩ s' ⟨hr,rfl,_⟩
  simp only at hr
  subst hr
  exact wpAny_pure h
theorem IsTupleKey.monoS {h h':Heap} {ks:List K} {a:Addr} (x:IsTupleKey knd h ks a) (hs:∀b o,o.cls= .type "tuple"->h.get? b=some o->h'.get? b=some o):IsTupleKey knd h' ks a:=by
 obtain⟨o',items,n,ho',hc,hd',hi⟩:=x
 exact⟨o',items,n,hs _ _ hc ho',hc,hd',hi⟩
theorem bL.monoS {h h':Heap} {x:K×List K} {a:Addr} (hx:bL knd h x a) (hs:∀b o,o.cls= .type "tuple"->h.get? b=some o->h'.get? b=some o):bL knd h' x a:=by
 obtain⟨o',v,b,n,ho',hc,hd',h1,h2⟩:=hx
 exact⟨o',v,b,n,hs _ _ hc ho',hc,hd',h1,h2.monoS hs⟩
end
end PySem
namespace PySem
open Sem (wp)
namespace F
theorem dB:Slot "set_iterator" "__next__" "set_iterator.__next__":=
 .of (owner:="set_iterator") (n:="__next__") (by rw [typeLookup_type,builtinLookup_eq_fast];kernel_rfl) (by decide+kernel) (by decide+kernel) (by decide+kernel)
  (by first|exact .inl (by decide+kernel)|exact .inr (by decide+kernel)) (by rw [isSubtype_type];kernel_rfl)
theorem gM:Slot "set_iterator" "__iter__" "set_iterator.__iter__":=
 .of (owner:="set_iterator") (n:="__iter__") (by rw [typeLookup_type,builtinLookup_eq_fast];kernel_rfl) (by decide+kernel) (by decide+kernel) (by decide+kernel)
  (by first|exact .inl (by decide+kernel)|exact .inr (by decide+kernel)) (by rw [isSubtype_type];kernel_rfl)
theorem lY:entryFor table "set_iterator.__next__"=some Builtin.«set_iterator.__next__»:=entryFor_of_tree (by kernel_rfl)
theorem lL:entryFor table "set_iterator.__iter__"=some Builtin.«dict_keyiterator.__iter__»:=
 entryFor_alias (id':="dict_keyiterator.__iter__") (by kernel_rfl) (by first|rfl|decide+kernel) (by decide+kernel) (by kernel_rfl)
theorem yQ:entryFor table "set.__iter__"=some Builtin.«frozenset.__iter__»:=
 entryFor_alias (id':="frozenset.__iter__") (by kernel_rfl) (by first|rfl|decide+kernel) (by decide+kernel) (by kernel_rfl)
theorem jN:Manifest.owners.lookup (String.ofList ['r','o','t','a','r','e','t','i','_','t','e','s'].reverse)=some Manifest.sig_set_iterator:=by kernel_rfl
theorem lA (a:Value):argsOk "set_iterator.__next__" ⟨[a],[]⟩:=by
 unfold argsOk;rw [signature?_of (id:="set_iterator.__next__") (n:=['_','_','t','x','e','n','_','_']) (o:=['r','o','t','a','r','e','t','i','_','t','e','s']) (by kernel_rfl) jN];kernel_rfl
theorem lB (a:Value):argsOk "set_iterator.__iter__" ⟨[a],[]⟩:=by
 unfold argsOk;rw [signature?_of (id:="set_iterator.__iter__") (n:=['_','_','r','e','t','i','_','_']) (o:=['r','o','t','a','r','e','t','i','_','t','e','s']) (by kernel_rfl) jN];kernel_rfl
end F
theorem eF {α:Type}:∀{l:List α} {n:Nat} (h:n<l.length),(l[n]::l.eraseIdx n).Perm l
 | [],_,h=>absurd h (Nat.not_lt_zero _)
 |a::l,0,_=>List.Perm.refl _
 |a::l,n+1,h=>by
  have h':n<l.length:=Nat.lt_of_succ_lt_succ h
  show(l[n]::a::l.eraseIdx n).Perm (a::l)
  exact(List.Perm.swap _ _ _).trans ((eF (Nat.lt_of_succ_lt_succ h)).cons a)
theorem wJ {α:Type} (next:Nat->Nat) (xs:Array α):(pickOrder next xs).toList.Perm xs.toList:=by
 have go:∀(fuel k:Nat) (left:List α) (out:Array α),left.length=fuel->(pickOrder.go next fuel k left out).toList.Perm (out.toList++left):=by
  intro fuel
  induction fuel with
  |zero=>
   intro k left out h
   have:left=[]:=List.length_eq_zero_iff.mp h
   subst this
   simp [pickOrder.go]
  |succ fuel ih=>
   intro k left out h
   have hlt:next k % left.length<left.length:=Nat.mod_lt _ (by omega)
   rw [pickOrder.go,List.getElem?_eq_getElem hlt]
   dsimp only
   refine(ih _ _ _ (by rw [List.length_eraseIdx_of_lt hlt];omega)).trans ?_
   rw [Array.toList_push,List.append_assoc]
   refine List.Perm.append_left _ ?_
   exact eF hlt
 exact go xs.size 0 xs.toList #[] (by simp)
section
variable {prog:Program} {w:World} {A:Around} {E:Value->Shared->Prop} {s:Shared}
def fM (w:World) (S:Addr) (es:Array (Int×Value)) (ep:Nat):List Value:=if w.params.followText "set-order"=true then(pickOrder (w.params.setOrder S ep) es).toList.map (·.2)else es.toList.map (·.2)
theorem iK (w:World) (S:Addr) (es:Array (Int×Value)) (ep:Nat):(fM w S es ep).Perm (es.toList.map (·.2)):=by
 unfold fM
 split
 ·exact(wJ _ _).map _
 ·exact List.Perm.refl _
def vZ (w:World) (t:SetTable) (slot i:Nat):Prop:=w.params.followText "set-order"=true∨SetTable.below t.place slot=i
theorem aF1 {xs:Array Nat} (R:SetTable.pY xs) {i:Nat} (h:i<xs.size):SetTable.below xs (xs.getD i 0+1)=i+1:=by
 obtain⟨h1,h2,h3⟩:=SetTable.fW R (xs.getD i 0+1)
 rcases Nat.lt_trichotomy (SetTable.below xs (xs.getD i 0+1)) (i+1)with z|z|z
 ·have:=h3 i (by omega) h
  omega
 ·exact z
 ·have:=h2 (i+1) z
  have:=R i (i+1) (by omega) (by omega)
  omega
theorem zG {S:Addr} {o:Obj} {es:Array (Int×Value)} {ep:Nat} {t:SetTable} {slot i:Nat} {Q:Option (Value×Nat)->Shared->Prop} (ho:s.heap.get? S=some o) (hd:o.data= .set es ep t) (hf:t.fits es.size=true) (hr:SetTable.pY t.place) (hpl:t.plain=true) (hl:t.led= !w.params.followText "set-order")
  (hs:vZ w t slot i) (h1:∀v slot',(fM w S es ep)[i]? =some v->vZ w t slot' (i+1)->Q (some (v,slot')) s) (h2:es.size<=i->Q none s):wpAny (model prog w) A (setNext S slot i ep) Q E s:=by
 have psz:t.place.size=es.size:=by
  simp only [SetTable.fits,Bool.and_eq_true,beq_iff_eq,decide_eq_true_eq]at hf
  exact hf.1
 unfold setNext setsByText
 refine wpAny_bind (wpAny_setState_of ho hd hf ?_)
 dsimp only
 refine wpAny_bind (wpAny_bind (wpAny_askSetting (wpAny_pure ?_)))
 dsimp only [model]
 have olen:(fM w S es ep).length=es.size:=by rw [(iK w S es ep).length_eq,List.length_map,Array.length_toList]
 cases hb:w.params.followText "set-order"
 ·simp only [Bool.false_eq_true,if_false]
  have hs:SetTable.below t.place slot=i:=by
   rcases hs with z|z
   ·rw [hb]at z;cases z
   ·exact z
  show wpAny _ _ (if(!t.plain && decide (es.size>1))=true then _ else _) _ _ _
  rw [hpl]
  simp only [Bool.not_true,Bool.false_and,Bool.false_eq_true,if_false]
  show wpAny _ _ ((if(!t.led && !es.isEmpty)=true then _ else _)>>=_) _ _ _
  rw [hl,hb]
  simp only [Bool.not_false,Bool.not_true,Bool.false_and,Bool.false_eq_true,if_false]
  refine wpAny_bind (wpAny_pure ?_)
  rw [hs]
  have eo:(fM w S es ep)[i]? =(es[i]?).map (·.2):=by
   unfold fM
   rw [hb]
   simp
  by_cases hi:i<es.size
  ·have hp:i<t.place.size:=by omega
   rw [Array.getElem?_eq_getElem hi,Array.getElem?_eq_getElem hp]
   refine wpAny_pure (h1 _ _ (by rw [eo,Array.getElem?_eq_getElem hi];rfl) (.inr ?_))
   have:=aF1 hr hp
   simpa [Array.getD,hp]using this
  ·rw [Array.getElem?_eq_none (by omega)]
   exact wpAny_pure (h2 (by omega))
 ·simp only [if_true]
  rw [if_neg (by simp)]
  unfold setWalk setsByText
  refine wpAny_bind (wpAny_bind (wpAny_setState_of ho hd hf ?_))
  dsimp only
  refine wpAny_bind (wpAny_bind (wpAny_askSetting (wpAny_pure ?_)))
  dsimp only [model]
  rw [hb]
  simp only [if_true]
  refine wpAny_bind (wpAny_askSetting ?_)
  refine wpAny_pure ?_
  dsimp only [model]
  have eo:(fM w S es ep)[i]? =((pickOrder (w.params.setOrder S ep) es)[i]?).map (·.2):=by
   unfold fM
   rw [hb]
   simp
  cases hg:(pickOrder (w.params.setOrder S ep) es)[i]? with
  |none=>
   rw [hg]at eo
   have:=List.getElem?_eq_none_iff.mp eo
   exact wpAny_pure (h2 (by omega))
  |some e=>
   rw [hg]at eo
   exact wpAny_pure (h1 _ _ eo (.inl hb))
def mC (h:Heap) (I S:Addr) (slot i n ep:Nat):Prop:=∃o,h.get? I=some o/\o.cls= .type "set_iterator"/\o.data= .fields #[.int slot 0,.int i 0,.ref S,.int n 0,.int ep 0]
theorem mC.typeIs {I S:Addr} {slot i n ep:Nat} (h:mC s.heap I S slot i n ep):s.TypeIs (.ref I) "set_iterator":=let⟨o,ho,hc,_⟩:=h;⟨o,ho,hc⟩
variable {I S:Addr} {o:Obj} {es:Array (Int×Value)} {ep:Nat} {t:SetTable} {slot i:Nat}
theorem lX {Q:Option Value->Shared->Prop} (hh:A.handled=none) (hit:mC s.heap I S slot i es.size ep) (ho:s.heap.get? S=some o) (hd:o.data= .set es ep t) (hf:t.fits es.size=true) (hr:SetTable.pY t.place) (hpl:t.plain=true) (hl:t.led= !w.params.followText "set-order")
  (hs:vZ w t slot i) (h1:∀v slot' h',(fM w S es ep)[i]? =some v->vZ w t slot' (i+1)->mC h' I S slot' (i+1) es.size ep->Heap.SameBut I s.heap h'->Q (some v) {s with heap:=h'}) (h2:es.size<=i->∀h',Heap.ExtBut I s.heap h'->Q none {s with heap:=h'}):
  wpAny (model prog w) A (pyNext (.ref I)) Q E s:=by
 obtain⟨oi,hoi,hci,hdi⟩:=id hit
 unfold pyNext
 refine wpAny_bind (wpAny_attempt (wpAny_callSpecial?_slot (name:=Str.ofString "__next__") hit.typeIs F.dB
  (wpAny_call_entry F.dB hit.typeIs F.lY ?_ (F.lA _))))
 unfold Builtin.«set_iterator.__next__»
 refine wpAny_bind (m:=slotArgs "__next__" 0 _) (wpAny_pure ?_)
 refine wpAny_bind (wpAny_fieldsOf hoi hdi ?_)
 dsimp only
 refine wpAny_bind (wpAny_setEntries_of ho hd hf ?_)
 rw [if_neg (by simp)]
 simp only [Int.toNat_natCast]
 refine wpAny_bind (zG ho hd hf hr hpl hl hs (fun v slot' e ok=>?_) fun hge=>?_)
 ·dsimp only
  refine wpAny_bind (wpAny_setField hoi hdi (by simp) ?_)
  have hoi2:=Heap.get?_update_self (Obj.mapFields (·.setIfInBounds 0 (rawInt slot'))) hoi (Obj.isFreed_of_fields (Obj.data_mapFields hdi _))
  have hdi2:=Obj.data_mapFields hdi (·.setIfInBounds 0 (rawInt slot'))
  refine wpAny_bind (wpAny_setField hoi2 hdi2 (by simp) ?_)
  refine wpAny_pure ⟨_,rfl,wpAny_pure (h1 v slot' _ e ok ⟨_,Heap.get?_update_self _ hoi2 (Obj.isFreed_of_fields (Obj.data_mapFields hdi2 _)),(Obj.cls_mapFields ..).trans ((Obj.cls_mapFields ..).trans hci),by rw [Obj.data_mapFields hdi2];simp [rawInt]⟩ (Heap.SameBut.trans (Heap.SameBut.update ..) (Heap.SameBut.update ..)))⟩
 ·dsimp only
  refine wpAny_bind (wpAny_setField hoi hdi (by simp) ?_)
  show wpAny _ _ (newExc (.type "StopIteration") []>>=_) _ _ _
  refine wpAny_bind ?_
  simp only [newExc,newTuple]
  refine wpAny_bind (wpAny_newObj_type ?_ (by size_fits))
  refine wpAny_bind (m:=firstArgMember _ _) (wpAny_of_eq (a:=Value.none) (by first|rfl|(simp only [firstArgMember];rfl)) ?_)
  refine wpAny_newObj_type ?_ (by size_fits)
  simp only [raiseNew]
  refine wpAny_bind (wpAny_handled ?_)
  rw [show A.in1.handled=none from hh]
  refine wpAny_bind (wpAny_pure (wpAny_throw ?_))
  refine wpAny_bind (wpAny_isInstance (T:="StopIteration") (b:=true) ⟨_,Heap.get?_push_size _ rfl,rfl⟩ isSubtype_stop ?_)
  exact wpAny_pure (h2 hge _ (((Heap.SameBut.update ..).extBut.push _).push _))
theorem Walks.set (hh:A.handled=none) (hne:S≠I) (o:Obj) (hd:o.data= .set es ep t) (hf:t.fits es.size=true) (hr:SetTable.pY t.place) (hpl:t.plain=true) (hl:t.led= !w.params.followText "set-order"):
  Walks prog w A I [I,S] [I] es.size (fun i v=>(fM w S es ep)[i]? =some v) (fun i h=>(∃slot,mC h I S slot i es.size ep/\vZ w t slot i)/\h.get? S=some o) where
 sub:=fun b hb=>by simp at hb;simp [hb]
 frame:=fun _ _ _ st hk=>by
  obtain⟨⟨slot,⟨oi,h1,h2⟩,h3⟩,h4⟩:=st
  exact⟨⟨slot,⟨oi,hk I (by simp) _ h1,h2⟩,h3⟩,hk S (by simp) _ h4⟩
 item:=fun i s Q E hi st hQ=>by
  obtain⟨⟨slot,h1,h3⟩,h4⟩:=st
  refine lX hh h1 h4 hd hf hr hpl hl h3 (fun v slot' h' e ok it' sb=>?_) fun hge=>absurd hi (by omega)
  exact hQ _ h' s.toks e ⟨⟨slot',it',ok⟩,(sb.2 S hne).trans h4⟩ fun b o hb e=>sb.extBut b o (fun h=>hb (by simp [h])) e
 done:=fun s Q E st hQ=>by
  obtain⟨⟨slot,h1,h3⟩,h4⟩:=st
  refine lX hh h1 h4 hd hf hr hpl hl h3 (fun v slot' h' e ok it' sb=>?_) fun hge h' he'=>hQ h' s.toks fun b o hb e=>he' b o (fun h=>hb (by simp [h])) e
  have olen:(fM w S es ep).length=es.size:=by rw [(iK w S es ep).length_eq,List.length_map,Array.length_toList]
  rw [List.getElem?_eq_none (by omega)]at e
  cases e
 self:=fun _ _ _ _ st hQ=>by
  obtain⟨⟨slot,h1,h3⟩,h4⟩:=st
  refine wpAny_pyIter_slot h1.typeIs F.gM (wpAny_call_entry F.gM h1.typeIs F.lL ?_ (F.lB _))
  show wpAny _ _ (ret (.ref I)) _ _ _
  exact wpAny_pure ⟨_,rfl,"set_iterator",_,h1.typeIs,F.dB.lookup,hQ⟩
end
end PySem
namespace PySem
open Sem (wp)
namespace F
theorem aBl:isSubtype (.type "set") (.type "set")=pure true:=by rw [isSubtype_type];kernel_rfl
end F
section
variable {prog:Program} {w:World} {A:Around} {E:Value->Shared->Prop} {s:Shared} {I S:Addr} {o:Obj} {es:Array (Int×Value)} {ep:Nat} {t:SetTable}
theorem sG {Q:Value->Shared->Prop} (ho:s.heap.get? S=some o) (hex:o.ExactSet) (hd:o.data= .set es ep t) (hf:t.fits es.size=true) (hpl:t.plain=true)
  (hQ:Q (.ref s.heap.objs.size) {s with heap:=s.heap.push {cls:= .type "set_iterator",data:= .fields #[.int 0 0,.int 0 0,.ref S,.int es.size 0,.int ep 0]}}):wpAny (model prog w) A (pyIter (.ref S)) Q E s:=by
 have hT:s.TypeIs (.ref S) "set":=⟨o,ho,hex.1⟩
 refine wpAny_pyIter_slot hT F.slot_set_iter (wpAny_call_entry F.slot_set_iter hT F.yQ ?_ (F.args_set_iter_1 _))
 unfold Builtin.«frozenset.__iter__»
 refine wpAny_bind (m:=Builtin.Frozenset.slot0 "__iter__" _) (wpAny_pure ?_)
 unfold Builtin.Frozenset.sizeOf
 refine wpAny_bind (wpAny_bind (wpAny_setEntries_of ho hd hf (wpAny_pure ?_)))
 unfold setDrawn setsByText
 refine wpAny_bind (wpAny_bind (wpAny_setState_of ho hd hf ?_))
 dsimp only
 refine wpAny_bind (wpAny_bind (wpAny_askSetting (wpAny_pure ?_)))
 show wpAny _ _ (pure (!(model prog w).w.params.followText "set-order" && (!t.plain && decide (es.size>1)))) _ _ _
 rw [hpl]
 simp only [Bool.not_true,Bool.false_and,Bool.and_false]
 refine wpAny_pure ?_
 simp only [Bool.false_eq_true,if_false]
 refine wpAny_bind (wpAny_pure ?_)
 refine wpAny_bind (wpAny_setEpoch_of ho hd hf ?_)
 unfold newFields
 refine wpAny_bind (wpAny_newObj_type (wpAny_pure ⟨_,rfl,"set_iterator",_,⟨_,Heap.get?_push_size _ rfl,rfl⟩,F.dB.lookup,?_⟩))
 simpa [rawInt]using hQ
theorem jY {Q:List Value->Shared->Prop} (hh:A.handled=none) (ho:s.heap.get? S=some o) (hex:o.ExactSet) (hd:o.data= .set es ep t) (hf:t.fits es.size=true) (hr:SetTable.pY t.place) (hpl:t.plain=true) (hl:t.led= !w.params.followText "set-order") (hn:es.size<=sizeLine)
  (hQ:∀h' tk,s.heap.objs.size<h'.objs.size->(∀b o,s.heap.get? b=some o->h'.get? b=some o)->Q (fM w S es ep) {s with heap:=h',toks:=tk}):wpAny (model prog w) A (collect (.ref S)) Q E s:=by
 have hSlt:S<s.heap.objs.size:=Heap.lt_size ho
 unfold collect
 refine wpAny_bind (wpAny_runValue (codeAny_builtin F.entry_proto_collect ?_))
 rw [Around.under_plainId F.plain_proto_collect _]
 show wpAny _ A.in1 (newList []>>=fun l=>again (.builtin "list.__iadd__" ⟨[l,.ref S],[]⟩)) _ _ s
 refine wpAny_bind (wpAny_newObj_type ?_)
 refine wpAny_pure ⟨plainId_quiet F.plain_list_iadd _,codeAny_builtin F.entry_list_iadd ?_⟩
 rw [Around.under_plainId F.plain_list_iadd _]
 have ho1:(s.heap.push {cls:= .type "list",data:= .seq ([]:List Value).toArray}).get? S=some o:=Heap.get?_push_of_some _ ho
 have hT1:Shared.TypeIs {s with heap:=s.heap.push {cls:= .type "list",data:= .seq ([]:List Value).toArray}} (.ref S) "set":=⟨o,ho1,hex.1⟩
 have hS₁:(s.heap.push {cls:= .type "list",data:= .seq ([]:List Value).toArray}).get? s.heap.objs.size=some {cls:= .type "list",data:= .seq ([]:List Value).toArray}:=Heap.get?_push_size _ rfl
 have hne:s.heap.objs.size≠S:=Nat.ne_of_gt hSlt
 have h1:Builtin.List.listSameRef (.ref s.heap.objs.size) (.ref S)=false:=by simp [Builtin.List.listSameRef,hne]
 show wpAny _ A.in1 (Builtin.List.listExtendWith (.ref s.heap.objs.size) (.ref S) (.ref s.heap.objs.size)) _ _ _
 unfold Builtin.List.listExtendWith
 refine wpAny_bind (wpAny_typeOf hT1 ?_)
 rw [if_neg (by rw [h1];decide)]
 refine wpAny_bind (sG ho1 hex hd hf hpl ?_)
 have esz:(s.heap.push {cls:= .type "list",data:= .seq ([]:List Value).toArray}).objs.size=s.heap.objs.size+1:=Heap.size_push ..
 rw [esz]
 generalize hH2:(s.heap.push {cls:= .type "list",data:= .seq ([]:List Value).toArray}).push {cls:= .type "set_iterator",data:= .fields #[.int 0 0,.int 0 0,.ref S,.int es.size 0,.int ep 0]}=H2
 have keep2:∀b o,s.heap.get? b=some o->H2.get? b=some o:=fun b o e=>by rw [<-hH2];exact Heap.get?_push_of_some _ (Heap.get?_push_of_some _ e)
 have ho2:H2.get? S=some o:=keep2 _ _ ho
 have hL2:H2.get? s.heap.objs.size=some {cls:= .type "list",data:= .seq ([]:List Value).toArray}:=by rw [<-hH2];exact Heap.get?_push_of_some _ hS₁
 have hI2:H2.get? (s.heap.objs.size+1)=some {cls:= .type "set_iterator",data:= .fields #[.int 0 0,.int 0 0,.ref S,.int es.size 0,.int ep 0]}:=by rw [<-hH2, <-esz];exact Heap.get?_push_size _ rfl
 have hT2:Shared.TypeIs {s with heap:=H2} (.ref S) "set":=⟨o,ho2,hex.1⟩
 refine wpAny_bind (wpAny_holding ?_)
 unfold Builtin.List.listLengthHint
 refine wpAny_bind (wpAny_specialOf hT2 F.slot_set_len.lookup ?_)
 (generalize hid:("set.__len__":String)=id0;(fail_if_success (clear hid id0));wp_delta;rw [show splitId id0=some ("set","__len__")from by subst hid;decide+kernel];subst hid)
 refine wpAny_bind (wpAny_isInstance (b:=true) hT2 F.aBl ?_)
 simp only [Bool.not_true,Bool.false_eq_true,if_false]
 rw [if_pos (by decide+kernel)]
 refine wpAny_bind (wpAny_typeOf hT2 ?_)
 refine wpAny_pure ?_
 rw [if_pos (by decide+kernel)]
 show wpAny _ A.in1 (rule "list.extend.makes-room">>=fun _=>Builtin.List.listTouch (.ref s.heap.objs.size)>>=fun _=>
  again (.builtin "list.extend.loop" ⟨[.ref s.heap.objs.size,.ref (s.heap.objs.size+1),.ref s.heap.objs.size],[]⟩)) _ _ _
 refine wpAny_bind (wpAny_rule ?_)
 refine wpAny_bind ?_
 show wpAny _ A.in1 (updateSeq s.heap.objs.size (·.push .none)>>=fun _=>updateSeq s.heap.objs.size (·.pop)) _ _ _
 refine wpAny_bind (wpAny_updateSeq hL2 rfl ?_)
 have hS₂:=Heap.get?_update_self (Obj.mapSeq (·.push Value.none)) hL2 rfl
 refine wpAny_updateSeq hS₂ rfl ?_
 have hS₃:=Heap.get?_update_self (Obj.mapSeq (·.pop)) hS₂ rfl
 have oth:∀b o,b≠s.heap.objs.size->H2.get? b=some o->((H2.update s.heap.objs.size (Obj.mapSeq (·.push Value.none))).update s.heap.objs.size (Obj.mapSeq (·.pop))).get? b=some o:=
  fun b o hb e=>(Heap.get?_update_other _ _ (Ne.symm hb)).trans ((Heap.get?_update_other _ _ (Ne.symm hb)).trans e)
 have hneI:S≠s.heap.objs.size+1:=Nat.ne_of_lt (Nat.lt_succ_of_lt hSlt)
 have W:=(Walks.set (prog:=prog) (A:=A.in1) (I:=s.heap.objs.size+1) (S:=S) (by simp [hh]) hneI o hd hf hr hpl hl).toS
 have hSf:s.heap.objs.size∉[s.heap.objs.size+1,S]:=by
  simp only [List.mem_cons,List.mem_singleton,List.not_mem_nil,or_false,not_or]
  exact⟨Nat.ne_of_lt (Nat.lt_succ_self _),hne⟩
 refine wpAny_pure ⟨plainId_quiet F.plain_extend_loop _,codeAny_extend_loopS W hn _ hSf _ es.size 0 _ _ _ rfl (Nat.zero_le _)
  ⟨⟨0,⟨_,oth _ _ (Nat.ne_of_gt (Nat.lt_succ_self _)) hI2,rfl,rfl⟩,.inr ?_⟩,oth _ _ hne.symm ho2⟩ hS₃ (ItemsOf.nil _) fun s' acc' c' hm hS' hacc=>?_⟩
 ·have:=(SetTable.fW hr 0).2.1
  rcases Nat.eq_zero_or_pos (SetTable.below t.place 0)with z|z
  ·exact z
  ·exact absurd (this 0 z) (Nat.not_lt_zero _)
 ·show wpAny _ A (load s.heap.objs.size>>=_) _ _ s'
  refine wpAny_bind (wpAny_load hS' ?_)
  obtain⟨h',g',d',tk',os'⟩:=s'
  have eg:g'=s.gens:=hm.gens
  have ed:d'=s.drawn:=hm.drawn
  have eo:os'=s.os:=hm.os
  subst eg;subst ed;subst eo
  have ea:acc'.toList=fM w S es ep:=by
   apply List.ext_getElem?
   intro j
   have olen:(fM w S es ep).length=es.size:=by rw [(iK w S es ep).length_eq,List.length_map,Array.length_toList]
   by_cases hj:j<acc'.size
   ·rw [Array.getElem?_toList,Array.getElem?_eq_getElem hj]
    exact(hacc.2 j _ (Array.getElem?_eq_getElem hj)).symm
   ·rw [List.getElem?_eq_none (by rw [Array.length_toList];omega),List.getElem?_eq_none (by rw [olen, <-hacc.1];omega)]
  refine wpAny_pure ?_
  rw [ea]
  refine hQ h' tk' (Heap.lt_size hS') fun b o e=>?_
  have hb:b<s.heap.objs.size:=Heap.lt_size e
  exact hm.heap b o (by simp only [List.mem_cons,List.mem_singleton,List.not_mem_nil,or_false,not_or];exact⟨Nat.ne_of_lt hb,Nat.ne_of_lt (Nat.lt_succ_of_lt hb)⟩) (oth b o (Nat.ne_of_lt hb) (keep2 b o e))
end
end PySem
namespace PySem.W
open PyProof.Rows
def KasT.Way {α:Type} (lt:Nat->Nat->Bool) (P:Nat->Prop):KasT α->(α->Prop)->Prop
 | .ret a,Q=>Q a
 | .ask i j k,Q=>P i/\P j/\(k (lt i j)).Way lt P Q
variable {lt:Nat->Nat->Bool} {P:Nat->Prop}
theorem KasT.way_bind {α β:Type} {f:α->KasT β} {Q:β->Prop}:∀(t:KasT α),t.Way lt P (fun a=>(f a).Way lt P Q)->(t.bind f).Way lt P Q
 | .ret _,h=>h
 | .ask i j k,h=>⟨h.1,h.2.1,KasT.way_bind (k (lt i j)) h.2.2⟩
theorem KasT.way_mono {α:Type} {Q Q':α->Prop} (hq:∀a,Q a->Q' a):∀(t:KasT α),t.Way lt P Q->t.Way lt P Q'
 | .ret _,h=>hq _ h
 | .ask i j k,h=>⟨h.1,h.2.1,KasT.way_mono hq (k (lt i j)) h.2.2⟩
theorem KasT.way_wp {α:Type} {cmp:Nat->Nat->(Bool->Shared->Prop)->Shared->Prop} {s:Shared} (hc:∀i j C,P i->P j->C (lt i j) s->cmp i j C s) {Q:α->Prop} {G:α->Shared->Prop} (hg:∀a,Q a->G a s):∀(t:KasT α),t.Way lt P Q->t.kasWp cmp G s
 | .ret _,h=>hg _ h
 | .ask i j k,h=>hc i j _ h.1 h.2.1 (KasT.way_wp hc hg (k (lt i j)) h.2.2)
structure mY (n:Nat) (lt:Nat->Nat->Bool):Prop where
 tot:∀i j,i<n->j<n->i≠j->lt i j=true∨lt j i=true
 asym:∀i j,lt i j=true->lt j i=false
 trans:∀i j k,lt i j=true->lt j k=true->lt i k=true
def vAt (p:Array Nat) (i:Nat):Nat:=p.getD i 0
def jX (n:Nat) (p:Array Nat):Prop:=p.toList.Perm (List.range n)
variable {n:Nat} {p:Array Nat}
theorem jX.size (h:jX n p):p.size=n:=by have:=h.length_eq;rw [List.length_range,Array.length_toList]at this;exact this
theorem iH {p:Array Nat} {i:Nat}:vAt p i=(p[i]?).getD 0:=by
 unfold vAt Array.getD
 by_cases h:i<p.size
 ·simp [h]
 ·simp [h]
theorem jX.low (h:jX n p) (hn:0<n) (i:Nat):vAt p i<n:=by
 rw [iH]
 cases e:p[i]? with
 |none=>exact hn
 |some x=>
  have:x∈p.toList:=List.mem_of_getElem? (by rw [Array.getElem?_toList];exact e)
  exact List.mem_range.mp (h.mem_iff.mp this)
theorem jX.inj (h:jX n p) {i j:Nat} (hi:i<n) (hj:j<n) (e:i≠j):vAt p i≠vAt p j:=by
 have nd:p.toList.Nodup:=h.nodup_iff.mpr List.nodup_range
 have si:i<p.toList.length:=by rw [Array.length_toList,h.size];exact hi
 have sj:j<p.toList.length:=by rw [Array.length_toList,h.size];exact hj
 intro z
 have h1:vAt p i=p.toList[i]:=by rw [iH, <-Array.getElem?_toList,List.getElem?_eq_getElem si];rfl
 have h2:vAt p j=p.toList[j]:=by rw [iH, <-Array.getElem?_toList,List.getElem?_eq_getElem sj];rfl
 rw [h1,h2]at z
 exact e ((List.getElem_inj nd).mp z)
theorem jX.perm {q:Array Nat} (h:jX n p) (e:q.Perm p):jX n q:=(Array.perm_iff_toList_perm.mp e).trans h
def lR (lt:Nat->Nat->Bool) (p:Array Nat) (k:Nat):Prop:=∀i j,i<j->j<k->lt (vAt p i) (vAt p j)=true
def zV (lt:Nat->Nat->Bool) (p:Array Nat) (k:Nat):Prop:=∀i j,i<j->j<k->lt (vAt p j) (vAt p i)=true
theorem lR.more (S:mY n lt) {k:Nat} (h:lR lt p k) (hk:1<=k) (e:lt (vAt p (k-1)) (vAt p k)=true):lR lt p (k+1):=fun i j hi hj=>by
 by_cases z:j<k
 ·exact h i j hi z
 ·obtain rfl:j=k:=by omega
  by_cases y:i=j-1
  ·subst y;exact e
  ·exact S.trans _ _ _ (h i (j-1) (by omega) (by omega)) e
theorem zV.more (S:mY n lt) {k:Nat} (h:zV lt p k) (hk:1<=k) (e:lt (vAt p k) (vAt p (k-1))=true):zV lt p (k+1):=fun i j hi hj=>by
 by_cases z:j<k
 ·exact h i j hi z
 ·obtain rfl:j=k:=by omega
  by_cases y:i=j-1
  ·subst y;exact e
  ·exact S.trans _ _ _ e (h i (j-1) (by omega) (by omega))
theorem aBp (S:mY n lt) (hn:0<n) (T:jX n p):∀(f k:Nat),1<=k->k+f=n->lR lt p k->(kas_asc p f k).Way lt (·<n) fun m=>lR lt p m/\k<=m/\m<=n/\(m=n∨lt (vAt p m) (vAt p (m-1))=true)
 |0,k,h1,h2,h3=>⟨h3,Nat.le_refl _,by omega,.inl (by omega)⟩
 |f+1,k,h1,h2,h3=>by
  refine⟨T.low hn k,T.low hn (k-1),?_⟩
  show KasT.Way lt (·<n) (if lt (vAt p k) (vAt p (k-1))=true then _ else _) _
  by_cases c:lt (vAt p k) (vAt p (k-1))=true
  ·rw [if_pos c]
   exact⟨h3,Nat.le_refl _,by omega,.inr c⟩
  ·rw [if_neg c]
   have c':=(S.tot _ _ (T.low hn k) (T.low hn (k-1)) (T.inj (by omega) (by omega) (by omega))).resolve_left c
   exact KasT.way_mono (fun m z=>⟨z.1,by omega,z.2.2⟩) _ (aBp S hn T f (k+1) (by omega) (by omega) (h3.more S h1 c'))
theorem aFa (S:mY n lt) (hn:0<n) (T:jX n p):∀(f k:Nat),1<=k->k+f=n->zV lt p k->(kas_desc f p k 0).Way lt (·<n) fun r=>r.1=p/\r.2.2=0/\zV lt p r.2.1/\k<=r.2.1/\r.2.1<=n
 |0,k,h1,h2,h3=>⟨rfl,rfl,h3,Nat.le_refl _,by show k<=n;omega⟩
 |f+1,k,h1,h2,h3=>by
  refine⟨T.low hn k,T.low hn (k-1),?_⟩
  show KasT.Way lt (·<n) (if lt (vAt p k) (vAt p (k-1))=true then _ else _) _
  by_cases c:lt (vAt p k) (vAt p (k-1))=true
  ·rw [if_pos c,if_neg (by omega)]
   exact KasT.way_mono (fun m z=>⟨z.1,z.2.1,z.2.2.1,by omega,z.2.2.2.2⟩) _ (aFa S hn T f (k+1) (by omega) (by omega) (h3.more S h1 c))
  ·rw [if_neg c]
   refine⟨T.low hn (k-1),T.low hn k,?_⟩
   have c':=(S.tot _ _ (T.low hn k) (T.low hn (k-1)) (T.inj (by omega) (by omega) (by omega))).resolve_left c
   show KasT.Way lt (·<n) (if lt (vAt p (k-1)) (vAt p k)=true then _ else _) _
   rw [if_pos c']
   exact⟨rfl,rfl,h3,Nat.le_refl _,by show k<=n;omega⟩
theorem aMu {m:Nat} (hm:m<=p.size) (i:Nat):vAt (kas_rev p 0 m) i=if i<m then vAt p (m-1-i)else vAt p i:=by
 rw [iH,kas_rev,getElem?_mirror_all hm]
 by_cases h:i<m
 ·rw [if_pos ⟨Nat.zero_le _,h⟩,if_pos h,iH,Nat.zero_add]
 ·rw [if_neg (fun z=>h z.2),if_neg h,iH]
theorem aKb (S:mY n lt) (hn:0<n) (T:jX n p):(kas_count n p).Way lt (·<n) fun r=>jX n r.2/\lR lt r.2 r.1/\1<=r.1/\r.1<=n:=by
 refine KasT.way_bind _ (KasT.way_mono (fun m z=>?_) _ (aBp S hn T (n-1) 1 (Nat.le_refl _) (by omega) fun i j h1 h2=>by omega))
 obtain⟨z1,z2,z3,z4⟩:=z
 by_cases e:m=n
 ·rw [if_pos (beq_iff_eq.mpr e)]
  exact⟨T,z1,z2,z3⟩
 ·rw [if_neg (fun y=>e (beq_iff_eq.mp y))]
  have z4:=z4.resolve_left e
  by_cases g:m>1
  ·rw [if_pos g]
   refine⟨T.low hn 0,T.low hn (m-1),?_⟩
   have c:lt (p.getD 0 0) (p.getD (m-1) 0)=true:=z1 0 (m-1) (by omega) (by omega)
   rw [c]
   dsimp only
   rw [if_pos rfl]
   exact⟨T,z1,z2,z3⟩
  ·rw [if_neg g]
   obtain rfl:m=1:=by omega
   refine KasT.way_bind _ (KasT.way_mono (fun r y=>?_) _ (aFa S hn T (n-(1+1)) (1+1) (by omega) (by omega) fun i j h1 h2=>?_))
   ·obtain⟨q,k,w⟩:=r
    obtain⟨y1,y2,y3,y4,y5⟩:=y
    have y1:q=p:=y1
    have y2:w=0:=y2
    subst y1 y2
    show KasT.Way lt (·<n) (if 0>0 then _ else _) _
    rw [if_neg (by omega)]
    have y3:zV lt q k:=y3
    have y4:2<=k:=y4
    have y5:k<=n:=y5
    have T':jX n (kas_rev q 0 k):=T.perm (mirror_perm ..)
    have hs:k<=q.size:=by rw [T.size];exact y5
    refine KasT.way_bind _ (KasT.way_mono (fun m' x=>?_) _ (aBp S hn T' (n-k) k (by omega) (by omega) fun i j h1 h2=>?_))
    ·exact⟨T',x.1,by have:=x.2.1;show 1<=m';omega,x.2.2.1⟩
    ·rw [aMu hs,aMu hs,if_pos (by omega),if_pos h2]
     exact y3 _ _ (by omega) (by omega)
   ·obtain rfl:i=0:=by omega
    obtain rfl:j=1:=by omega
    exact z4
theorem rY (S:mY n lt) (hn:0<n) (T:jX n p) {k:Nat} (hk:k<n) (R:lR lt p k):∀(f l r:Nat),l<=r->r<=k->r-l<=f->(∀i,i<l->lt (vAt p i) (vAt p k)=true)->(∀i,r<=i->i<k->lt (vAt p k) (vAt p i)=true)->
  (kas_place p k f l r).Way lt (·<n) fun m=>m<=k/\(∀i,i<m->lt (vAt p i) (vAt p k)=true)/\∀i,m<=i->i<k->lt (vAt p k) (vAt p i)=true
 |0,l,r,h1,h2,h3,a,b=>by
  obtain rfl:l=r:=by omega
  exact⟨h2,a,b⟩
 |f+1,l,r,h1,h2,h3,a,b=>by
  show KasT.Way lt (·<n) (if l≥r then _ else _) _
  by_cases e:l≥r
  ·rw [if_pos e]
   obtain rfl:l=r:=by omega
   exact⟨h2,a,b⟩
  ·rw [if_neg e]
   refine⟨T.low hn k,T.low hn _,?_⟩
   show KasT.Way lt (·<n) (if lt (vAt p k) (vAt p ((l+r) / 2))=true then _ else _) _
   by_cases c:lt (vAt p k) (vAt p ((l+r) / 2))=true
   ·rw [if_pos c]
    refine rY S hn T hk R f l _ (by omega) (by omega) (by omega) a fun i g1 g2=>?_
    by_cases y:i=(l+r) / 2
    ·subst y;exact c
    ·exact S.trans _ _ _ c (R _ i (by omega) g2)
   ·rw [if_neg c]
    have c':=(S.tot _ _ (T.low hn k) (T.low hn ((l+r) / 2)) (T.inj hk (by omega) (by omega))).resolve_left c
    refine rY S hn T hk R f _ r (by omega) h2 (by omega) (fun i g=>?_) b
    by_cases y:i=(l+r) / 2
    ·subst y;exact c'
    ·exact S.trans _ _ _ (R i _ (by omega) (by omega)) c'
theorem aMp {k l:Nat} (hk:k<p.size) (hl:l<=k) (i:Nat):vAt (bubble p k (k-l)) i=if i=l then vAt p k else if l<i/\i<=k then vAt p (i-1)else vAt p i:=by
 rw [iH,getElem?_bubble hk _ (by omega),show k-(k-l)=l by omega]
 split
 ·rw [iH]
 ·split<;>rw [iH]
theorem aIm (S : mY n lt) (hn : 0 < n) : ∀ (f : Nat) (p : Array Nat) (k : Nat), jX n p → k + f = n → lR lt p k → (kas_bin f p k).Way lt (· < n) fun q => jX n q ∧ lR lt q n
  | 0, p, k, T, h, R => ⟨T, by obtain rfl : k = n := by omega
                               exact R⟩
  | f + 1, p, k, T, h, R => by
    refine KasT.way_bind _ (KasT.way_mono (fun l z => ?_) _ (rY S hn T (k := k) (by omega) R k 0 k (Nat.zero_le _) (Nat.le_refl _) (by omega) (fun i g => by omega) fun i g1 g2 => by omega))
    obtain ⟨z1, z2, z3⟩ := z
    have hs : k < p.size := by rw [T.size]; omega
    refine aIm S hn f _ (k + 1) (T.perm (bubble_perm ..)) (by omega) fun i j h1 h2 => ?_
    rw [aMp hs z1, aMp hs z1]
    by_cases a1 : i = l
    · subst a1
      rw [if_pos rfl, if_neg (by omega), if_pos ⟨h1, by omega⟩]
      exact z3 (j - 1) (by omega) (by omega)
    · rw [if_neg a1]
      by_cases a2 : l < i ∧ i ≤ k
      · rw [if_pos a2, if_neg (by omega), if_pos ⟨by omega, by omega⟩]
        exact R _ _ (by omega) (by omega)
      · rw [if_neg a2]
        by_cases b1 : j = l
        · rw [if_pos b1]
          exact z2 i (by omega)
        · rw [if_neg b1]
          by_cases b2 : l < j ∧ j ≤ k
          · rw [if_pos b2]
            by_cases e : i = j - 1
            · omega
            · exact R _ _ (by omega) (by omega)
          · rw [if_neg b2]
            exact R _ _ h1 (by omega)
theorem aO1 (S:mY n lt) (hn:0<n):(kas_sort n).Way lt (·<n) fun q=>jX n q/\lR lt q n:=by
 have T:jX n (List.toArray (List.range n)):=List.Perm.refl _
 refine KasT.way_bind _ (KasT.way_mono (fun r z=>?_) _ (aKb S hn T))
 obtain⟨m,q⟩:=r
 obtain⟨z1,z2,z3,z4⟩:=z
 have z1:jX n q:=z1
 have z2:lR lt q m:=z2
 have z3:1<=m:=z3
 have z4:m<=n:=z4
 show KasT.Way lt (·<n) (if m<n then kas_bin (n-max m 1) q (max m 1)else _) _
 by_cases e:m<n
 ·rw [if_pos e,show max m 1=m by omega]
  exact aIm S hn _ _ _ z1 (by omega) z2
 ·rw [if_neg e]
  obtain rfl:m=n:=by omega
  exact⟨z1,z2⟩
end PySem.W
namespace PySem
open Sem (wp)
open PyProof.Rows (listItems_at)
open SeqAt
def aVw (A:Around) (s:Shared) (y x:Value) (b:Bool):Prop:=
 ∀(prog:Program) (w:World) (E:Value->Shared->Prop) (Q:Value->Shared->Prop),Q (.bool b) s->wpAny (model prog w) A (richCompare .Lt y x) Q E s
def LtN (n:Nat) (s:Shared) (y x:Value) (b:Bool):Prop:=∀A:Around,A.units<=n->aVw A s y x b
section
variable {s:Shared} {a b:Addr} {xs ys:Array Value} {n:Nat}
end
end PySem
namespace PySem
open Sem (wp)
def iT:List Int->List Int->Bool
 | [],[]=>false
 | [],_::_=>true
 |_::_,[]=>false
 |x::xs,y::ys=>if x=y then iT xs ys else decide (x<y)
theorem wL:∀x,iT x x=false
 | []=>rfl
 |x::xs=>by rw [iT,if_pos rfl];exact wL xs
theorem aEp:∀x y,x≠y->iT x y=true∨iT y x=true
 | [],[],h=>absurd rfl h
 | [],_::_,_=> .inl rfl
 |_::_,[],_=> .inr rfl
 |x::xs,y::ys,h=>by
  unfold iT
  by_cases e:x=y
  ·subst e
   rw [if_pos rfl,if_pos rfl]
   exact aEp xs ys fun z=>h (by rw [z])
  ·rw [if_neg e,if_neg (Ne.symm e),decide_eq_true_iff,decide_eq_true_iff]
   omega
theorem pX:∀x y z,iT x y=true->iT y z=true->iT x z=true
 | [],[],_,h,_=>absurd h (by decide)
 | [],_::_,[],_,h=>absurd h (by simp [iT])
 | [],_::_,_::_,_,_=>rfl
 |_::_,[],_,h,_=>absurd h (by simp [iT])
 |_::_,_::_,[],_,h=>absurd h (by simp [iT])
 |x::xs,y::ys,z::zs,h1,h2=>by
  unfold iT at h1 h2⊢
  by_cases e1:x=y
  ·subst e1
   rw [if_pos rfl]at h1
   by_cases e2:x=z
   ·subst e2
    rw [if_pos rfl]at h2⊢
    exact pX xs ys zs h1 h2
   ·rw [if_neg e2]at h2⊢
    exact h2
  ·rw [if_neg e1,decide_eq_true_iff]at h1
   by_cases e2:y=z
   ·subst e2
    rw [if_neg e1,decide_eq_true_iff]
    exact h1
   ·rw [if_neg e2,decide_eq_true_iff]at h2
    rw [if_neg (by omega),decide_eq_true_iff]
    omega
theorem aA1 (x y:List Int) (h:iT x y=true):iT y x=false:=by
 cases e:iT y x with
 |false=>rfl
 |true=>
  have:=pX x y x h e
  rw [wL]at this
  cases this
end PySem
namespace PySem
open Sem (wp)
open SeqAt
section
variable {prog:Program} {w:World} {s:Shared} {n:Nat}
end
end PySem
namespace PySem
open Sem (wp)
section
variable {prog:Program} {w:World} {K:Type} [DecidableEq K] {knd:HeapKind prog w K} {A:Around}
structure Met (val:Nat->K) (adr:Nat->Addr) (i:Nat) (xs:List (K×Addr)):Prop where
 from':∀x∈xs,∃j,j<i/\x=(val j,adr j)
 all:∀j,j<i->∃x∈xs,x.1=val j
 len:xs.length<=i
theorem kZ {R:Result->Shared->Prop} {I:Addr} {fp wr:List Addr} {G:Array GenState->Array GenState->Prop} {n:Nat} {P:Nat->Value->Prop} {St:Nat->Shared->Prop}
  (D:pF knd) (W:WalksS prog w A.in1 I fp wr G n P St) (S:Addr) (hSf:S∉fp) (hu:knd.room A.in1) (l:Bool)
  (val:Nat->K) (adr:Nat->Addr) (hval:∀i v,P i v->v= .ref (adr i)) (hn:∀i xs,i<n->Met val adr i xs->(xs.map (·.1)).Nodup->xs.length<18) (hnt:∀i s,St i s->∀b∈wr,∀o,s.heap.get? b=some o->o.cls≠ .type "tuple"):
  ∀(k i:Nat) (s:Shared) (xs:List (K×Addr)),n-i=k->i<=n->St i s->(∀j,j<n->knd.is s.heap (val j) (adr j))->
   jA knd s S l xs->Met val adr i xs->
   (∀s' xs',Moved (S::wr) G s s'->jA knd s' S l xs'->Met val adr n xs'->(∀b o,o.cls= .type "tuple"->s.heap.get? b=some o->s'.heap.get? b=some o)->R (.ok (.ret .none)) s')->
   codeAny (model prog w) A (.builtin "set.update.loop" ⟨[.ref S,.ref I],[]⟩) R s:=by
 have hSw:S∉wr:=fun h=>hSf (W.sub _ h)
 have hsub:∀b∈wr,b∈S::wr:=fun b hb=>List.mem_cons_of_mem _ hb
 intro k
 induction k with
 |zero=>
  intro i s xs hk hi hst hkey hS hm0 hR
  have hin:i=n:=by omega
  subst hin
  refine codeAny_builtin PyProof.Rows.F.entry_set_update_loop ?_
  rw [Around.under_plainId PyProof.Rows.F.plain_set_update_loop _]
  show wpAny _ A.in1 (pyNext (.ref I)>>=_) _ _ s
  refine wpAny_bind (W.done s _ _ hst fun s' hm=>?_)
  have ht:∀b o,o.cls= .type "tuple"->s.heap.get? b=some o->s'.heap.get? b=some o:=fun b o hc e=>hm.heap b o (fun hb=>hnt _ _ hst b hb o e hc) e
  show wpAny _ A.in1 (ret Value.none) _ _ s'
  exact wpAny_pure (hR s' xs (hm.mono hsub) (hS.at D (fun o e=>hm.heap S o hSw e) ht) hm0 ht)
 |succ k ih=>
  intro i s xs hk hi hst hkey hS hm0 hR
  have hlt:i<n:=by omega
  refine codeAny_builtin PyProof.Rows.F.entry_set_update_loop ?_
  rw [Around.under_plainId PyProof.Rows.F.plain_set_update_loop _]
  show wpAny _ A.in1 (pyNext (.ref I)>>=_) _ _ s
  refine wpAny_bind (W.item i s _ _ hlt hst fun v s' hP hst' hm=>?_)
  obtain rfl:=hval i v hP
  have ht:∀b o,o.cls= .type "tuple"->s.heap.get? b=some o->s'.heap.get? b=some o:=fun b o hc e=>hm.heap b o (fun hb=>hnt _ _ hst b hb o e hc) e
  have hS':=hS.at D (fun o e=>hm.heap S o hSw e) ht
  have hk':∀j,j<n->knd.is s'.heap (val j) (adr j):=fun j hj=>D.mono (hkey j hj) ht
  show wpAny _ A.in1 (holding [Value.ref (adr i)] (setAdd S (.ref (adr i)))>>=_) _ _ s'
  refine wpAny_bind (wpAny_holding ?_)
  unfold setAdd
  refine wpAny_holding ?_
  refine wpAny_bind (knd.pyHash (k:=val i) hu (hk' i hlt) ?_)
  have hS2:jA knd {s' with toks:=s'.toks+knd.draws (val i)} S l xs:=hS'.at D (fun _ e=>e) fun _ _ _ e=>e
  refine lE D hS2 (hn i xs hlt hm0 (by obtain⟨_,_,_,_,z,_⟩:=hS2;exact z.nd)) hu (hk' i hlt) (fun hold=>?_) (fun hnew h' xs' hsb pm S3=>?_)
  ·refine wpAny_pure ⟨plainId_quiet PyProof.Rows.F.plain_set_update_loop _,ih (i+1) _ xs (by omega) hlt (W.frame _ s' _ _ hst' (Nat.le_add_right _ _) fun b hb o e=>e) hk' hS2 ⟨fun x hx=>?_,fun j hj=>?_,by have:=hm0.len;omega⟩ fun s'' xs'' hm'' S'' M'' ht''=>?_⟩
   ·obtain⟨j,h1,h2⟩:=hm0.from' x hx
    exact⟨j,by omega,h2⟩
   ·by_cases e:j=i
    ·subst e;exact hold
    ·exact hm0.all j (by omega)
   ·exact hR s'' xs'' (Moved.trans W.gtrans ((hm.mono hsub).then_heap (Nat.le_add_right _ _) fun b o hb e=>e) hm'') S'' M'' fun b o hc e=>ht'' b o hc (ht b o hc e)
  ·have hSt:∀b o,o.cls= .type "tuple"->s'.heap.get? b=some o->h'.get? b=some o:=fun b o hc e=>by
    have ne:b≠S:=by
     rintro rfl
     obtain⟨o2,_,_,_,z,_⟩:=hS'
     rw [z.ho]at e
     cases e
     rw [z.hex.1]at hc
     exact absurd hc (by decide)
    rw [hsb.2 b ne]
    exact e
   refine wpAny_pure ⟨plainId_quiet PyProof.Rows.F.plain_set_update_loop _,ih (i+1) _ xs' (by omega) hlt (W.frame _ s' _ _ hst' (Nat.le_add_right _ _) fun b hb o e=>?_) (fun j hj=>D.mono (hk' j hj) hSt) S3 ⟨fun x hx=>?_,fun j hj=>?_,by have:=hm0.len;rw [pm.length_eq,List.length_cons];omega⟩ fun s'' xs'' hm'' S'' M'' ht''=>?_⟩
   ·rw [hsb.2 b (fun h:b=S=>hSf (by rw [<-h];exact hb))];exact e
   ·rcases List.mem_cons.mp (pm.mem_iff.mp hx)with e|m
    ·exact⟨i,by omega,e⟩
    ·obtain⟨j,h1,h2⟩:=hm0.from' x m
     exact⟨j,by omega,h2⟩
   ·by_cases e:j=i
    ·subst e;exact⟨_,pm.mem_iff.mpr List.mem_cons_self,rfl⟩
    ·obtain⟨x,hx,ex⟩:=hm0.all j (by omega)
     exact⟨x,pm.mem_iff.mpr (List.mem_cons_of_mem _ hx),ex⟩
   ·refine hR s'' xs'' (Moved.trans W.gtrans ((hm.mono hsub).then_heap (Nat.le_add_right _ _) fun b o hb e=>?_) hm'') S'' M'' fun b o hc e=>ht'' b o hc (hSt b o hc (ht b o hc e))
    rw [hsb.2 b (fun h:b=S=>hb (by rw [h];exact List.mem_cons_self))];exact e
end
section
variable {prog:Program} {w:World} {A:Around} {E:Value->Shared->Prop} {s:Shared}
theorem zF (a:Value) {Q₁:Value->Shared->Prop}
  (h:Q₁ (.ref s.heap.objs.size) {s with heap:=s.heap.push {cls:= .type "set",dict:=none,data:= .set #[] 0 (.fresh 0 0 (!w.params.followText "set-order"))}}):
  codeAny (model prog w) A (.call (.builtin "set.__new__") ⟨[.type "set",a],[]⟩) (wants Q₁ E) s:=by
 refine codeAny_of_tree ?_
 show wpAny _ A.in1 (do checkBuiltinCall "set.__new__" ⟨[.type "set",a],[]⟩;again (.builtin "set.__new__" ⟨[.type "set",a],[]⟩)) _ _ s
 refine wpAny_bind (wpAny_of_eq (F.newCall_set_1 a) (wpAny_pure ⟨plainId_quiet F.plain_set_new _,codeAny_builtin F.entry_set_new ?_⟩))
 rw [Around.under_plainId F.plain_set_new _]
 unfold Builtin.«set.__new__» Builtin.Frozenset.newClass
 have hsub:=sub_set_self
 obtain⟨hp,g,d,tk,os⟩:=s
 dsimp only
 wp_walk
 refine wpAny_askSetting (wpAny_pure ?_)
 dsimp only
 simp only [newObj]
 refine wpAny_bind (wpAny_alloc (wpAny_pure ?_))
 exact wpAny_pure h
end
section
variable {prog:Program} {w:World} {K:Type} [DecidableEq K] {knd:HeapKind prog w K} {A:Around} {E:Value->Shared->Prop} {s:Shared}
theorem jA.fresh (s:Shared) {a:Addr} (l:Bool) (h:s.heap.get? a=some {cls:= .type "set",dict:=none,data:= .set #[] 0 (.fresh 0 0 l)}):jA knd s a l []:=
 ⟨_, #[],0,_,⟨h,⟨rfl,rfl,rfl⟩,rfl,rfl,⟨rfl,fun i k h1 h2=>absurd h2 (Nat.not_lt_zero _),fun j hj=>(nomatch hj),Nat.zero_le _,SetTable.aSv⟩,rfl,fun x hx=>(nomatch hx),List.nodup_nil,fun i j x h1 h2=>(nomatch h2)⟩,.inl ⟨rfl,Nat.zero_le _⟩,rfl,rfl⟩
def aTm (prog:Program) (w:World) (n:Nat) (P:Nat->Value->Prop) (u:Nat) (s:Shared) (S:Addr) (led:Bool) (Z:Shared->Prop):Prop:=
 ∀{A:Around} {R:Result->Shared->Prop} {I:Addr} {fp wr:List Addr} {G:Array GenState->Array GenState->Prop} {St:Nat->Shared->Prop} (s1:Shared),WalksS prog w A.in1 I fp wr G n P St->S∉fp->A.in1.units<=u+8->
  (∀i s,St i s->∀b∈wr,∀o,s.heap.get? b=some o->o.cls≠ .type "tuple")->St 0 s1->(∀b o,s.heap.get? b=some o->s1.heap.get? b=some o)->s1.heap.get? S=some {cls:= .type "set",dict:=none,data:= .set #[] 0 (.fresh 0 0 led)}->
  (∀s',Moved (S::wr) G s1 s'->Z s'->R (.ok (.ret .none)) s')->codeAny (model prog w) A (.builtin "set.update.loop" ⟨[.ref S,.ref I],[]⟩) R s1
theorem qU {l:Addr} {items:Array Value} {Q:Value->Shared->Prop} (Z:Shared->Prop) (hh:A.handled=none) (hl:s.heap.IsList l items)
  (L:aTm prog w items.size (fun i v=>items[i]? =some v) A.units s s.heap.objs.size (!w.params.followText "set-order") Z)
  (h:∀(h':Heap) (tk:Nat),Z {s with heap:=h',toks:=tk}->(∀b o,b<s.heap.objs.size->s.heap.get? b=some o->h'.get? b=some o)->Q (.ref s.heap.objs.size) {s with heap:=h',toks:=tk}):
  wpAny (model prog w) A (call (.type "set") [.ref l]) Q E s:=by
 obtain⟨c,tl,hmro⟩:=F.called_set.mro
 have hmade:=F.called_set.made
 have hsub:=F.called_set.sub
 refine wpAny_call (codeAny_of_tree ?_)
 show wpAny _ _ (callAny (.type "set") _) _ _ _
 refine wpAny_pure ⟨Code.quiet_builtin _ (by decide+kernel),codeAny_builtin F.entry_type_call ?_⟩
 rw [Around.under_plain (weight_type_call_type "set" [.ref l] []) rfl]
 have h1:=F.called_set.notType
 have h2:=F.called_set.canCreate
 have hct:=F.typeCall_set_1 (.ref l)
 repeat (any_goals (first|assumption|wp_step))
 generalize hled:(!w.params.followText "set-order")=led at L
 refine codeAny_mono (zF (.ref l) (E:=E) (Q₁:=fun obj s₁=>obj= .ref s.heap.objs.size/\s₁={s with heap:=s.heap.push {cls:= .type "set",dict:=none,data:= .set #[] 0 (.fresh 0 0 led)}}) ⟨rfl,by rw [hled]⟩) fun r s₁ hr=>?_
 cases r with
 |error e=>exact hr
 |ok fl=>
  cases fl with
  |ret obj=>
   obtain⟨rfl,rfl⟩:=hr
   have hS:(s.heap.push {cls:= .type "set",dict:=none,data:= .set #[] 0 (.fresh 0 0 led)}).get? s.heap.objs.size=some {cls:= .type "set",dict:=none,data:= .set #[] 0 (.fresh 0 0 led)}:=Heap.get?_push_size _ rfl
   have hT:Shared.TypeIs {s with heap:=s.heap.push {cls:= .type "set",dict:=none,data:= .set #[] 0 (.fresh 0 0 led)}} (.ref s.heap.objs.size) "set":=⟨_,hS,rfl⟩
   have hli:=F.called_set.init.lookup
   have hbi:=F.called_set.init.bind (.ref s.heap.objs.size)
   repeat (any_goals (first|assumption|wp_step))
   refine codeAny_mono (codeAny_call_builtin (R:=wants (fun r s₂=>r= .none/\∃h' tk,s₂={s with heap:=h',toks:=tk}/\Z {s with heap:=h',toks:=tk}/\
     (∀b o,b<s.heap.objs.size->s.heap.get? b=some o->h'.get? b=some o)) E) F.called_set.init.plain F.entry_set_init (check_set_init_1 hT ?_)) fun r₂ s₂ hr₂=>?_
   ·obtain⟨ol,hol,hcl,nl,hdl⟩:=hl
    obtain⟨ocls,odict,odata,oslots⟩:=ol
    simp only at hcl hdl
    subst hcl;subst hdl
    have hol':(s.heap.push {cls:= .type "set",dict:=none,data:= .set #[] 0 (.fresh 0 0 led)}).get? l=some {cls:= .type "list",dict:=odict,data:= .seq items nl,slots:=oslots}:=Heap.get?_push_of_some _ hol
    have hsls:=F.sub_list_set
    have hslf:=F.sub_list_frozenset
    have hne:(Value.type "list"==Value.type "dict")=false:=by decide
    have hl1:(s.heap.push {cls:= .type "set",dict:=none,data:= .set #[] 0 (.fresh 0 0 led)}).IsList l items:=⟨_,hol',rfl,nl,rfl⟩
    unfold Builtin.«set.__init__» noKeywords Builtin.Frozenset.updateFrom
    generalize hPI:pyIter=PI
    wp_walk
    subst hPI
    refine wpAny_pyIter_list hl1 ?_
    refine wpAny_bind (wpAny_runValue ?_)
    have hlS:l<s.heap.objs.size:=Heap.lt_size hol
    have hh3:A.in1.in1.in1.handled=none:=by simp [hh]
    have hneI:l≠(s.heap.push {cls:= .type "set",dict:=none,data:= .set #[] 0 (.fresh 0 0 led)}).objs.size:=by
     rw [Heap.size_push];exact Nat.ne_of_lt (Nat.lt_succ_of_lt hlS)
    have hSf:s.heap.objs.size∉[(s.heap.push {cls:= .type "set",dict:=none,data:= .set #[] 0 (.fresh 0 0 led)}).objs.size,l]:=by
     rw [Heap.size_push];simp only [List.mem_cons,List.mem_singleton,List.not_mem_nil,or_false,not_or]
     exact⟨Nat.ne_of_lt (Nat.lt_succ_self _),Nat.ne_of_gt hlS⟩
    have keep2:∀b o,s.heap.get? b=some o->((s.heap.push {cls:= .type "set",dict:=none,data:= .set #[] 0 (.fresh 0 0 led)}).push {cls:= .type "list_iterator",data:= .fields #[.ref l,.int 0 0]}).get? b=some o:=fun b o e=>Heap.get?_push_of_some _ (Heap.get?_push_of_some _ e)
    refine L _ ((Walks.list hh3 _ l hneI items).toS) hSf (by simp [Around.in1]) ?hnt ⟨⟨_,Heap.get?_push_size _ rfl,rfl,rfl⟩,(hl1.push _)⟩ keep2 (Heap.get?_push_of_some _ hS) ?hR
    case hnt=>
     rintro i s2 ⟨⟨o2,g1,g2,_⟩,_⟩ b hb o e hc
     have hb:=List.mem_singleton.mp hb
     subst hb
     rw [g1]at e
     cases e
     rw [g2]at hc
     exact absurd hc (by decide)
    case hR=>
     intro s' hm hS'
     obtain⟨h',g',d',tk',os'⟩:=s'
     have eg:g'=s.gens:=hm.gens
     have ed:d'=s.drawn:=hm.drawn
     have eo:os'=s.os:=hm.os
     subst eg;subst ed;subst eo
     show wpAny _ _ _ _ _ _
     refine wpAny_pure ?_
     show wpAny _ _ (ret Value.none) _ _ _
     refine wpAny_pure ⟨rfl,h',tk',rfl,hS',fun b o hb e=>?_⟩
     have hb1:b≠s.heap.objs.size:=Nat.ne_of_lt hb
     have hb2:b≠(s.heap.push {cls:= .type "set",dict:=none,data:= .set #[] 0 (.fresh 0 0 led)}).objs.size:=by
      rw [Heap.size_push];exact Nat.ne_of_lt (Nat.lt_succ_of_lt hb)
     exact hm.heap b o (by simp only [List.mem_cons,List.mem_singleton,List.not_mem_nil,or_false,not_or];exact⟨hb1,hb2⟩) (keep2 b o e)
   ·cases r₂ with
    |error e=>exact hr₂
    |ok fl₂=>
     cases fl₂ with
     |ret r=>
      obtain⟨rfl,h',tk,rfl,hS',hk'⟩:=hr₂
      repeat (any_goals (first|assumption|wp_step))
      exact h _ _ hS' hk'
     |_=>exact hr₂.elim
  |_=>exact hr.elim
theorem wG {l:Addr} {items:Array Value} {val:Nat->K} {adr:Nat->Addr} {Q:Value->Shared->Prop} (D:pF knd) (hu:∀A':Around,A'.units<=A.units+8->knd.room A')
  (hh:A.handled=none) (hl:s.heap.IsList l items) (hi:∀(i:Nat) (v:Value),items[i]? =some v->v=Value.ref (adr i)) (hk:∀j,j<items.size->knd.is s.heap (val j) (adr j)) (hb:∀i xs,i<items.size->Met val adr i xs->(xs.map (·.1)).Nodup->xs.length<18)
  (h:∀(h':Heap) (tk:Nat) (xs:List (K×Addr)),jA knd {s with heap:=h',toks:=tk} s.heap.objs.size (!w.params.followText "set-order") xs->Met val adr items.size xs->
   (∀b o,b<s.heap.objs.size->s.heap.get? b=some o->h'.get? b=some o)->Q (.ref s.heap.objs.size) {s with heap:=h',toks:=tk}):
  wpAny (model prog w) A (call (.type "set") [.ref l]) Q E s:=
 qU (fun s'=>∃xs,jA knd s' s.heap.objs.size (!w.params.followText "set-order") xs/\Met val adr items.size xs) hh hl
  (fun s1 W hSf hA hnt st kp hS hR=>kZ D W s.heap.objs.size hSf (hu _ hA) _ val adr hi hb hnt (items.size-0) 0 s1 [] (by omega) (Nat.zero_le _) st (fun j hj=>D.mono (hk j hj) fun b o _ e=>kp b o e) (jA.fresh _ _ hS) ⟨fun x hx=>(nomatch hx),fun j hj=>absurd hj (Nat.not_lt_zero _),Nat.zero_le _⟩ fun s' xs' hm S M _=>hR s' hm ⟨xs',S,M⟩)
  fun h' tk ⟨xs,S,M⟩ kp=>h h' tk xs S M kp
end
end PySem
namespace PySem
open Sem (wp)
def HbV (v:Value):Prop:=∀n,hashByValue n v=pure true
section
variable {prog:Program} {w:World} {K:Type} [DecidableEq K] {knd:KeyKind prog w K} {A:Around} {E:Value->Shared->Prop} {s:Shared}
theorem ItemsAre.hbs (hv:∀k v,knd.is k v=true->HbV v) {x:List K} {vs:List Value} (hx:ItemsAre knd x vs):∀v∈vs,HbV v:=by
 induction hx with
 |nil=>intro v hv;simp at hv
 |@cons k v' ks vs h1 _ ih=>
  intro v hm
  rcases List.mem_cons.mp hm with rfl|hm
  ·exact hv _ _ h1
  ·exact ih v hm
theorem aPj (hv:∀k v,knd.is k v=true->HbV v) {n:Nat} {ks:List K} {a:Addr} {Q:Bool->Shared->Prop} (hk:IsTupleKey knd s.heap ks a) (h:Q true s):wpAny (model prog w) A (hashByValue (n+1) (.ref a)) Q E s:=by
 have hT:=hk.typeIs
 obtain⟨o,items,m,ho,_,hd,hi⟩:=hk
 unfold hashByValue
 refine wpAny_bind (wpAny_specialOf hT F.slot_tuple_hash.lookup ?_)
 show wpAny _ _ (seqItems? (.ref a)>>=_) _ _ s
 refine wpAny_bind (wpAny_seqItems ho hd ?_)
 refine wpAny_bind ?_
 show wpAny _ _ (forIn items _ _) _ _ s
 rw [<-Array.forIn_toList]
 refine wpAny_forIn_list _ (fun rest r s'=>r.1=none/\s'=s/\∀v∈rest,HbV v) _ ?_ ?_ _ _ ⟨rfl,rfl,hi.hbs hv⟩
 ·rintro v rest r s' ⟨hr,rfl,hall⟩
  rw [hall v List.mem_cons_self]
  refine wpAny_bind (wpAny_pure ?_)
  simp only [Bool.not_true,Bool.false_eq_true,if_false]
  exact wpAny_pure ⟨rfl,rfl,fun u hu'=>hall u (List.mem_cons_of_mem _ hu')⟩
 ·rintro⟨r1,r2⟩ s' ⟨hr,rfl,_⟩
  simp only at hr
  subst hr
  exact wpAny_pure h
theorem aMm (hv:∀k v,knd.is k v=true->HbV v) {x:K×List K} {a:Addr} {Q:Bool->Shared->Prop} (hk:bL knd s.heap x a) (h:Q true s):wpAny (model prog w) A (hashByValue 8 (.ref a)) Q E s:=by
 have hT:=hk.typeIs
 obtain⟨o,v,b,m,ho,_,hd,h1,h2⟩:=hk
 unfold hashByValue
 refine wpAny_bind (wpAny_specialOf hT F.slot_tuple_hash.lookup ?_)
 show wpAny _ _ (seqItems? (.ref a)>>=_) _ _ s
 refine wpAny_bind (wpAny_seqItems ho hd ?_)
 refine wpAny_bind ?_
 show wpAny _ _ (forIn _ _ _) _ _ s
 rw [<-Array.forIn_toList]
 refine wpAny_forIn_list _ (fun rest r s'=>r.1=none/\s'=s/\∀u∈rest,u=v∨u= .ref b) _ ?_ ?_ _ _ ⟨rfl,rfl,fun u hu=>by simpa using hu⟩
 ·rintro u rest r s' ⟨hr,rfl,hall⟩
  rcases hall u List.mem_cons_self with rfl|rfl
  ·rw [hv _ _ h1]
   refine wpAny_bind (wpAny_pure ?_)
   simp only [Bool.not_true,Bool.false_eq_true,if_false]
   exact wpAny_pure ⟨rfl,rfl,fun u hu'=>hall u (List.mem_cons_of_mem _ hu')⟩
  ·refine wpAny_bind (aPj hv h2 ?_)
   simp only [Bool.not_true,Bool.false_eq_true,if_false]
   exact wpAny_pure ⟨rfl,rfl,fun u hu'=>hall u (List.mem_cons_of_mem _ hu')⟩
 ·rintro⟨r1,r2⟩ s' ⟨hr,rfl,_⟩
  simp only at hr
  subst hr
  exact wpAny_pure h
theorem aH8 (hv:∀k v,knd.is k v=true->HbV v):pF (jQ knd) where
 mono:=fun x hs=>bL.monoS x hs
 byValue:=fun x h=>aMm hv x h
 plain:=fun x h=>pD x h
end
def bI (b:Bool):Int:=if b then 1 else 0
def Value.isNb (k:Int):Value->Bool
 | .int i _=>i==k
 | .bool b=>bI b==k
 |_=>false
theorem Value.isNb_shape {k:Int} {v:Value} (h:Value.isNb k v=true):(∃t,v= .int k t)∨∃b,v= .bool b/\bI b=k:=by
 cases v with
 |int i t=>exact .inl ⟨t,by rw [eq_of_beq (show(i==k)=true from h)]⟩
 |bool b=>exact .inr ⟨b,rfl,eq_of_beq (show(bI b==k)=true from h)⟩
 |_=>exact absurd h Bool.false_ne_true
theorem HbV.nb {k:Int} {v:Value} (h:Value.isNb k v=true):HbV v:=by
 rcases Value.isNb_shape h with ⟨t,rfl⟩|⟨b,rfl,_⟩
 ·exact fun n=>uR n k t
 ·intro n;cases n<;>rfl
section
variable {prog:Program} {w:World} {A:Around} {E:Value->Shared->Prop} {s:Shared}
theorem aD2 {b:Bool} {Q:Int->Shared->Prop} (h:Q (hashInt (bI b)) {s with toks:=s.toks+1}):wpAny (model prog w) A (pyHash (.bool b)) Q E s:=by
 have hT:s.TypeIs (.bool b) "bool":=rfl
 unfold pyHash
 have hv:[Value.bool b].any Value.onHeap=false:=rfl
 refine wpAny_bind ?_
 rw [cRoomFor,if_neg (by rw [hv];exact Bool.false_ne_true)];refine wpAny_pure ?_
 refine wpAny_bind (wpAny_specialOf hT F.slot_bool_hash.lookup ?_)
 show wpAny _ _ (if(some (Value.builtin "int.__hash__")==some Value.none)=true then _ else _) Q E s
 rw [if_neg (by rw [beq_builtin_none];exact Bool.false_ne_true)]
 refine wpAny_bind (wpAny_specialOf hT F.slot_bool_hash.lookup ?_)
 show wpAny _ _ (callSpecialIfBoundUnlessNone? (.bool b) "__hash__" _>>=_) Q E s
 have hr:=rawHash_range (bI b)
 have body:wpAny (model prog w) A.in1 (Builtin.«int.__hash__» ⟨[.bool b],[]⟩) (fun fin s'=>∃v,fin= .done (.ret v)/\(∃t,v=Value.int (rawHash (bI b)) t)/\s'={s with toks:=s.toks+1}) E s:=by
  cases b
  ·exact(show wpAny _ _ (do ret (<-mkInt 0)) _ _ s from wpAny_bind (wpAny_mkInt (wpAny_pure ⟨_,rfl,⟨_,rfl⟩,rfl⟩)))
  ·exact(show wpAny _ _ (do ret (<-mkInt 1)) _ _ s from wpAny_bind (wpAny_mkInt (wpAny_pure ⟨_,rfl,⟨_,rfl⟩,rfl⟩)))
 refine wpAny_bind (wpAny_callSpecialIfBoundUnlessNone?_slot hT F.slot_bool_hash (wpAny_call_entry F.slot_bool_hash hT F.entry_int_hash (wpAny_mono body (fun fin s' hf=>?_) fun _ _ z=>z) (F.args_int_hash_1 _)))
 obtain⟨v,rfl,⟨t,rfl⟩,rfl⟩:=hf
 refine⟨_,rfl,?_⟩
 show wpAny _ _ (if(decide (-(2:Int) ^ 63<=rawHash (bI b)) && decide (rawHash (bI b)<2 ^ 63))=true then _ else _) Q E _
 rw [if_pos (by rw [decide_eq_true hr.1,decide_eq_true hr.2];rfl)]
 exact wpAny_pure h
theorem sH {a b:Int} {u v:Value} {Q:Bool->Shared->Prop} (hu:Value.isNb a u=true) (hv:Value.isNb b v=true) (h:Q (decide (a=b)) s):wpAny (model prog w) A (eqBool u v) Q E s:=by
 rcases Value.isNb_shape hu with ⟨t,rfl⟩|⟨c,rfl,rfl⟩<;>rcases Value.isNb_shape hv with ⟨t',rfl⟩|⟨d,rfl,rfl⟩
 ·exact wpAny_eqBool_int h
 ·exact SeqAt.EqAt.int_bool a t d prog w E Q h
 ·exact SeqAt.EqAt.bool_int c b t' prog w E Q h
 ·exact SeqAt.EqAt.bool_bool c d prog w E Q (by cases c<;>cases d<;>exact h)
end
def gW (prog:Program) (w:World):KeyKind prog w Int where
 is:=Value.isNb
 hash:=hashInt
 inj:=fun v a b ha hb=>by
  rcases Value.isNb_shape ha with ⟨t,rfl⟩|⟨c,rfl,rfl⟩<;>rcases Value.isNb_shape hb with ⟨t',e⟩|⟨d,e,rfl⟩
  ·cases e;rfl
  ·cases e
  ·cases e
  ·cases e;rfl
 byValue:=fun k v h=>by rcases Value.isNb_shape h with ⟨t,rfl⟩|⟨c,rfl,rfl⟩<;>rfl
 pyHash:=fun hv h=>by
  rcases Value.isNb_shape hv with ⟨t,rfl⟩|⟨c,rfl,rfl⟩
  ·exact wpAny_pyHash_int h
  ·exact aD2 h
 eqBool:=fun hu hv h=>sH hu hv h
 «strs»:=fun k x t v h=>by simp [Value.isNb]at h
end PySem
namespace PySem
open Sem (wp)
open SeqAt
theorem aAa (a:Bool) (b:Int) (u:Tok):Gives (Builtin.«int.__lt__» ⟨[.bool a,.int b u],[]⟩) (.val (Value.bool (decide (bI a<b)))):=
 .of_wp fun M A E s Q h=>by obtain⟨hp,g,d,tk,os⟩:=s;wp_walk;exact⟨_,rfl,h⟩
theorem aJn (a:Bool) (b:Int) (u:Tok):Gives (Builtin.«int.__gt__» ⟨[.bool a,.int b u],[]⟩) (.val (Value.bool (decide (b<bI a)))):=
 .of_wp fun M A E s Q h=>by obtain⟨hp,g,d,tk,os⟩:=s;wp_walk;exact⟨_,rfl,h⟩
theorem aAu (a b:Bool):Gives (Builtin.«int.__lt__» ⟨[.bool a,.bool b],[]⟩) (.val (Value.bool (decide (bI a<bI b)))):=
 .of_wp fun M A E s Q h=>by obtain⟨hp,g,d,tk,os⟩:=s;wp_walk;exact⟨_,rfl,h⟩
theorem LtN.nbs (n:Nat) (s:Shared) {a b:Int} {u v:Value} (hu:Value.isNb a u=true) (hv:Value.isNb b v=true):LtN n s u v (decide (a<b)):=fun A _ prog w E Q h=>by
 rcases Value.isNb_shape hu with ⟨t,rfl⟩|⟨c,rfl,rfl⟩<;>rcases Value.isNb_shape hv with ⟨t',rfl⟩|⟨d,rfl,rfl⟩
 ·exact PyProof.Rows.lt_int h
 ·exact rc_sub_first_or (op:= .Lt) (typeIs_int s a t) rfl (by decide) F.sub_bool_int F.slot_bool_gt_refl (call_gives F.slot_bool_gt_refl rfl F.entry_int_gt (F.args_int_gt_2 _ _) (aJn d a t) ⟨nofun,h⟩) (.inl rfl)
 ·exact rc_left_or (op:= .Lt) rfl (typeIs_int s b t') (by decide) F.sub_int_bool F.slot_bool_lt (call_gives F.slot_bool_lt rfl F.entry_int_lt (F.args_int_lt_2 _ _) (aAa c b t') ⟨nofun,h⟩) (.inl rfl)
 ·exact richCompare_gives (op:= .Lt) (T:="bool") rfl rfl F.slot_bool_lt F.entry_int_lt (F.args_int_lt_2 _ _) (aAu c d) (fun x=>nomatch x) h
section
variable {prog:Program} {w:World} {s:Shared} {n:Nat}
theorem LtN.tupsN {a b:Addr} {x y:List Int} (ha:IsTupleKey (gW prog w) s.heap x a) (hb:IsTupleKey (gW prog w) s.heap y b) (hn:n+4<cLine):LtN n s (.ref a) (.ref b) (iT x y):=by
 obtain⟨oa,ia,na,hoa,ca,da,ha⟩:=ha
 obtain⟨ob,ib,nb,hob,cb,db,hb⟩:=hb
 have Ta:s.TypeIs (.ref a) "tuple":=⟨oa,hoa,ca⟩
 have Tb:s.TypeIs (.ref b) "tuple":=⟨ob,hob,cb⟩
 intro A hA prog' w' E Q hQ
 refine wpAny_richCompare_same_room (op:= .Lt) Ta Tb F.slot_tuple_lt (wpAny_call (codeAny_call_builtin F.slot_tuple_lt.plain F.entry_tuple_lt (F.slot_tuple_lt.check _ _ _ _ _ _ _ _ Ta (F.args_tuple_lt_2 _ _) ?_))) (by omega)
 show wpAny _ _ (isInstance (.ref b) (.type "tuple")>>=_) _ _ s
 refine wpAny_bind (wpAny_isInstance Tb isSubtype_tuple_tuple ?_)
 simp only [Bool.not_true,Bool.false_eq_true,if_false]
 refine wpAny_bind (wpAny_tupleItemsOf hoa da ?_)
 refine wpAny_bind (wpAny_tupleItemsOf hob db ?_)
 refine wpAny_bind (wpAny_mono (Q:=fun r s'=>s'=s/\(match r.1 with|some v=>v= .done (.ret (.bool (iT x y)))|none=>iT x y=decide (x.length<y.length))) ?_ (fun r s' h=>?_) fun _ _ z=>z)
 ·clear hQ hoa hob da db ca cb Ta Tb
  generalize ia.toList=us at ha⊢
  generalize ib.toList=vs at hb⊢
  induction ha generalizing y vs with
  |nil=>
   rw [List.zip_nil_left,List.forIn_nil]
   refine wpAny_pure ⟨rfl,?_⟩
   cases hb<;>rfl
  |@cons i u x us h1 t1 ih=>
   cases hb with
   |nil=>
    rw [List.zip_nil_right,List.forIn_nil]
    exact wpAny_pure ⟨rfl,rfl⟩
   |@cons j v y vs h2 t2=>
    rw [List.zip_cons_cons,List.forIn_cons]
    refine wpAny_bind (wpAny_bind (sH h1 h2 ?_))
    by_cases ij:i=j
    ·subst ij
     rw [decide_eq_true rfl]
     simp only [Bool.not_true,Bool.false_eq_true,if_false]
     refine wpAny_pure ?_
     dsimp only
     have:=ih vs t2
     have e1:iT (i::x) (i::y)=iT x y:=by rw [iT,if_pos rfl]
     have e2:decide ((i::x).length<(i::y).length)=decide (x.length<y.length):=by simp
     rw [e1,e2]
     exact this
    ·rw [decide_eq_false ij]
     have e1:iT (i::x) (j::y)=decide (i<j):=by rw [iT,if_neg ij]
     rw [e1]
     simp only [Bool.not_false,if_true]
     refine wpAny_bind (wpAny_rule (wpAny_bind (LtN.nbs (n+3) s h1 h2 A.in1 (by show A.units+1<=n+3;omega) prog' w' _ _ ?_)))
     exact wpAny_bind (wpAny_pure (wpAny_pure (wpAny_pure ⟨rfl,rfl⟩)))
 ·obtain⟨rfl,h⟩:=h
  obtain⟨r,u⟩:=r
  cases r with
  |some v=>
   have h:v=_:=h
   subst h
   exact wpAny_pure ⟨(fun z=>nomatch z),hQ⟩
  |none=>
   have h:iT x y=_:=h
   rw [ha.length,hb.length,Array.length_toList,Array.length_toList]at h
   refine wpAny_pure ⟨(fun z=>nomatch z),?_⟩
   rw [h]at hQ
   exact hQ
end
open PyProof.Rows PySem.W
section
variable {prog:Program} {w:World} {A:Around} {E:Value->Shared->Prop} {s:Shared}
theorem aNh {b:Bool} {x y:Int} {u v:Value} {Q:Bool->Shared->Prop} (hu:Value.isNb x u=true) (hv:Value.isNb y v=true) (h:Q (decide (x<y)) s):wpAny (model prog w) A (oneLt' b u v) Q E s:=by
 have rc:=LtN.nbs A.units s hu hv
 cases b with
 |false=>exact kat_one _ _ (rc A (Nat.le_refl _) prog w E (PySem.W.BoolBack Q) h)
 |true=>
  rw [oneLt'_eq]
  simp only [if_true]
  rcases Value.isNb_shape hu with ⟨t,rfl⟩|⟨c,rfl,rfl⟩<;>rcases Value.isNb_shape hv with ⟨t',rfl⟩|⟨d,rfl,rfl⟩
  ·refine wpAny_bind (wpAny_cRoomFor_byValue rfl ?_)
   refine wpAny_bind (wpAny_callSpecialIfBound?_slot (typeIs_int s x t) slot_int_lt (call_int_lt ?_))
   exact wpAny_truthy_bool h
  ·refine wpAny_bind (wpAny_cRoomFor_byValue rfl ?_)
   refine wpAny_bind (wpAny_callSpecialIfBound?_slot (typeIs_int s x t) F.slot_int_lt (call_gives F.slot_int_lt (typeIs_int s x t) F.entry_int_lt (F.args_int_lt_2 _ _) (AutoIntG9.int___lt___int_bool_0 x t d) ?_))
   exact wpAny_truthy_bool h
  ·refine wpAny_bind (wpAny_cRoomFor_byValue rfl ?_)
   refine wpAny_bind (wpAny_callSpecialIfBound?_slot (T:="bool") rfl F.slot_bool_lt (call_gives F.slot_bool_lt rfl F.entry_int_lt (F.args_int_lt_2 _ _) (aAa c y t') ?_))
   exact wpAny_truthy_bool h
  ·refine wpAny_bind (wpAny_cRoomFor_byValue rfl ?_)
   refine wpAny_bind (wpAny_callSpecialIfBound?_slot (T:="bool") rfl F.slot_bool_lt (call_gives F.slot_bool_lt rfl F.entry_int_lt (F.args_int_lt_2 _ _) (aAu c d) ?_))
   exact wpAny_truthy_bool h
end
structure aDa {prog:Program} {w:World} {α:Type} [DecidableEq α] (knd:HeapKind prog w α) (ok:α->Prop) (lt:α->α->Bool):Prop where
 set:pF knd
 tot:∀x y,x≠y->lt x y=true∨lt y x=true
 asym:∀x y,lt x y=true->lt y x=false
 trans:∀x y z,lt x y=true->lt y z=true->lt x z=true
 first:∀{h:Heap} {k:α} {a:Addr},ok k->knd.is h k a->∃o items n i v,h.get? a=some o/\o.cls= .type "tuple"/\o.data= .seq items n/\items[0]? =some v/\Value.isNb i v=true
 cmp:∀{A:Around} {E:Value->Shared->Prop} {b:Bool} {s:Shared} {x y:α} {p q:Addr} {Q:Bool->Shared->Prop},A.units+10<cLine->knd.is s.heap x p->knd.is s.heap y q->Q (lt x y) s->wpAny (model prog w) A (keyLt' (tuples' b) (.ref p) (.ref q)) Q E s
section
variable {prog:Program} {w:World} {A:Around} {E:Value->Shared->Prop} {s:Shared} {α:Type} [DecidableEq α] [Inhabited α] {knd:HeapKind prog w α} {ok:α->Prop} {lt:α->α->Bool}
def zP (knd:HeapKind prog w α) (ok:α->Prop) (h:Heap) (xs:List (α×Addr)):Prop:=∀x∈xs,ok x.1/\knd.is h x.1 x.2
theorem zP.mono (O:aDa knd ok lt) {h h':Heap} {xs:List (α×Addr)} (T:zP knd ok h xs) (hs:∀b o,o.cls= .type "tuple"->h.get? b=some o->h'.get? b=some o):zP knd ok h' xs:=fun x hx=>⟨(T x hx).1,O.set.mono (T x hx).2 hs⟩
theorem zP.kat (O:aDa knd ok lt) {h:Heap}:∀{xs:List (α×Addr)},zP knd ok h xs->∃fs:List Value,fs.length=xs.length/\(∀v∈fs,∃i,Value.isNb i v=true)/\KatTups h (xs.map fun x=>Value.ref x.2) fs
 | [],_=>⟨[],rfl,fun v hv=>(nomatch hv),KatTups.nil⟩
 |x::xs,T=>by
  obtain⟨fs,f1,f2,f3⟩:=zP.kat O (xs:=xs) fun y hy=>T y (List.mem_cons_of_mem _ hy)
  obtain⟨o,items,n,i,v0,ho,hc,hd,hf,hn⟩:=O.first (T x List.mem_cons_self).1 (T x List.mem_cons_self).2
  refine⟨v0::fs,by rw [List.length_cons,List.length_cons,f1],fun v hv=>?_,KatTups.cons ho hc hd hf f3⟩
  rcases List.mem_cons.mp hv with rfl|hv
  ·exact⟨_,hn⟩
  ·exact f2 v hv
theorem aBc {α:Type} {xs:List α} {p:List Nat} (hp:p.Perm (List.range xs.length)):(p.filterMap fun i:Nat=>xs[i]?).Perm xs:=by
 have:=hp.filterMap fun i:Nat=>xs[i]?
 rw [nJ]at this
 exact this
theorem aKd {M:Model} {vs fs:List Value} {Q:SortKind->Shared->Prop} (t:KatTups s.heap vs fs) (hne:0<fs.length) (hT:∀v∈fs,∃i,Value.isNb i v=true) (h:∀b,Q (tuples' b) s):
  wpAny M A (keyKind' vs.toArray) Q E s:=by
 obtain⟨f₁,fr,rfl⟩:∃f₁ fr,fs=f₁::fr:=by
  match fs,hne with
  |f₁::fr,_=>exact⟨f₁,fr,rfl⟩
 rw [kat_kind_eq,List.mapM_toArray,map_eq_pure_bind]
 refine wpAny_bind (wpAny_bind (kat_firsts vs _ t (wpAny_pure ?_)))
 have hall:(((f₁::fr).map some).toArray.all fun x=>x.isSome)=true:=by simp
 rw [if_pos hall]
 refine wpAny_bind (wpAny_rule ?_)
 have hfm:(((f₁::fr).map some).toArray.filterMap id)=(f₁::fr).toArray:=by simp
 rw [hfm,oneTypeOnly'_eq,List.mapM_toArray,map_eq_pure_bind]
 have tys:∀(l:List Value),(∀v∈l,∃i,Value.isNb i v=true)->∀{Q':List Value->Shared->Prop},(∀ts:List Value,Q' ts s)->wpAny M A (l.mapM typeOf) Q' E s:=by
  intro l
  induction l with
  |nil=>intro _ Q' q;rw [List.mapM_nil];exact wpAny_pure (q [])
  |cons v l ih=>
   intro hl Q' q
   rw [List.mapM_cons]
   obtain⟨i,hi⟩:=hl v List.mem_cons_self
   rcases Value.isNb_shape hi with ⟨t,rfl⟩|⟨c,rfl,_⟩
   ·exact wpAny_bind (wpAny_typeOf (typeIs_int s i t) (wpAny_bind (ih (fun u hu=>hl u (List.mem_cons_of_mem _ hu)) fun ts=>wpAny_pure (q _))))
   ·exact wpAny_bind (wpAny_typeOf (T:="bool") rfl (wpAny_bind (ih (fun u hu=>hl u (List.mem_cons_of_mem _ hu)) fun ts=>wpAny_pure (q _))))
 refine wpAny_bind (wpAny_bind (wpAny_bind (tys _ hT fun ts=>wpAny_pure ?_)))
 generalize hg:ts.toArray=ta
 cases ta[0]? with
 |none=>exact wpAny_pure (wpAny_pure (h _))
 |some T=>
  dsimp only
  split
  ·exact wpAny_pure (wpAny_pure (h _))
  ·exact wpAny_pure (wpAny_pure (h _))
theorem yI (O:aDa knd ok lt) (hu:A.units+20<cLine) {a:Addr} {xs:List (α×Addr)} {n:Nat} {P:Fin->Shared->Prop} (ho:s.heap.get? a=some (seqObj "list" (xs.map fun x=>Value.ref x.2).toArray n))
  (T:zP knd ok s.heap xs) (nd:(xs.map (·.1)).Nodup) (h64:xs.length<64)
  (h:∀ys:List (α×Addr),ys.Perm xs->ys.Pairwise (fun x y=>lt x.1 y.1=true)->P (.done (.ret .none)) {s with heap:=sortedHeap s.heap a (xs.map fun x=>Value.ref x.2) (ys.map fun x=>Value.ref x.2).toArray}):
  wpAny (model prog w) A (Builtin.«list.sort» ⟨[.ref a],[]⟩) P E s:=by
 rw [list_sort_plain]
 have ha:a<s.heap.objs.size:=Heap.lt_size ho
 generalize hvs:(xs.map fun x=>Value.ref x.2)=vs at ho h
 have vl:vs.length=xs.length:=by rw [<-hvs,List.length_map]
 refine wpAny_bind (listItems_at ho rfl ?_)
 refine wpAny_bind (listUpdate_at ho rfl ?_ (by rw [List.size_toArray,sizeLine_eq];omega) (Nat.zero_le _))
 obtain⟨e1,ho1⟩:∃e1,(s.heap.update a (Obj.mapSeq fun _=> #[])).get? a=some (seqObj "list" #[] e1):=⟨_,get?_update_seq ho (fun _=> #[])⟩
 refine wpAny_bind (seqEpoch_at ho1 rfl ?_)
 refine wpAny_bind (wpAny_newTuple ?_ (by show vs.length<=_;rw [sizeLine_eq];omega))
 refine wpAny_bind (wpAny_newList ?_ (Nat.zero_le _))
 refine wpAny_holding ?_
 have kp:∀b o,b≠a->s.heap.get? b=some o->(((s.heap.update a (Obj.mapSeq fun _=> #[])).push (seqObj "tuple" vs.toArray 0)).push (seqObj "list" #[] 0)).get? b=some o:=fun b o hb e=>
  Heap.get?_push_of_some _ (Heap.get?_push_of_some _ ((Heap.get?_update_other _ _ (Ne.symm hb)).trans e))
 have ho6:(((s.heap.update a (Obj.mapSeq fun _=> #[])).push (seqObj "tuple" vs.toArray 0)).push (seqObj "list" #[] 0)).get? a=some (seqObj "list" #[] e1):=Heap.get?_push_of_some _ (Heap.get?_push_of_some _ ho1)
 show wpAny (model prog w) A _ P E {s with heap:=((s.heap.update a (Obj.mapSeq fun _=> #[])).push (seqObj "tuple" vs.toArray 0)).push (seqObj "list" #[] 0)}
 dsimp only
 generalize hH:((s.heap.update a (Obj.mapSeq fun _=> #[])).push (seqObj "tuple" vs.toArray 0)).push (seqObj "list" #[] 0)=H at ho6 kp
 have T6:zP knd ok H xs:=T.mono O fun b o hc e=>kp b o (fun z=>by subst z;rw [ho]at e;cases e;exact absurd (show Value.type "list"=Value.type "tuple" from hc) (by decide)) e
 have fin:∀out:Array Value,sortedHeap s.heap a vs out=H.update a (Obj.mapSeq fun _=>out):=fun out=>by rw [<-hH];rfl
 by_cases h2:vs.toArray.size<2
 ·rw [if_pos h2,if_pos h2]
  refine wpAny_bind (wpAny_pure ?_)
  rw [StateT.run_pure]
  refine wpAny_bind (wpAny_pure ?_)
  dsimp only
  refine wpAny_bind (seqEpoch_at ho6 rfl ?_)
  have ev:(pairsOf vs).map (·.2)=vs.toArray:=by
   apply Array.toList_inj.mp
   rw [Array.toList_map,pairsOf_toList]
   exact List.map_snd_zip (Nat.le_refl _)
  have hz:((pairsOf vs).map (·.2)).size<=sizeLine+1:=by rw [ev,List.size_toArray,sizeLine_eq];omega
  refine wpAny_bind (listUpdate_at ho6 rfl ?_ (Nat.zero_le _) hz)
  simp only [bne_self_eq_false,Bool.false_eq_true,if_false]
  refine wpAny_pure ?_
  have q:=h xs (List.Perm.refl _) (by
   rw [List.size_toArray,vl]at h2
   match xs,h2 with
   | [],_=>exact .nil
   | [x],_=>exact List.pairwise_singleton _ _)
  rw [fin,hvs]at q
  have q':P (.done (.ret .none)) {s with heap:=H.update a (Obj.mapSeq fun _=>(pairsOf vs).map (·.2))}:=by rw [ev];exact q
  exact q'
 ·rw [if_neg h2,if_neg h2]
  rw [List.size_toArray]at h2
  obtain⟨fs,f1,f2,f3⟩:=zP.kat O T6
  rw [hvs]at f3
  refine wpAny_bind (aKd f3 (by omega) f2 fun bk=>?_)
  ·have keyd:∀i,i<xs.length->xs[i]? =some (xs.getD i (default,0))/\vs.getD i Value.none= .ref (xs.getD i (default,0)).2:=fun i hi=>by
    rw [<-hvs]
    simp [List.getD,hi]
   have S:mY xs.length fun i j=>lt (xs.getD i (default,0)).1 (xs.getD j (default,0)).1:=by
    refine⟨fun i j hi hj ne=>O.tot _ _ fun z=>ne ?_,fun i j=>O.asym _ _,fun i j k=>O.trans _ _ _⟩
    have li:i<(xs.map (·.1)).length:=by rw [List.length_map];exact hi
    have lj:j<(xs.map (·.1)).length:=by rw [List.length_map];exact hj
    refine(List.getElem_inj (h₀:=li) (h₁:=lj) nd).mp ?_
    simpa [List.getD,hi,hj]using z
   have wy:=aO1 S (by omega)
   rw [<-vl]at wy
   refine wpAny_bind (wpAny_mono (kat_run (ks:=vs) (vs:=vs) (Q:=fun st' s'=>s'={s with heap:=H}/\∃p:Array Nat,p.size=vs.length/\arrOf st'=p.map (kas_item (vs.toArray.zip vs.toArray))/\failedOf st'=none/\jX vs.length p/\lR (fun i j=>lt (xs.getD i (default,0)).1 (xs.getD j (default,0)).1) p vs.length)
    (G:=fun p s'=>s'={s with heap:=H}/\jX vs.length p/\lR (fun i j=>lt (xs.getD i (default,0)).1 (xs.getD j (default,0)).1) p vs.length) rfl (by omega) (by omega) (fun p st' s' a1 a2 a3 a4=>⟨a4.1,p,a1,a2,a3,a4.2⟩)
    (KasT.way_wp (fun i j C hi hj hC=>?_) (fun p hp=>⟨rfl,hp⟩) _ wy)) ?_ fun _ _ e=>e)
   ·have hi:i<vs.length:=hi
    have hj:j<vs.length:=hj
    rw [vl]at hi hj
    show wpAny _ _ (keyLt' _ (vs.getD i Value.none) (vs.getD j Value.none)) _ _ _
    obtain⟨a1,a2⟩:=keyd i hi
    obtain⟨b1,b2⟩:=keyd j hj
    rw [a2,b2]
    exact O.cmp (by omega) (T6 _ (List.mem_of_getElem? a1)).2 (T6 _ (List.mem_of_getElem? b1)).2 hC
   ·rintro⟨⟨⟩,st'⟩ s' ⟨rfl,p,hp,har,hf,hT,hR⟩
    dsimp only
    have hout:=kat_snds rfl har
    have pm:p.toList.Perm (List.range xs.length):=by rw [<-vl];exact hT
    have ey:(p.toList.map fun i=>vs.getD i Value.none)=(p.toList.filterMap fun i:Nat=>xs[i]?).map fun x=>Value.ref x.2:=by
     rw [List.map_filterMap]
     have:∀l:List Nat,(∀i∈l,i<xs.length)->(l.map fun i=>vs.getD i Value.none)=l.filterMap fun i:Nat=>(xs[i]?).map fun x=>Value.ref x.2:=by
      intro l
      induction l with
      |nil=>intro _;rfl
      |cons i l ih=>
       intro hl
       obtain⟨a1,a2⟩:=keyd i (hl i List.mem_cons_self)
       rw [List.map_cons,List.filterMap_cons,a1,ih fun j hj=>hl j (List.mem_cons_of_mem _ hj),a2]
       rfl
     exact this _ fun i hi=>List.mem_range.mp (pm.mem_iff.mp hi)
    have hsz:(List.toArray (p.toList.map fun i=>vs.getD i Value.none)).size<=sizeLine+1:=by rw [List.size_toArray,List.length_map,Array.length_toList,hp,sizeLine_eq];omega
    refine wpAny_bind (seqEpoch_at ho6 rfl ?_)
    rw [hout]
    refine wpAny_bind (listUpdate_at ho6 rfl ?_ (Nat.zero_le _) hsz)
    rw [hf]
    simp only [bne_self_eq_false,Bool.false_eq_true,if_false]
    refine wpAny_pure ?_
    have q:=h (p.toList.filterMap fun i:Nat=>xs[i]?) (aBc pm) (by
     rw [List.pairwise_iff_getElem]
     intro i j hi hj hij
     have pl:p.toList.length=xs.length:=by rw [pm.length_eq,List.length_range]
     have fl:=(aBc pm).length_eq
     have gt:∀r,(hr:r<(p.toList.filterMap fun i:Nat=>xs[i]?).length)->(p.toList.filterMap fun i:Nat=>xs[i]?)[r]=xs.getD (vAt p r) (default,0):=fun r hr=>by
      have hr':r<p.toList.length:=by omega
      have e1:=filterMap_get (f:=fun i:Nat=>xs[i]?) (l:=p.toList) (fun i hi=>⟨_,List.getElem?_eq_getElem (List.mem_range.mp (pm.mem_iff.mp hi))⟩) r
      rw [List.getElem?_eq_getElem hr,List.getElem?_eq_getElem hr']at e1
      have e2:vAt p r=p.toList[r]:=by rw [iH, <-Array.getElem?_toList,List.getElem?_eq_getElem hr'];rfl
      rw [e2]
      have lt:p.toList[r]<xs.length:=List.mem_range.mp (pm.mem_iff.mp (List.getElem_mem hr'))
      have e3:(some p.toList[r]).bind (fun i:Nat=>xs[i]?)=some (xs.getD p.toList[r] (default,0)):=(keyd _ lt).1
      rw [e3]at e1
      exact Option.some.inj e1
     rw [gt i hi,gt j hj]
     exact hR i j hij (by omega))
    rw [fin, <-ey]at q
    exact q
theorem aFl (O:aDa knd ok lt) (hu:A.units+30<cLine) {S:Addr} {xs:List (α×Addr)} {Q:Value->Shared->Prop} (hh:A.handled=none) (I:jA knd s S (!w.params.followText "set-order") xs) (ne:∀x∈xs,ok x.1) (h64:xs.length<64)
  (h:∀(h':Heap) (tk:Nat) (l:Addr) (e:Nat) (ys:List (α×Addr)),ys.Perm xs->ys.Pairwise (fun x y=>lt x.1 y.1=true)->s.heap.objs.size<=l->h'.get? l=some (seqObj "list" (ys.map fun x=>Value.ref x.2).toArray e)->
   (∀b o,s.heap.get? b=some o->h'.get? b=some o)->Q (.ref l) {s with heap:=h',toks:=tk}):
  wpAny (model prog w) A (call (.builtin "sorted") [.ref S]) Q E s:=by
 obtain⟨o,es,ep,t,I,sm,pl,ld⟩:=I
 refine Calls.call_function_entry kind_sorted plain_sorted entry_sorted (args_sorted1 _) ?_
 unfold Builtin.«sorted»
 refine wpAny_bind (m:=checkCount "sorted" 1 1 _) (wpAny_pure ?_)
 have esz:es.size<64:=by rw [I.len];exact h64
 refine wpAny_bind (jY (by simpa using hh) I.ho I.hex I.hd I.fits I.good.rise pl ld (by rw [sizeLine_eq];omega) fun h1 tk1 s1 k1=>?_)
 have op:=iK w S es ep
 have eo:es.toList.map (·.2)=xs.map fun x=>Value.ref x.2:=by rw [I.he,List.map_map];rfl
 rw [eo]at op
 obtain⟨zs,pz,ez⟩:∃zs:List (α×Addr),zs.Perm xs/\fM w S es ep=zs.map fun x=>Value.ref x.2:=by
  have:∀{l:List Value} {xs:List (α×Addr)},l.Perm (xs.map fun x=>Value.ref x.2)->∃zs:List (α×Addr),zs.Perm xs/\l=zs.map fun x=>Value.ref x.2:=fun{l xs} hp=>by
   generalize hm:(xs.map fun x=>Value.ref x.2)=m at hp
   induction hp generalizing xs with
   |nil=>exact⟨xs,List.Perm.refl _,hm.symm⟩
   |cons a p ih=>
    match xs,hm with
    |x::xs,hm=>
     obtain⟨e1,e2⟩:=List.cons.inj hm
     obtain⟨zs,z1,z2⟩:=ih e2
     exact⟨x::zs,z1.cons x,by rw [z2, <-e1];rfl⟩
   |swap a b l=>
    match xs,hm with
    |x::y::xs,hm=>
     obtain⟨e1,e2⟩:=List.cons.inj hm
     obtain⟨e2,e3⟩:=List.cons.inj e2
     exact⟨y::x::xs,List.Perm.swap _ _ _,by rw [<-e1, <-e2, <-e3];rfl⟩
   |trans p1 p2 ih1 ih2=>
    obtain⟨zs,z1,z2⟩:=ih2 hm
    obtain⟨us,u1,u2⟩:=ih1 z2.symm
    exact⟨us,u1.trans z1,u2⟩
  exact this op
 rw [ez]
 have zl:zs.length=xs.length:=pz.length_eq
 refine wpAny_bind (wpAny_newList ?_ (by rw [List.length_map,sizeLine_eq];omega))
 have hoL:(h1.push (seqObj "list" (zs.map fun x=>Value.ref x.2).toArray 0)).get? h1.objs.size=some (seqObj "list" (zs.map fun x=>Value.ref x.2).toArray 0):=Heap.get?_push_size _ rfl
 have T1:zP knd ok (h1.push (seqObj "list" (zs.map fun x=>Value.ref x.2).toArray 0)) zs:=fun x hx=>⟨ne x (pz.mem_iff.mp hx),O.set.mono (I.keys x (pz.mem_iff.mp hx)) fun b o _ e=>Heap.get?_push_of_some _ (k1 b o e)⟩
 refine wpAny_bind (wpAny_holding (wpAny_call_entry slot_list_sort ⟨_,hoL,rfl⟩ entry_list_sort (yI O (by first|omega|(show A.units+1+20<cLine;omega)|(show A.units+2+20<cLine;omega)|(show A.units+3+20<cLine;omega)) hoL T1 (by rw [(pz.map (·.1)).nodup_iff];exact I.nd) (by omega) fun ys py hy=>⟨_,rfl,?_⟩) (args_list_sort _)))
 refine wpAny_pure ⟨_,rfl,?_⟩
 obtain⟨e,he⟩:=sortedHeap_at (out:=(ys.map fun x=>Value.ref x.2).toArray) hoL
 refine h _ tk1 _ e ys (py.trans pz) hy (Nat.le_of_lt s1) he fun b o q=>?_
 have hb:b<h1.objs.size:=Heap.lt_size (k1 b o q)
 rw [sortedHeap_old (Nat.ne_of_lt hb) (by rw [Heap.size_push];exact Nat.lt_succ_of_lt hb)]
 exact Heap.get?_push_of_some _ (k1 b o q)
end
section
variable {prog:Program} {w:World}
def wA (x y:Int×List Int):Bool:=if x.1=y.1 then iT x.2 y.2 else decide (x.1<y.1)
theorem aP9:aDa (jQ (gW prog w)) (fun _=>True) wA where
 set:=aH8 fun k v h=>HbV.nb h
 tot:=fun x y ne=>by
  unfold wA
  by_cases e:x.1=y.1
  ·rw [if_pos e,if_pos e.symm]
   exact aEp _ _ fun z=>ne (Prod.ext e z)
  ·rw [if_neg e,if_neg (Ne.symm e),decide_eq_true_iff,decide_eq_true_iff]
   omega
 asym:=fun x y h=>by
  unfold wA at h⊢
  by_cases e:x.1=y.1
  ·rw [if_pos e]at h
   rw [if_pos e.symm]
   exact aA1 _ _ h
  ·rw [if_neg e,decide_eq_true_iff]at h
   rw [if_neg (Ne.symm e),decide_eq_false_iff_not]
   omega
 trans:=fun x y z h1 h2=>by
  unfold wA at h1 h2⊢
  by_cases e1:x.1=y.1
  ·rw [if_pos e1]at h1
   by_cases e2:y.1=z.1
   ·rw [if_pos e2]at h2
    rw [if_pos (e1.trans e2)]
    exact pX _ _ _ h1 h2
   ·rw [if_neg e2,decide_eq_true_iff]at h2
    rw [if_neg (by omega),decide_eq_true_iff]
    omega
  ·rw [if_neg e1,decide_eq_true_iff]at h1
   by_cases e2:y.1=z.1
   ·rw [if_neg (by omega),decide_eq_true_iff]
    omega
   ·rw [if_neg e2,decide_eq_true_iff]at h2
    rw [if_neg (by omega),decide_eq_true_iff]
    omega
 first:=fun _ hk=>by
  obtain⟨o,v,b,n,ho,hc,hd,h1,_⟩:=hk
  exact⟨o,_,n,_,v,ho,hc,hd,rfl,h1⟩
 cmp:=fun{A E b s x y p q Q} hu hx hy h=>by
  obtain⟨ox,v,px,nx,h1,h2,h3,h4,h5⟩:=hx
  obtain⟨oy,v',py,ny,g1,g2,g3,g4,g5⟩:=hy
  refine kat_lt h1 h3 g1 g3 ?_
  show KatLex prog w A b _ Q [(_,_),(_,_)] 0 s
  refine kat_cons (sH h4 g4 ?_)
  unfold wA at h
  by_cases e:x.1=y.1
  ·rw [if_pos e]at h
   rw [decide_eq_true e]
   refine kat_yes (kat_cons ((tupleKind (gW prog w)).eqBool (show A.units<cLine by omega) h5 g5 ?_))
   by_cases e2:x.2=y.2
   ·rw [decide_eq_true e2]
    refine kat_yes (kat_nil ?_)
    rw [e2,wL]at h
    exact h
   ·rw [decide_eq_false e2]
    refine kat_no ?_
    rw [show(b && (0+1==0))=false by cases b<;>rfl]
    exact kat_one _ _ (LtN.tupsN (n:=A.units) h5 g5 (by omega) A (Nat.le_refl _) prog w _ _ h)
  ·rw [if_neg e]at h
   rw [decide_eq_false e]
   refine kat_no ?_
   exact aNh h4 g4 h
end
end PySem
namespace PySem
open Sem (wp)
def tX (l:Bool) (zs:List Nat):SetTable:={mask:=7,place:=zs.toArray,dummies:= #[],finger:=0,led:=l,moves:=0,plain:=true}
def fH (zs:List Nat) (tk:Nat->Tok):Array (Int×Value):=(zs.map fun z:Nat=>((z:Int),Value.int (z:Int) (tk z))).toArray
def fJ:List (List Nat):=[[],[1],[2],[3],[1,2],[1,3],[2,3],[1,2,3]]
def mO (x:Nat) (zs:List Nat):List Nat:=[1,2,3].filter fun z=>decide (z=x∨z∈zs)
theorem qR (x:Nat) (zs:List Nat):mO x zs∈fJ:=by
 unfold mO
 by_cases h1:1=x∨1∈zs<;>by_cases h2:2=x∨2∈zs<;>by_cases h3:3=x∨3∈zs<;>simp [List.filter,h1,h2,h3,fJ]
theorem aMb {x z:Nat} {zs:List Nat} (hz:zs∈fJ) (hx:x∈[1,2,3]):z∈mO x zs↔z=x∨z∈zs:=by
 unfold mO
 rw [List.mem_filter,decide_eq_true_iff]
 refine⟨fun h=>h.2,fun h=>⟨?_,h⟩⟩
 rcases h with rfl|h
 ·exact hx
 ·simp only [fJ,List.mem_cons,List.not_mem_nil,or_false]at hz
  rcases hz with rfl|rfl|rfl|rfl|rfl|rfl|rfl|rfl<;>simp at h⊢ <;>omega
theorem aVu {l:Bool} {zs:List Nat} {x:Nat} {tk:Nat->Tok} {t:Tok} (hz:zs∈fJ) (hx:x∈[1,2,3]) (hn:x∉zs):
  layNew (tX l zs) (fH zs tk) (x:Int) (.int x t)=(fH (mO x zs) (fun z=>if z=x then t else tk z),tX l (mO x zs),false,false):=by
 simp only [fJ,List.mem_cons,List.not_mem_nil,or_false]at hz hx
 rcases hz with rfl|rfl|rfl|rfl|rfl|rfl|rfl|rfl<;>rcases hx with rfl|rfl|rfl<;>first|(exact absurd (by decide) hn)|(cases l<;>kernel_rfl)
section
variable {prog:Program} {w:World} {A:Around} {E:Value->Shared->Prop} {s:Shared}
def aFr (s:Shared) (a:Addr) (l:Bool) (zs:List Nat):Prop:=∃o ep tk,s.heap.get? a=some o/\o.ExactSet/\o.data= .set (fH zs tk) ep (tX l zs)/\zs∈fJ
theorem aMw (zs:List Nat) (tk:Nat->Tok):(fH zs tk).size=zs.length:=by simp [fH]
theorem aJ8:∀zs∈fJ,zs.length<=3:=by decide
theorem aOo {l:Bool} {zs:List Nat} {tk:Nat->Tok} (hz:zs∈fJ):(tX l zs).fits (fH zs tk).size=true:=by
 simp only [fJ,List.mem_cons,List.not_mem_nil,or_false]at hz
 rcases hz with rfl|rfl|rfl|rfl|rfl|rfl|rfl|rfl<;>rfl
theorem aMs {x:Nat} (hx:x∈[1,2,3]):(intKind prog w).hash (x:Int)=(x:Int):=by
 simp only [List.mem_cons,List.not_mem_nil,or_false]at hx
 rcases hx with rfl|rfl|rfl<;>rfl
theorem aSq {zs:List Nat} {tk:Nat->Tok} (hz:zs∈fJ):ElemsOf (intKind prog w) (fH zs tk).toList:=by
 intro e he
 obtain⟨z,hm,rfl⟩:=List.mem_map.mp (show e∈zs.map _ from he)
 have:z∈[1,2,3]:=by
  simp only [fJ,List.mem_cons,List.not_mem_nil,or_false]at hz
  rcases hz with rfl|rfl|rfl|rfl|rfl|rfl|rfl|rfl<;>simp at hm⊢ <;>omega
 exact⟨⟨(z:Int),intKind_is _ _ _ _,(aMs this).symm⟩,rfl⟩
theorem zQ {a:Addr} {l:Bool} {zs:List Nat} {x:Nat} {t:Tok} {Q:Bool->Shared->Prop} (hx:x∈[1,2,3]) (S:aFr s a l zs) (h:∀(b:Bool) h',Heap.SameBut a s.heap h'->aFr {s with heap:=h'} a l (mO x zs)->Q b {s with heap:=h'}):
  wpAny (model prog w) A (setAddHashed a (.int x t) (x:Int)) Q E s:=by
 obtain⟨o,ep,tk,ho,hex,hd,hz⟩:=S
 have hel:=aSq (prog:=prog) (w:=w) (tk:=tk) hz
 have hsz:(fH zs tk).size<=3:=by rw [aMw];exact aJ8 zs hz
 unfold setAddHashed setAddHashedIn
 refine wpAny_holding (wpAny_bind (wpAny_setState_of ho hd (aOo hz) ?_))
 dsimp only
 rw [byScan_of (knd:=intKind prog w) rfl (by unfold scanBound;omega) hel]
 simp only [↓reduceIte]
 unfold setAddByScan
 refine wpAny_bind ?_
 refine wpAny_bind (wpAny_rule ?_)
 have hkey:(intKind prog w).is (x:Int) (.int x t)=true:=intKind_is _ _ _ _
 have e1:wpAny (model prog w) A (setScan a (.int x t) (x:Int) true (fH zs tk)) (fun r s'=>s'=s/\r=(match (fH zs tk).toList.findIdx? (fun e=>(intKind prog w).is (x:Int) e.2)with|some j=> .found (0+j)|none=> .absent)) E s:=by
  have:=wpAny_setScan_of (knd:=intKind prog w) (adding:=true) (A:=A) (E:=E) (Q:=fun r s'=>s'=s/\r=(match (fH zs tk).toList.findIdx? (fun e=>(intKind prog w).is (x:Int) e.2)with|some j=> .found (0+j)|none=> .absent)) hkey ho hd (aOo hz) hel ⟨rfl,rfl⟩
  rw [aMs hx]at this
  exact this
 refine wpAny_bind (wpAny_mono e1 (fun r s' hr=>?_) fun _ _ z=>z)
 obtain⟨rfl,rfl⟩:=hr
 have mem:(∃e∈(fH zs tk).toList,(intKind prog w).is (x:Int) e.2=true)↔x∈zs:=by
  constructor
  ·rintro⟨e,he,hk⟩
   obtain⟨z,hm,rfl⟩:=List.mem_map.mp (show e∈zs.map _ from he)
   have:(x:Int)=(z:Int):=(intKind prog w).inj _ _ _ hk (intKind_is _ _ _ _)
   have:x=z:=by omega
   rw [this];exact hm
  ·intro hm
   exact⟨_,List.mem_map.mpr ⟨x,hm,rfl⟩,intKind_is _ _ _ _⟩
 cases hr:List.findIdx? (fun e=>(intKind prog w).is (x:Int) e.2) (fH zs tk).toList with
 |some j=>
  dsimp only
  obtain⟨hj,hpj,_⟩:=List.findIdx?_eq_some_iff_getElem.mp hr
  have hin:=mem.mp ⟨_,List.getElem_mem hj,hpj⟩
  refine wpAny_pure (wpAny_pure ?_)
  have same:mO x zs=zs:=by
   simp only [fJ,List.mem_cons,List.not_mem_nil,or_false]at hz hx
   rcases hz with rfl|rfl|rfl|rfl|rfl|rfl|rfl|rfl<;>rcases hx with rfl|rfl|rfl<;>first|(exact absurd hin (by decide))|rfl
  have:=h false s'.heap (Heap.SameBut.refl a s'.heap) (by rw [same];exact⟨o,ep,tk,ho,hex,hd,hz⟩)
  exact this
 |none=>
  dsimp only
  have hn:x∉zs:=fun hm=>by
   obtain⟨e,he,hp⟩:=mem.mpr hm
   have:=List.findIdx?_eq_none_iff.mp hr e he
   rw [hp]at this
   exact Bool.noConfusion this
  rw [aVu hz hx hn]
  dsimp only
  refine wpAny_bind (wpAny_pure ?_)
  rw [if_pos (show(tX l (mO x zs)).plain=true from rfl)]
  refine wpAny_bind ?_
  rw [hashByValue_scannable 8 (show(Value.int x t).scannable=true from rfl)]
  refine wpAny_pure ?_
  rw [if_pos (show plainKind (Value.int x t)=true from rfl)]
  have hsz2:(fH (mO x zs) (fun z=>if z=x then t else tk z)).size<=3:=by rw [aMw];exact aJ8 _ (qR x zs)
  refine wpAny_bind (wpAny_storeSet_of ho hd ?_ (by rw [sizeLine_eq];omega))
  have nf:(!false && (tX l (mO x zs)).tooFull)=false:=by
   have:=qR x zs
   generalize mO x zs=ys at this
   simp only [fJ,List.mem_cons,List.not_mem_nil,or_false]at this
   rcases this with rfl|rfl|rfl|rfl|rfl|rfl|rfl|rfl<;>rfl
  rw [nf]
  simp only [Bool.false_eq_true,if_false]
  refine wpAny_pure (wpAny_pure ?_)
  have hg:(s'.heap.update a (Obj.putSet (fH (mO x zs) (fun z=>if z=x then t else tk z)) (tX l (mO x zs)))).get? a=some {o with data:= .set (fH (mO x zs) (fun z=>if z=x then t else tk z)) (ep+1) (tX l (mO x zs))}:=by
   have:=Heap.get?_update_self (Obj.putSet (fH (mO x zs) (fun z=>if z=x then t else tk z)) (tX l (mO x zs))) ho (by rw [putSet_of _ _ hd];rfl)
   rw [putSet_of _ _ hd]at this
   exact this
  exact h true _ (Heap.SameBut.update s'.heap a (Obj.putSet _ _)) ⟨_,_,_,hg,hex,rfl,qR x zs⟩
def sJ (val:Nat->Nat):Nat->List Nat
 |0=>[]
 |i+1=>mO (val i) (sJ val i)
theorem aEe (val:Nat->Nat):∀i,sJ val i∈fJ
 |0=>by simp [sJ,fJ]
 |i+1=>qR _ _
theorem aEh {val:Nat->Nat} {n:Nat} (hv:∀i,i<n->val i∈[1,2,3]):∀i,i<=n->∀z,z∈sJ val i↔ ∃j,j<i/\val j=z
 |0,_,z=>by simp [sJ]
 |i+1,h,z=>by
  rw [sJ,aMb (aEe val i) (hv i (by omega)),aEh hv i (by omega) z]
  constructor
  ·rintro(rfl|⟨j,h1,h2⟩)
   ·exact⟨i,by omega,rfl⟩
   ·exact⟨j,by omega,h2⟩
  ·rintro⟨j,h1,h2⟩
   by_cases e:j=i
   ·subst e;exact .inl h2.symm
   ·exact .inr ⟨j,by omega,h2⟩
theorem lD {R:Result->Shared->Prop} {I:Addr} {fp wr:List Addr} {G:Array GenState->Array GenState->Prop} {n:Nat} {P:Nat->Value->Prop} {St:Nat->Shared->Prop}
  (W:WalksS prog w A.in1 I fp wr G n P St) (S:Addr) (hSf:S∉fp) (l:Bool)
  (val:Nat->Nat) (hval:∀i v,P i v->∃t,v= .int (val i) t) (h3:∀i,i<n->val i∈[1,2,3]):
  ∀(k i:Nat) (s:Shared),n-i=k->i<=n->St i s->aFr s S l (sJ val i)->
   (∀s',Moved (S::wr) G s s'->aFr s' S l (sJ val n)->R (.ok (.ret .none)) s')->
   codeAny (model prog w) A (.builtin "set.update.loop" ⟨[.ref S,.ref I],[]⟩) R s:=by
 have hSw:S∉wr:=fun h=>hSf (W.sub _ h)
 have hsub:∀b∈wr,b∈S::wr:=fun b hb=>List.mem_cons_of_mem _ hb
 intro k
 induction k with
 |zero=>
  intro i s hk hi hst hS hR
  have hin:i=n:=by omega
  subst hin
  refine codeAny_builtin PyProof.Rows.F.entry_set_update_loop ?_
  rw [Around.under_plainId PyProof.Rows.F.plain_set_update_loop _]
  show wpAny _ A.in1 (pyNext (.ref I)>>=_) _ _ s
  refine wpAny_bind (W.done s _ _ hst fun s' hm=>?_)
  show wpAny _ A.in1 (ret Value.none) _ _ s'
  exact wpAny_pure (hR s' (hm.mono hsub) (by
   obtain⟨o,ep,tk,ho,rest⟩:=hS
   exact⟨o,ep,tk,hm.heap S _ hSw ho,rest⟩))
 |succ k ih=>
  intro i s hk hi hst hS hR
  have hlt:i<n:=by omega
  refine codeAny_builtin PyProof.Rows.F.entry_set_update_loop ?_
  rw [Around.under_plainId PyProof.Rows.F.plain_set_update_loop _]
  show wpAny _ A.in1 (pyNext (.ref I)>>=_) _ _ s
  refine wpAny_bind (W.item i s _ _ hlt hst fun v s' hP hst' hm=>?_)
  obtain⟨t,rfl⟩:=hval i v hP
  have hS':aFr {s' with toks:=s'.toks+1} S l (sJ val i):=by
   obtain⟨o,ep,tk,ho,rest⟩:=hS
   exact⟨o,ep,tk,hm.heap S _ hSw ho,rest⟩
  show wpAny _ A.in1 (holding [Value.int (val i) t] (setAdd S (.int (val i) t))>>=_) _ _ s'
  refine wpAny_bind (wpAny_holding ?_)
  unfold setAdd
  refine wpAny_holding ?_
  refine wpAny_bind ((intKind prog w).pyHash (k:=(val i:Int)) (intKind_is _ _ _ _) ?_)
  rw [aMs (h3 i hlt)]
  refine zQ (s:={s' with toks:=s'.toks+1}) (h3 i hlt) hS' fun b h' hsb hS2=>?_
  refine wpAny_pure ⟨plainId_quiet PyProof.Rows.F.plain_set_update_loop _,ih (i+1) _ (by omega) hlt (W.frame _ s' _ _ hst' (Nat.le_succ _) fun b hb o e=>?_) hS2 fun s'' hm'' hS''=>?_⟩
  ·rw [hsb.2 b (fun h:b=S=>hSf (by rw [<-h];exact hb))];exact e
  ·refine hR s'' (Moved.trans W.gtrans ((hm.mono hsub).then_heap (Nat.le_succ _) fun b o hb e=>?_) hm'') hS''
   rw [hsb.2 b (fun h:b=S=>hb (by rw [h];exact List.mem_cons_self))];exact e
theorem wH {l:Addr} {items:Array Value} {val:Nat->Nat} {Q:Value->Shared->Prop} (hh:A.handled=none) (hl:s.heap.IsList l items) (hi:∀(i:Nat) (v:Value),items[i]? =some v->∃t,v= .int (val i) t) (h3:∀j,j<items.size->val j∈[1,2,3])
  (h:∀(h':Heap) (tk:Nat),aFr {s with heap:=h',toks:=tk} s.heap.objs.size (!w.params.followText "set-order") (sJ val items.size)->(∀b o,b<s.heap.objs.size->s.heap.get? b=some o->h'.get? b=some o)->Q (.ref s.heap.objs.size) {s with heap:=h',toks:=tk}):
  wpAny (model prog w) A (call (.type "set") [.ref l]) Q E s:=
 qU (fun s'=>aFr s' s.heap.objs.size (!w.params.followText "set-order") (sJ val items.size)) hh hl
  (fun s1 W hSf hA hnt st kp hS hR=>lD W s.heap.objs.size hSf _ val hi h3 (items.size-0) 0 s1 (by omega) (Nat.zero_le _) st ⟨_,0,fun _=>0,hS,⟨rfl,rfl,rfl⟩,rfl,by simp [sJ,fJ]⟩ fun s' hm S=>hR s' hm S)
  fun h' tk S kp=>h h' tk S kp
end
end PySem
namespace L2
open PySem PySem.Spec PyProof.Rows
section
variable {prog:Program} {w:World} {A:Around} {R:Result->Shared->Prop} {s:Shared}
end
theorem jB {env:Env} (hk:env.scope.kind= .function):∀{names:List (Str×NameKind)} {x:Str},names.lookup x=some .free->env.kindOf x=some .cell->
  (names.map fun(n,k)=>if(k==NameKind.free && env.scope.kind== .function && env.kindOf n==some .cell)then(n,NameKind.cell)else(n,k)).lookup x=some .cell
 | [],_,h,_=>by simp at h
 |(n,k)::r,x,h,hc=>by
  have ih:=@jB env hk r x
  show List.lookup x ((if(k==NameKind.free && env.scope.kind== .function && env.kindOf n==some .cell)=true then(n,NameKind.cell)else(n,k))::_)=_
  cases hx:x==n with
  |true=>
   have e:x=n:=eq_of_beq hx
   subst e
   simp only [List.lookup_cons,hx]at h
   cases h
   rw [if_pos (by rw [hk,hc];rfl)]
   simp [List.lookup_cons]
  |false=>
   simp only [List.lookup_cons,hx]at h
   by_cases hcc:(k==NameKind.free && env.scope.kind== .function && env.kindOf n==some .cell)=true
   ·rw [if_pos hcc];simp only [List.lookup_cons,hx];exact ih h hc
   ·rw [if_neg hcc];simp only [List.lookup_cons,hx];exact ih h hc
theorem jT {env:Env}:∀{names:List (Str×NameKind)} {x:Str},((names.map fun(n,k)=>if(k==NameKind.free && env.scope.kind== .function && env.kindOf n==some .cell)then(n,NameKind.cell)else(n,k)).lookup x=some .cell∨
  (names.map fun(n,k)=>if(k==NameKind.free && env.scope.kind== .function && env.kindOf n==some .cell)then(n,NameKind.cell)else(n,k)).lookup x=some .free)->names.lookup x=some .free∨names.lookup x=some .cell
 | [],_,h=>by simp at h
 |(n,k)::r,x,h=>by
  have ih:=@jT env r x
  replace h:List.lookup x ((if(k==NameKind.free && env.scope.kind== .function && env.kindOf n==some .cell)=true then(n,NameKind.cell)else(n,k))::_)=_∨List.lookup x ((if(k==NameKind.free && env.scope.kind== .function && env.kindOf n==some .cell)=true then(n,NameKind.cell)else(n,k))::_)=_:=h
  cases hx:x==n with
  |true=>
   simp only [List.lookup_cons,hx]
   by_cases hcc:(k==NameKind.free && env.scope.kind== .function && env.kindOf n==some .cell)=true
   ·have:k= .free:=by
     have:=(Bool.and_eq_true _ _▸(Bool.and_eq_true _ _▸hcc).1).1
     exact eq_of_beq this
    exact .inl (by rw [this])
   ·rw [if_neg hcc]at h
    simp only [List.lookup_cons,hx]at h
    rcases h with h|h
    ·exact .inr h
    ·exact .inl h
  |false=>
   simp only [List.lookup_cons,hx]
   by_cases hcc:(k==NameKind.free && env.scope.kind== .function && env.kindOf n==some .cell)=true
   ·rw [if_pos hcc]at h;simp only [List.lookup_cons,hx]at h;exact ih h
   ·rw [if_neg hcc]at h;simp only [List.lookup_cons,hx]at h;exact ih h
abbrev oR (X:Cx) (Nc:List Str) (scope:Scope) (cl:List (Str×Addr)) (C:Addr) (s2:Shared) (H2:Hp) (fp:List Addr):Cx:=
 {prog:=X.prog,w:=X.w,K:=X.K,mg:=X.mg,base:=X.base,A:=X.A,N:=Nc,s₀:=s2,H₀:=H2,env:=compEnvC scope cl C X.env,outer:=X.stack,stack:=X.stack,ex:=fp,fn:=fun _=>false,calm:=X.calm,pn:=[],xe:=fun _ _=>False}
abbrev rP (own:List Str) (cap:List (Str×Nat)):List Str:=own++cap.map (·.1)
def uE (no:Nat) (cap:List (Str×Nat)) (σ:St):St:=List.replicate no none++cap.map fun p=>(σ[p.2]?).join
structure gA (X:Cx) (scope:Scope) (cap:List (Str×Nat)) (cl:List (Str×Addr)):Prop where
 clos:closureFor scope X.env=pure cl
 kind:scope.kind= .function
 nocell:∀y∈scope.names,y.2≠ .cell
 names:∀y∈scope.names,y.2= .local->scope.names.lookup y.1=some .local
 sub:∀x c,cl.lookup x=some c->X.env.cells.lookup x=some c
 has:∀x,scope.names.lookup x=some .free->∃c,cl.lookup x=some c
 cap:∀p∈cap,X.N[p.2]? =some p.1/\scope.names.lookup p.1=some .free/\X.env.scope.names.lookup p.1=some .cell
def aIp (J:It) (D:Addr) (g:TG) (te:TE) (Q:VK) (σ:St) (H:Hp):Prop:=∃W:Nat->Nat->St->Hp->Prop,
 (∃m,W 0 m σ H)/\∀i m σc H2,W i m σc H2->
  (J.stop i H2/\Q (.ref D) H2)∨(J.go i H2/\∀x H3,J.yld i H2 x H3->g x σc H3 fun σ4 H4=>te σ4 H4 fun y H5=>∃ys,H5 D=some (.lst ys)/\ys.length<sizeLine/\∃m',m'<m/\W (i+1) m' σ4 (upd H5 D (.lst (ys++[y]))))
def aRr (no:Nat) (cap:List (Str×Nat)) (wi:TI) (g:TG) (te:TE):TE:=fun σ H Q=>wi σ H fun J H1=>∀D,H1 D=none->aIp J D g te Q (uE no cap σ) (upd H1 D (.lst []))
section
variable {X:Cx} {pins:List (Addr×Obj)} {σ:St} {s2:Shared} {H2:Hp}
theorem aKk {no:Nat} {cap:List (Str×Nat)} {own:List Str} (hno:own.length=no) {i:Nat} {x:Str} {v:V} (h1:(rP own cap)[i]? =some x) (h2:(uE no cap σ)[i]? =some (some v)):
  ∃p∈cap,p.1=x/\σ[p.2]? =some (some v):=by
 subst hno
 unfold uE at h2
 by_cases hi:i<own.length
 ·rw [List.getElem?_append_left (by simpa using hi),List.getElem?_replicate]at h2
  rw [if_pos hi]at h2
  cases h2
 ·rw [List.getElem?_append_right (by simpa using hi)]at h2
  unfold rP at h1
  rw [List.getElem?_append_right (by simpa using hi)]at h1
  rw [List.length_replicate,List.getElem?_map]at h2
  rw [List.getElem?_map]at h1
  cases e:cap[i-own.length]? with
  |none=>rw [e]at h1;cases h1
  |some p=>
   rw [e]at h1 h2
   refine⟨p,List.mem_of_getElem? e,Option.some.inj h1,?_⟩
   have q:(σ[p.2]?).join=some v:=Option.some.inj h2
   cases e2:σ[p.2]? with
   |none=>rw [e2]at q;cases q
   |some o=>rw [e2]at q;exact congrArg some q
end
def yM (scope:Scope):Prop:=∀y∈scope.names,y.2≠ .cell
theorem nG:∀{names:List (Str×NameKind)} {n:Nat},(∀y∈names,y.2≠ .cell)->cellsFrom n names []=[]
 | [],_,_=>rfl
 |(y,k)::r,n,h=>by
  unfold cellsFrom
  rw [if_neg (fun z=>h _ List.mem_cons_self (eq_of_beq z))]
  exact nG fun z hz=>h z (List.mem_cons_of_mem _ hz)
theorem wZ {scope:Scope} {n:Nat} (h:yM scope):cellsFrom n scope.names []=[]:=nG h
structure wQ (X:Cx) (scope:Scope) (cap:List (Str×Nat)) (cl:List (Str×Addr)):Prop where
 clos:closureFor scope X.env=pure cl
 kind:scope.kind= .function
 names:∀y∈scope.names,y.2= .local->scope.names.lookup y.1=some .local
 sub:∀x c,cl.lookup x=some c->X.env.cells.lookup x=some c
 has:∀x,scope.names.lookup x=some .free->∃c,cl.lookup x=some c
 capn:∀p∈cap,¬(p.1,NameKind.cell)∈scope.names
 cap:∀p∈cap,X.N[p.2]? =some p.1/\scope.names.lookup p.1=some .free/\X.env.scope.names.lookup p.1=some .cell
def qZ (X:Cx) (scope:Scope) (cs:List (Str×Addr)):Prop:=∀x,(scope.names.lookup x=some .cell∨(scope.names.lookup x=some .free/\X.env.scope.names.lookup x=some .cell))->∃c,cs.lookup x=some c
abbrev pB (X:Cx) (Nc:List Str) (scope:Scope) (cs:List (Str×Addr)) (C:Addr) (s2:Shared) (H2:Hp) (fp:List Addr):Cx:=
 {prog:=X.prog,w:=X.w,K:=X.K,mg:=X.mg,base:=X.base,A:=X.A,N:=Nc,s₀:=s2,H₀:=H2,env:={compEnvC scope [] C X.env with cells:=cs},outer:=X.stack,stack:=X.stack,ex:=fp,fn:=fun x=>decide (scope.names.lookup x=some .cell),calm:=X.calm,pn:=[],xe:=fun _ _=>False}
theorem iG:∀(names:List (Str×NameKind)) (n:Nat) (acc:List (Str×Addr)),cellsFrom n names acc=cellsFrom n names []++acc
 | [],_,_=>rfl
 |(y,k)::r,n,acc=>by
  unfold cellsFrom
  split
  ·rw [iG r (n+1) ((y,n)::acc),iG r (n+1) [(y,n)],List.append_assoc]
   rfl
  ·exact iG r n acc
theorem jJ:∀(names:List (Str×NameKind)) (n:Nat) (acc:List (Str×Addr)) {x:Str} {c:Addr},(x,c)∈cellsFrom n names acc->(x,NameKind.cell)∈names∨(x,c)∈acc
 | [],_,_,_,_,h=> .inr h
 |(y,k)::r,n,acc,x,c,h=>by
  unfold cellsFrom at h
  split at h
  ·rename_i hk
   rcases jJ r _ _ h with z|z
   ·exact .inl (List.mem_cons_of_mem _ z)
   ·rcases List.mem_cons.mp z with e|z
    ·cases e
     rw [show k= .cell from eq_of_beq hk]
     exact .inl List.mem_cons_self
    ·exact .inr z
  ·rcases jJ r _ _ h with z|z
   ·exact .inl (List.mem_cons_of_mem _ z)
   ·exact .inr z
theorem zK {names:List (Str×NameKind)} {n:Nat} {x:Str} {c:Addr} (h:(x,c)∈cellsFrom n names []):(x,NameKind.cell)∈names:=(jJ names n [] h).elim id fun z=>nomatch z
section
variable {α:Type} {A B:List (Str×α)} {x:Str} {c:α}
theorem kW:(A++B).lookup x=(A.lookup x).or (B.lookup x):=List.lookup_append ..
theorem aGn (h:(A++B).lookup x=some c):A.lookup x=some c∨(A.lookup x=none/\B.lookup x=some c):=by
 rw [kW]at h
 cases q:A.lookup x with
 |none=>rw [q]at h;exact .inr ⟨rfl,h⟩
 |some d=>rw [q]at h;exact .inl h
theorem jD (h:A.lookup x=some c):(A++B).lookup x=some c:=by rw [kW,h];rfl
theorem rH (h:A.lookup x=none) (h':B.lookup x=some c):(A++B).lookup x=some c:=by rw [kW,h];exact h'
theorem rT (h:B.lookup x=some c):∃d,(A++B).lookup x=some d:=by
 cases q:A.lookup x with
 |none=>exact⟨c,rH q h⟩
 |some d=>exact⟨d,jD q⟩
end
theorem aFi {M:Model} {A:Around} {E:Value->Shared->Prop} {s:Shared} {scope:Scope} {globals:Addr} {cl:List (Str×Addr)} {qual:Str} {env0:Env} {Q:Env->Shared->Prop} (_hk:scope.kind= .function)
  (h:Q {scope:=scope,locals:=s.heap.objs.size,globals:=globals,cells:=cellsFrom (s.heap.objs.size+1) scope.names cl,qual:=qual,func:=none,code:=env0.code,frame:=env0.frame,builtins:=env0.builtins}
   {s with heap:=pushCells (s.heap.push {cls:= .type "dict",data:= .dict #[]}) scope.names}):
  wpAny M A (newFunctionEnv scope globals cl [] qual none .none (some env0)) Q E s:=by
 simp only [newFunctionEnv,Option.isSome_some,if_true]
 refine wpAny_bind (wpAny_alloc (wpAny_bind (wpAny_layCells _ (fun nm kd cs=>by cases hq:kd==NameKind.cell<;>simp [hq]) _ _ _ _ ?_)))
 have e:({s with heap:=s.heap.push {cls:= .type "dict",data:= .dict #[]}}:Shared).heap.objs.size=s.heap.objs.size+1:=Heap.size_push ..
 rw [e]
 exact wpAny_bind (wpAny_pure (wpAny_pure h))
section
variable {prog:Program} {w:World} {A:Around} {R:Result->Shared->Prop} {s:Shared}
def PTs (X:Cx) (cis:List Expr) (t:TT):Prop:=
 ∀(pins:List (Addr×Obj)) (s:Shared) (σ:St) (H:Hp) (Q:Bool->Hp->Prop),Inv X pins σ H s->t σ H Q->wpAny (model X.prog X.w) X.A (forIn cis true fun c r=>if r=true then do let ok<-isTrue c X.env (eval c X.env);pure (ForInStep.yield ok)else pure (ForInStep.yield r)) (TP X pins σ Q) X.xe s
theorem aVs {X:Cx} {c:Expr} {t:TT} (h:PT X c t):PTs X [c] t:=fun pins s σ H Q I q=>wpAny_tests_one (h pins s σ H Q I q)
def aWk:TT:=fun _ H Q=>Q true H
theorem aQg {X:Cx}:PTs X [] aWk:=fun pins s σ H Q I q=>wpAny_tests_nil ⟨H,I,q⟩
theorem zM {elt target iter:Expr} {cis:List Expr} {scope:Scope} {pos:Pos} {it acc:Value} {env:Env} (I:Nat->Shared->Prop)
  (turn:∀n s,I n s->wpAny (model prog w) A (pyNext it) (fun r s₁=>match r with
   |none=>R (.ok .next) s₁
   |some v=>wpAny (model prog w) A (letOwnedTupleGo target it v) (fun _ s₁'=>wpAny (model prog w) A (assign target env v) (fun _ s₂=>wpAny (model prog w) A (forIn cis true fun c r=>if r=true then do let ok<-isTrue c env (eval c env);pure (ForInStep.yield ok)else pure (ForInStep.yield r)) (fun ok s₂'=>if ok=true then wpAny (model prog w) A (eval elt env) (fun x s₃=>
     wpAny (model prog w) A (call (.builtin "list.append") [acc,x]) (fun _ s₄=>∃m,m<n/\I m s₄) (fun _ _=>False) s₃) (fun _ _=>False) s₂' else∃m,m<n/\I m s₂') (fun _ _=>False) s₂) (fun _ _=>False) s₁') (fun _ _=>False) s₁) (fun _ _=>False) s)
  (n:Nat) (h:I n s):
  codeAny (model prog w) A (.compLoop (.ListComp elt [⟨target,iter,cis,0⟩] scope pos) 0 it acc env) R s:=by
 refine codeAny_loop rfl I (fun n s hI=>?_) n h
 show wpAny _ _ ((compTurn (.ListComp elt [⟨target,iter,cis,0⟩] scope pos) 0 it acc env).onRaise (fun x=>do noteFrame x env;theTreesLotGoes x)) _ _ s
 refine wpAny_noted ?_
 rw [compTurn_list]
 refine wpAny_bind (wpAny_standAt (wpAny_bind (wpAny_mono (turn n s hI) (fun r s₁ h₁=>?_) fun _ _ h'=>h'.elim)))
 cases r with
 |none=>exact wpAny_pure h₁
 |some v=>
  refine wpAny_bind (wpAny_mono h₁ (fun _ s₁' h₁'=>?_) fun _ _ h'=>h'.elim)
  refine wpAny_bind (wpAny_mono h₁' (fun _ s₂ h₂=>?_) fun _ _ h'=>h'.elim)
  refine wpAny_bind (wpAny_mono h₂ (fun okb s₃ h₃=>?_) fun _ _ h'=>h'.elim)
  cases okb with
  |false=>exact wpAny_pure ⟨rfl,h₃⟩
  |true=>exact wpAny_bind (wpAny_bind (wpAny_mono h₃ (fun x s₄ h₄=>wpAny_bind (wpAny_mono h₄ (fun _ s₅ h₅=>wpAny_pure (wpAny_pure ⟨rfl,h₅⟩)) fun _ _ h'=>h'.elim)) fun _ _ h'=>h'.elim))
end
section
variable {X:Cx} {pins:List (Addr×Obj)} {σ:St} {s2:Shared} {H2:Hp}
theorem aDi {elt iter tg:Expr} {cis:List Expr} {scope:Scope} {own:List Str} {cap:List (Str×Nat)} {cl:List (Str×Addr)} {pos:Pos} {J:It} {fp:List Addr} {it:Addr} {tn:Nat->Heap->Prop} {g:TG} {tc:TT} {te:TE} {Q:VK}
  (S:wQ X scope cap cl) (hc:X.calm=true) (I:Inv X pins σ H2 s2) (T:Turn X.prog X.w X.K tg J fp it tn) (st:tn 0 s2.heap) (hf:∀b∈fp,aCc X pins H2 b)
  (hg:∀cs,qZ X scope cs->(yM scope->cs=cl)->∀C s2 H2 fp,PG (pB X (rP own cap) scope cs C s2 H2 fp) tg g) (htc:∀cs,qZ X scope cs->(yM scope->cs=cl)->∀C s2 H2 fp,PTs (pB X (rP own cap) scope cs C s2 H2 fp) cis tc) (he:∀cs,qZ X scope cs->(yM scope->cs=cl)->∀C s2 H2 fp,PE (pB X (rP own cap) scope cs C s2 H2 fp) elt te)
  (W:Nat->Nat->St->Hp->Prop) (w0:∃m,W 0 m (uE own.length cap σ) (upd H2 s2.heap.objs.size (.lst [])))
  (turn:∀i m σc H3,W i m σc H3->(J.stop i H3/\Q (.ref s2.heap.objs.size) H3)∨(J.go i H3/\∀x H4,J.yld i H3 x H4->g x σc H4 fun σ5 H5=>tc σ5 H5 fun ok H5'=>if ok=true then te σ5 H5' fun y H6=>∃ys,H6 s2.heap.objs.size=some (.lst ys)/\ys.length<sizeLine/\∃m',m'<m/\W (i+1) m' σ5 (upd H6 s2.heap.objs.size (.lst (ys++[y])))else∃m',m'<m/\W (i+1) m' σ5 H5'))
  {RR:Value->Addr->Result->Shared->Prop}
  (hRR:∀C H' s' m,s2.heap.objs.size<=C->s'.heap.Ns C m->H' C=none->Inv X pins σ H' s'->(∀h',Heap.SameBut C s'.heap h'->Inv X pins σ H' {s' with heap:=h'})->Q (.ref s2.heap.objs.size) H'->RR (.ref s2.heap.objs.size) C (.ok .next) s')
  {E:Value->Shared->Prop}:
  wpAny (model X.prog X.w) X.A (newList []) (fun acc s₃=>wpAny (model X.prog X.w) X.A (newFunctionEnv scope X.env.globals cl [] X.env.qual none .none (some X.env)) (fun cenv s₄=>
   codeAny (model X.prog X.w) X.A (.compStart (.ListComp elt [⟨tg,iter,cis,0⟩] scope pos) 0 (.ref it) acc {cenv with scope:=relabel scope X.env}) (RR acc cenv.locals) s₄) E s₃) E s2:=by
 refine wpAny_newObj_type (aFi S.kind ?_)
 dsimp only
 generalize hH2:s2.heap.push {cls:= .type "list",dict:=none,data:= .seq ([]:List Value).toArray}=G2
 have hC:G2.objs.size=s2.heap.objs.size+1:=by rw [<-hH2,Heap.size_push]
 have hDC:s2.heap.objs.size≠G2.objs.size:=by rw [hC];exact Nat.ne_of_lt (Nat.lt_succ_self _)
 have hCle:s2.heap.objs.size<=G2.objs.size:=by rw [hC];exact Nat.le_succ _
 have below:∀b,b<s2.heap.objs.size->b≠G2.objs.size/\b≠s2.heap.objs.size:=fun b hb=>⟨by rw [hC];exact Nat.ne_of_lt (Nat.lt_succ_of_lt hb),Nat.ne_of_lt hb⟩
 have hG1:(G2.push {cls:= .type "dict",data:= .dict #[]}).objs.size=G2.objs.size+1:=Heap.size_push ..
 have okA:=cellsFrom_ok scope.names (G2.push {cls:= .type "dict",data:= .dict #[]}) (G2.objs.size+1) [] ⟨fun _ _ z=>(nomatch z),List.Pairwise.nil⟩ (by rw [hG1];exact Nat.le_refl _)
 rw [hG1]at okA
 have app:cellsFrom (G2.objs.size+1) scope.names cl=cellsFrom (G2.objs.size+1) scope.names []++cl:=iG _ _ _
 have kept:∀b o,G2.get? b=some o->(pushCells (G2.push {cls:= .type "dict",data:= .dict #[]}) scope.names).get? b=some o:=fun b o e=>pushCells_keeps _ _ b o (Heap.get?_push_of_some _ e)
 have hns₁:(pushCells (G2.push {cls:= .type "dict",data:= .dict #[]}) scope.names).Ns G2.objs.size (fun _=>none):=(Heap.Ns.new G2 (.type "dict")).keeps (pushCells_keeps _ _)
 have old:∀b o,s2.heap.get? b=some o->(pushCells (G2.push {cls:= .type "dict",data:= .dict #[]}) scope.names).get? b=some o:=fun b o e=>kept b o (hH2▸Heap.get?_push_of_some _ e)
 have hacc:(pushCells (G2.push {cls:= .type "dict",data:= .dict #[]}) scope.names).get? s2.heap.objs.size=some {cls:= .type "list",dict:=none,data:= .seq ([]:List Value).toArray}:=kept _ _ (hH2▸Heap.get?_push_size _ rfl)
 have newc:∀x c,(cellsFrom (G2.objs.size+1) scope.names []).lookup x=some c->(pushCells (G2.push {cls:= .type "dict",data:= .dict #[]}) scope.names).IsCell c none/\G2.objs.size+1<=c:=fun x c e=>okA.empty x c (PySem.mem_of_lookup e)
 have newinj:∀x y c,(cellsFrom (G2.objs.size+1) scope.names []).lookup x=some c->(cellsFrom (G2.objs.size+1) scope.names []).lookup y=some c->x=y:=fun x y c e1 e2=>name_of_addr okA.apart (PySem.mem_of_lookup e1) (PySem.mem_of_lookup e2)
 have ownc:∀x,scope.names.lookup x=some .cell->∃c,(cellsFrom (G2.objs.size+1) scope.names []).lookup x=some c:=fun x hx=>Option.isSome_iff_exists.mp (PySem.W.cellsFrom_some scope.names _ [] (.inl hx))
 generalize hh₁:pushCells (G2.push {cls:= .type "dict",data:= .dict #[]}) scope.names=h₁ at hns₁ old hacc newc⊢
 generalize hcA:cellsFrom (G2.objs.size+1) scope.names []=cA at app newc newinj ownc
 generalize hcs:cellsFrom (G2.objs.size+1) scope.names cl=cs at app⊢
 subst app
 have both:∀x c,(cA++cl).lookup x=some c->(cA.lookup x=some c∨(cA.lookup x=none/\cl.lookup x=some c)):=fun x c e=>aGn e
 have hfps:∀b∈fp,b<s2.heap.objs.size:=fun b hb=>by
  obtain⟨o,e,_⟩:=T.obj _ _ st b hb
  exact Heap.lt_size e
 have hfree:∀b,s2.heap.objs.size<=b->H2 b=none:=fun b hb=>I.hok.fresh hb
 have old2:∀x c,cl.lookup x=some c->c<s2.heap.objs.size:=fun x c e=>by
  obtain⟨v,o,ho,_⟩:=I.cell x c (S.sub x c e)
  exact Heap.lt_size ho
 have clash:∀c,G2.objs.size+1<=c->c<s2.heap.objs.size->False:=fun c h1 h2=>Nat.lt_irrefl _ (Nat.lt_of_lt_of_le h2 (Nat.le_trans hCle (Nat.le_of_succ_le h1)))
 have ceq:yM scope->cA++cl=cl:=fun n=>by rw [<-hcA,wZ n];rfl
 have cfor:qZ X scope (cA++cl):=fun x hx=>by
  rcases hx with h|⟨h,_⟩
  ·obtain⟨c,e⟩:=ownc x h
   exact⟨c,jD e⟩
  ·obtain⟨c,e⟩:=S.has x h
   exact rT e
 generalize hX:pB X (rP own cap) scope (cA++cl) G2.objs.size s2 H2 fp=X'
 have hOk:X'.Ok:=by
  subst hX
  refine⟨I.ok.mod,S.kind,I.ok.glob,I.ok.blt,hCle,fun x y c e1 e2=>?_,fun x hx=>?_,fun x c z e=>?_,I.ok.hd,I.ok.frames,.inl rfl,
   fun b hb=>⟨(below b (hfps b hb)).1,fun x c e=>?_⟩,I.bs,Nat.le_trans I.ok.bsz I.sz,fun b o e hb=>?_,fun b hb z=>?_,I.stack,I.stkFree⟩
  ·rcases both x c e1 with a1|⟨_,a1⟩
   ·rcases both y c e2 with a2|⟨_,a2⟩
    ·exact newinj x y c a1 a2
    ·exact(clash c (newc x c a1).2 (old2 y c a2)).elim
   ·rcases both y c e2 with a2|⟨_,a2⟩
    ·exact(clash c (newc y c a2).2 (old2 x c a1)).elim
    ·exact I.ok.inj x y c (S.sub x c a1) (S.sub y c a2)
  ·rcases jT (env:=X.env) (names:=scope.names) (x:=x) hx with h|h
   ·obtain⟨c,e⟩:=S.has x h
    exact rT e
   ·obtain⟨c,e⟩:=ownc x h
    exact⟨c,jD e⟩
  ·obtain⟨c',e'⟩:=ownc x (of_decide_eq_true z)
   have q:(cA++cl).lookup x=some c':=jD e'
   have q2:some c'=some c:=q.symm.trans e
   cases q2
   exact Nat.le_trans hCle (Nat.le_trans (Nat.le_succ _) (newc x c e').2)
  ·rcases both x c e with a1|⟨_,a1⟩
   ·exact fun z=>clash c (newc x c a1).2 (z.symm▸hfps b hb)
   ·exact(hf b hb).2.2.2.2.1 x c (S.sub x c a1)
  ·rcases (hf b hb).2.2.2.1 with z|z
   ·exact I.ok.noex b o e z
   ·exact absurd (Nat.lt_of_lt_of_le (Heap.lt_size e) (Nat.le_trans I.ok.bsz z)) (Nat.lt_irrefl _)
  ·rcases List.mem_cons.mp (I.stkSub b z)with z|z
   ·exact(hf b hb).2.1 z
   ·exact(hf b hb).2.2.1 z
 have hI0:Inv X' [] (uE own.length cap σ) (upd H2 s2.heap.objs.size (.lst [])) {s2 with heap:=h₁}:=by
  subst hX
  refine⟨hOk,rfl,I.bare,Un.laid old (Nat.le_refl _) (hfree _ (Nat.le_refl _)),⟨_,hns₁,fun i x v e1 e2 e3=>?_⟩,fun x c e=>?_,?_,fun x c e=>?_,fun p hp=>absurd (show p∈([]:List (Addr×Obj))from hp) (by simp),?_,?_⟩
  ·obtain⟨p,hp,rfl,hσ⟩:=aKk rfl e1 e2
   obtain⟨c1,c2,c3⟩:=S.cap p hp
   obtain⟨m,hn,hl⟩:=I.loc
   obtain⟨u,r,l⟩:=hl p.2 p.1 v c1 hσ (.inr (.inl c3))
   refine⟨u,r,.inr ⟨.inl (jB I.ok.kind c2 c3),?_⟩⟩
   obtain⟨c,hcl⟩:=S.has _ c2
   have nA:cA.lookup p.1=none:=by
    cases q:cA.lookup p.1 with
    |none=>rfl
    |some c0=>
     have z:=PySem.mem_of_lookup q
     rw [<-hcA]at z
     exact absurd (zK z) (S.capn p hp)
   refine⟨c,rH nA hcl,?_⟩
   rcases l with ⟨k,_⟩|⟨_,c',e,z⟩
   ·have k':X.env.scope.names.lookup p.1=some .local:=k
    rw [c3]at k';cases k'
   ·have:=S.sub _ _ hcl
    rw [e]at this;cases this
    obtain⟨o,ho,hd⟩:=z
    exact⟨o,old _ _ ho,hd⟩
  ·rcases both x c e with a1|⟨_,a1⟩
   ·exact⟨none,(newc x c a1).1⟩
   ·obtain⟨v,o,ho,hd⟩:=I.cell x c (S.sub x c a1)
    exact⟨v,o,old _ _ ho,hd⟩
  ·show upd H2 s2.heap.objs.size (.lst []) G2.objs.size=none
   rw [aX (Ne.symm hDC)]
   exact hfree _ hCle
  ·rcases both x c e with a1|⟨_,a1⟩
   ·have h1:=(newc x c a1).2
    have h2:s2.heap.objs.size<=c:=Nat.le_trans hCle (Nat.le_of_succ_le h1)
    have h3:c≠s2.heap.objs.size:=fun z=>by
     rw [z]at h1
     exact hDC (Nat.le_antisymm hCle (Nat.le_of_succ_le h1))
    rw [aX h3]
    exact hfree c h2
   ·have e':=S.sub x c a1
    obtain⟨v,o,ho,hd⟩:=I.cell x c e'
    rw [aX (below c (Heap.lt_size ho)).2]
    exact I.freeC x c e'
  ·exact I.hok.laid old (Nat.le_refl _) ⟨Nat.zero_le _,[],_,.nil,hacc⟩
  ·show(uE own.length cap σ).length=(rP own cap).length
   unfold uE rP
   simp
 have hP:X'.prog=X.prog:=by subst hX;rfl
 have hw:X'.w=X.w:=by subst hX;rfl
 have hK:X'.K=X.K:=by subst hX;rfl
 have hA:X'.A=X.A:=by subst hX;rfl
 have hcalm:X'.calm=true:=by subst hX;exact hc
 have hxe:X'.xe=fun _ _=>False:=by subst hX;rfl
 have henv:X'.env={compEnvC scope cl G2.objs.size X.env with cells:=cA++cl}:=by subst hX;rfl
 have hbase:∀{σ' H' s'},Inv X' [] σ' H' s'->Un (frs X.stack) fp H2 H' s2.heap s'.heap/\s'.os=s2.os:=fun{σ' H' s'} J=>by subst hX;exact⟨J.base,J.os⟩
 have hg':PG X' tg g:=by subst hX;exact hg _ cfor ceq _ _ _ _
 have he':PE X' elt te:=by subst hX;exact he _ cfor ceq _ _ _ _
 have htc':PTs X' cis tc:=by subst hX;exact htc _ cfor ceq _ _ _ _
 have stat:∀{H':Hp},(∀b∈fp,H' b=none)->∀b∈fp,aCc X' [] H' b:=fun{H'} hn b hb=>by
  subst hX
  refine⟨hn b hb,(below b (hfps b hb)).1,fun z=>?_,.inl hb,fun x c e=>?_,fun p hp=>absurd (show p∈([]:List (Addr×Obj))from hp) (by simp)⟩
  rcases List.mem_cons.mp (I.stkSub b z)with z|z
  ·exact(hf b hb).2.1 z
  ·exact(hf b hb).2.2.1 z
  rcases both x c e with a1|⟨_,a1⟩
  ·exact fun z=>clash c (newc x c a1).2 (z.symm▸hfps b hb)
  ·exact(hf b hb).2.2.2.2.1 x c (S.sub x c a1)
 have back:∀{σ' H' s'},Inv X' [] σ' H' s'->Q (.ref s2.heap.objs.size) H'->RR (.ref s2.heap.objs.size) G2.objs.size (.ok .next) s':=fun{σ' H' s'} J q=>by
  obtain⟨u,ho⟩:=hbase J
  have hcf:∀b∈fp,(b∈X.ex∨X.s₀.heap.objs.size<=b)/\b≠X.env.locals/\(∀x c,X.env.cells.lookup x=some c->c≠b)/\∀p∈X.pn++pins,p.1≠b:=fun b hb=>by
   obtain⟨f0,f1,f2,f3,f4,f5⟩:=hf b hb
   exact⟨f3,f1,f4,f5⟩
  have hCn:H' G2.objs.size=none:=by have:=J.free;rw [henv]at this;exact this
  have hok':HOk X.prog X.w H' s'.heap:=by have:=J.hok;rw [hP,hw]at this;exact this
  obtain⟨m,hm,_⟩:=J.loc
  rw [henv]at hm
  refine hRR _ H' s' m hCle hm hCn (I.call' ho u hok' J.bare hcf) (fun h' hs=>?_) q
  have kn:∀b o,s2.heap.get? b=some o->h'.get? b=s'.heap.get? b:=fun b o e=>hs.2 b (below b (Heap.lt_size e)).1
  refine I.call' (s':={s' with heap:=h'}) ho ⟨fun b o e n hb hx=>(kn b o e).trans (u.keep b o e n hb hx),fun b o e n hb hx=>?_,u.free,fun b o e hx=>?_,u.tups,u.frzs,u.tbls⟩ (fun b ob e=>?_) J.bare hcf
  ·obtain⟨sl,e1⟩:=u.slot b o e n hb hx
   exact⟨sl,(kn b o e).trans e1⟩
  ·obtain⟨o',e1⟩:=u.there b o e hx
   exact⟨o',(kn b o e).trans e1⟩
  ·refine(hok' b ob e).stay (fun c w' hc q=>(hs.2 c ?_).trans q) (fun _ q=>q) fun _ _ q=>q
   rintro rfl
   rcases hc with rfl|hc
   ·rw [hCn]at e;cases e
   ·rw [hCn]at hc;cases hc
 have loop:∀s₃:Shared,s₃={s2 with heap:=h₁}->
   codeAny (model X.prog X.w) X.A (.compLoop (.ListComp elt [⟨tg,iter,cis,0⟩] scope pos) 0 (.ref it) (.ref s2.heap.objs.size) {compEnvC scope cl G2.objs.size X.env with cells:=cA++cl})
    (RR (.ref s2.heap.objs.size) G2.objs.size) s₃:=by
  rintro s₃ rfl
  obtain⟨m0,w0⟩:=w0
  refine zM (fun n s'=>∃i σ' H',Inv X' [] σ' H' s'/\tn i s'.heap/\(∀b∈fp,H' b=none)/\W i n σ' H') ?_ m0
   ⟨0,_,_,hI0,T.keep _ _ _ st fun b hb o e=>old b o e,fun b hb=>?_,w0⟩
  ·rintro n s3 ⟨i,σ3,H3,I3,st3,fr3,w3⟩
   rcases turn i n σ3 H3 w3 with ⟨stop,qn⟩|⟨go,step⟩
   ·have d:=T.done X' hP hw hK hcalm i [] s3 σ3 H3 (fun _ _=>False) I3 (stat fr3) st3 stop
    rw [hA]at d
    refine thn d fun r s4 ⟨hr,I4⟩=>?_
    subst hr
    exact back I4 qn
   ·have d:=T.item X' hP hw hK hcalm i [] s3 σ3 H3 (fun _ _=>False) I3 (stat fr3) st3 go
    rw [hA]at d
    refine thn d fun r s4 ⟨u,hr,h4⟩=>?_
    subst hr
    refine thn h4 fun _ s5 ⟨x,H5,I5,r5,y5,st5,fr5⟩=>?_
    have I5':=I5.pinned (stat fr5) (T.obj _ _ st5)
    have d2:=hg' _ s5 σ3 H5 x u _ I5' r5 (step x H5 y5)
    rw [hP,hw,hA,hxe,henv]at d2
    refine thn d2 fun _ s6 ⟨σ6,H6,I6,q6⟩=>?_
    have dt:=htc' _ s6 σ6 H6 _ I6 q6
    rw [hP,hw,hA,hxe,henv]at dt
    refine thn dt fun okb s6' ⟨H6',I6',q6'⟩=>?_
    cases okb with
    |false=>
     obtain⟨m',hm,w7⟩:=q6'
     refine⟨m',hm,i+1,σ6,H6',I6'.unpinned,T.keep _ _ _ st5 fun b hb o e=>(I6'.pin (b,o) (List.mem_append_right _ (List.mem_append_right _ (gU hb e)))).1,fun b hb=>?_,w7⟩
     obtain⟨o,e,d⟩:=T.obj _ _ st5 b hb
     exact(I6'.pin (b,o) (List.mem_append_right _ (List.mem_append_right _ (gU hb e)))).2.1
    |true=>
    have d3:=he' _ s6' σ6 H6' _ I6' q6'
    rw [hP,hw,hA,hxe,henv]at d3
    refine thn d3 fun y7 s7 ⟨v7,H7,I7,r7,ys,e7,l7,m',hm,w7⟩=>?_
    have d4:=sO (X:=X') _ s7 σ6 H7 (.ref s2.heap.objs.size) [v7] (.ref s2.heap.objs.size) [y7] (fun _ H8=>W (i+1) m' σ6 H8) I7 rfl (.cons r7 .nil) ⟨_,ys,v7,rfl,rfl,e7,l7,w7⟩
    rw [hP,hw,hA,hxe]at d4
    refine thn d4 fun _ s8 ⟨v8,H8,I8,_,w8⟩=>?_
    refine⟨m',hm,i+1,σ6,H8,I8.unpinned,T.keep _ _ _ st5 fun b hb o e=>(I8.pin (b,o) (List.mem_append_right _ (List.mem_append_right _ (gU hb e)))).1,fun b hb=>?_,w8⟩
    obtain⟨o,e,d⟩:=T.obj _ _ st5 b hb
    exact(I8.pin (b,o) (List.mem_append_right _ (List.mem_append_right _ (gU hb e)))).2.1
  ·rw [aX (below b (hfps b hb)).2]
   exact(hf b hb).1
 exact codeAny_compStart_list (loop _ rfl) (T.self _ 0 _ _ _ (T.keep _ _ _ st fun b hb o e=>old b o e) (loop _ rfl))
end
section
variable {X:Cx} {pins:List (Addr×Obj)} {σ:St} {s2:Shared} {H2:Hp}
theorem gA.noC {scope:Scope} {cap:List (Str×Nat)} {cl:List (Str×Addr)} (S:gA X scope cap cl):wQ X scope cap cl:=⟨S.clos,S.kind,S.names,S.sub,S.has,fun p _ h=>S.nocell _ h rfl,S.cap⟩
theorem gA.cx {scope:Scope} {cap:List (Str×Nat)} {cl:List (Str×Addr)} (S:gA X scope cap cl) (Nc:List Str) (C:Addr) (s2:Shared) (H2:Hp) (fp:List Addr):pB X Nc scope cl C s2 H2 fp=oR X Nc scope cl C s2 H2 fp:=by
 have e:(fun x=>decide (scope.names.lookup x=some NameKind.cell))=fun _=>false:=funext fun x=>decide_eq_false fun h=>S.nocell _ (PySem.mem_of_lookup h) rfl
 unfold pB oR
 rw [e]
 rfl
theorem aGh {elt iter tg:Expr} {scope:Scope} {own:List Str} {cap:List (Str×Nat)} {cl:List (Str×Addr)} {pos:Pos} {J:It} {fp:List Addr} {it:Addr} {tn:Nat->Heap->Prop} {g:TG} {te:TE} {Q:VK}
  (S:gA X scope cap cl) (hc:X.calm=true) (I:Inv X pins σ H2 s2) (T:Turn X.prog X.w X.K tg J fp it tn) (st:tn 0 s2.heap) (hf:∀b∈fp,aCc X pins H2 b)
  (hg:∀C s2 H2 fp,PG (oR X (rP own cap) scope cl C s2 H2 fp) tg g) (he:∀C s2 H2 fp,PE (oR X (rP own cap) scope cl C s2 H2 fp) elt te)
  (W:Nat->Nat->St->Hp->Prop) (w0:∃m,W 0 m (uE own.length cap σ) (upd H2 s2.heap.objs.size (.lst [])))
  (turn:∀i m σc H3,W i m σc H3->(J.stop i H3/\Q (.ref s2.heap.objs.size) H3)∨(J.go i H3/\∀x H4,J.yld i H3 x H4->g x σc H4 fun σ5 H5=>te σ5 H5 fun y H6=>∃ys,H6 s2.heap.objs.size=some (.lst ys)/\ys.length<sizeLine/\∃m',m'<m/\W (i+1) m' σ5 (upd H6 s2.heap.objs.size (.lst (ys++[y])))))
  {RR:Value->Addr->Result->Shared->Prop}
  (hRR:∀C H' s' m,s2.heap.objs.size<=C->s'.heap.Ns C m->H' C=none->Inv X pins σ H' s'->(∀h',Heap.SameBut C s'.heap h'->Inv X pins σ H' {s' with heap:=h'})->Q (.ref s2.heap.objs.size) H'->RR (.ref s2.heap.objs.size) C (.ok .next) s')
  {E:Value->Shared->Prop}:
  wpAny (model X.prog X.w) X.A (newList []) (fun acc s₃=>wpAny (model X.prog X.w) X.A (newFunctionEnv scope X.env.globals cl [] X.env.qual none .none (some X.env)) (fun cenv s₄=>
   codeAny (model X.prog X.w) X.A (.compStart (.ListComp elt [⟨tg,iter,[],0⟩] scope pos) 0 (.ref it) acc {cenv with scope:=relabel scope X.env}) (RR acc cenv.locals) s₄) E s₃) E s2:=
 aDi (cis:=[]) S.noC hc I T st hf (fun cs _ e C s2 H2 fp=>by rw [e S.nocell,S.cx];exact hg C s2 H2 fp) (fun _ _ _ _ _ _ _=>aQg) (fun cs _ e C s2 H2 fp=>by rw [e S.nocell,S.cx];exact he C s2 H2 fp) W w0 turn hRR
theorem aQ6 {elt iter tg:Expr} {scope:Scope} {own:List Str} {cap:List (Str×Nat)} {cl:List (Str×Addr)} {pos:Pos} {wi:TI} {g:TG} {te:TE}
  (S:gA X scope cap cl) (hc:X.calm=true) (hi:PI X tg iter wi)
  (hg:∀C s2 H2 fp,PG (oR X (rP own cap) scope cl C s2 H2 fp) tg g) (he:∀C s2 H2 fp,PE (oR X (rP own cap) scope cl C s2 H2 fp) elt te)
  (hs:∀x,foldedSetIterable iter X.env x=pure x:=by intro _;rfl):PE X (.ListComp elt [⟨tg,iter,[],0⟩] scope pos) (aRr own.length cap wi g te):=by
 intro pins s σ H Q I h
 rw [eval_ListComp]
 refine wpAny_comprehension_free (use:=none) rfl hs S.clos S.kind S.names (thn (hi pins s σ H _ I h) fun v s1 h1=>thn h1 fun itv s2 h2=>?_)
 obtain⟨it,fp,tn,J,H2,e,I2,T,st2,f2,rd⟩:=h2
 subst e
 obtain⟨W,w0,turn⟩:=rd _ (I2.hok.fresh (Nat.le_refl _))
 exact aGh (RR:=fun acc C=>compPost (model X.prog X.w) X.A X.xe none (EP X pins σ Q) acc C) S hc I2 T st2 f2 hg he W w0 turn
  fun C H' s' m _ hm _ _ hback q=>⟨m,hm,fun h' hs'=>⟨.ref s2.heap.objs.size,H',hback h' hs',rfl,q⟩⟩
end
section
variable {X:Cx} {pins:List (Addr×Obj)} {σ:St} {s2:Shared} {H2:Hp}
end
section
variable {X:Cx}
end
section
variable {X:Cx}
theorem iM:fX X (.builtin "isinstance") (fun xs H Q=>∃x n t b,xs=[x,.ty n]/\pW X.K H x t/\PySem.W.kitOne X.K t (.type n)=some b/\Q (.bl b) H):=by
 intro pins s σ H xs us Q I r h
 obtain⟨x,n,t,b,rfl,ty,e,q⟩:=h
 obtain⟨u,w',rfl,ru,rw'⟩:=vals2 r
 cases rw'
 exact aKg I ru ty e fun tk=>⟨.bl b,H,I.tok tk,rfl,q⟩
end
theorem aD8 {x:V} (h:gJ x=true):eqV x x=true:=by
 cases x<;>first|rfl|exact beq_self_eq_true _|(exact absurd (show false=true from h) Bool.false_ne_true)
theorem oN (e:Nat->Bool) (n:Nat):(List.range (n+1)).all e=(e 0 && (List.range n).all fun j=>e (j+1)):=by
 rw [List.range_succ_eq_map,List.all_cons,List.all_map]
 rfl
section
variable {X:Cx} {pins:List (Addr×Obj)} {σ:St} {H:Hp} {s:Shared} {A:Around}
end
theorem sW (env:Env):∀(names:List (Str×NameKind)) (acc:List (Str×Addr)),(∀y∈names,y.2= .free->∃c,env.cells.lookup y.1=some c)->(∀x c,acc.lookup x=some c->env.cells.lookup x=some c)->
  ∃cl,(forIn names acc (fun(x:Str×NameKind) (cs:List (Str×Addr))=>(if(x.2==NameKind.free)=true then(do let a<-cellOf env x.1;pure (ForInStep.yield ((x.1,a)::cs)):Sem _)else pure (ForInStep.yield cs))):Sem (List (Str×Addr)))=pure cl/\
   (∀x c,cl.lookup x=some c->env.cells.lookup x=some c)/\(∀x,(∃c,acc.lookup x=some c)∨(x,NameKind.free)∈names->∃c,cl.lookup x=some c)
 | [],acc,_,h2=>⟨acc,rfl,h2,fun x hx=>hx.elim id fun z=>(by cases z)⟩
 |(n,k)::r,acc,h1,h2=>by
  by_cases hk:k= .free
  ·subst hk
   obtain⟨c,hc⟩:=h1 (n,.free) List.mem_cons_self rfl
   obtain⟨cl,e,a,b⟩:=sW env r ((n,c)::acc) (fun y hy=>h1 y (List.mem_cons_of_mem _ hy)) (fun x c' hx=>by
    cases hxn:x==n with
    |true=>
     simp only [List.lookup_cons,hxn]at hx
     have:x=n:=eq_of_beq hxn
     subst this
     cases hx
     exact hc
    |false=>
     simp only [List.lookup_cons,hxn]at hx
     exact h2 x c' hx)
   refine⟨cl,?_,a,fun x hx=>b x ?_⟩
   ·rw [<-e,List.forIn_cons]
    have ec:cellOf env n=pure c:=by unfold cellOf;rw [hc]
    simp only [beq_self_eq_true,if_true,ec]
    rfl
   ·rcases hx with ⟨c',hx⟩|hx
    ·refine .inl ?_
     cases hxn:x==n with
     |true=>exact⟨c,by simp only [List.lookup_cons,hxn]⟩
     |false=>exact⟨c',by simp only [List.lookup_cons,hxn];exact hx⟩
    ·rcases List.mem_cons.mp hx with z|z
     ·cases z
      exact .inl ⟨c,by simp [List.lookup_cons]⟩
     ·exact .inr z
  ·obtain⟨cl,e,a,b⟩:=sW env r acc (fun y hy=>h1 y (List.mem_cons_of_mem _ hy)) h2
   refine⟨cl,?_,a,fun x hx=>b x ?_⟩
   ·rw [<-e,List.forIn_cons]
    have hb:(k==NameKind.free)=false:=by simpa using hk
    simp only [hb,Bool.false_eq_true,if_false]
    rfl
   ·rcases hx with hx|hx
    ·exact .inl hx
    ·rcases List.mem_cons.mp hx with z|z
     ·cases z
      exact absurd rfl hk
     ·exact .inr z
theorem aGk {X:Cx} {scope:Scope} {cap:List (Str×Nat)} (hcell:∀x,X.env.scope.names.lookup x=some .cell->∃c,X.env.cells.lookup x=some c) (kind:scope.kind= .function) (nocell:∀y∈scope.names,y.2≠ .cell)
  (names:∀y∈scope.names,y.2= .local->scope.names.lookup y.1=some .local) (free:∀y∈scope.names,y.2= .free->X.env.scope.names.lookup y.1=some .cell)
  (hcap:∀p∈cap,X.N[p.2]? =some p.1/\scope.names.lookup p.1=some .free/\X.env.scope.names.lookup p.1=some .cell):∃cl,gA X scope cap cl:=by
 obtain⟨cl,e,a,b⟩:=sW X.env scope.names [] (fun y hy hf=>hcell _ (free y hy hf)) (fun x c h=>by simp at h)
 refine⟨cl,?_,kind,nocell,names,a,fun x hx=>b x (.inr (PySem.mem_of_lookup hx)),hcap⟩
 unfold closureFor
 refine Eq.trans ?_ e
 simp only [bind_pure]
abbrev aH3 (n:Nat) (D:Addr) (Pv:Nat->List V->St->Hp->Prop) (i:Nat) (σ:St) (y:V) (H5:Hp):Prop:=
 ∃ys,H5 D=some (.lst ys)/\ys.length<sizeLine/\∃m',m'<n-i/\m'=n-(i+1)/\i+1<=n/\∃acc,Pv (i+1) acc σ (upd H5 D (.lst (ys++[y])))
theorem pH {n:Nat} {D:Addr} {Pv:Nat->List V->St->Hp->Prop} {i:Nat} {σ:St} {y:V} {H5:Hp} {acc:List V} (h1:H5 D=some (.lst acc)) (h2:acc.length<sizeLine) (hi:i<n) (h3:Pv (i+1) (acc++[y]) σ (upd H5 D (.lst (acc++[y])))):aH3 n D Pv i σ y H5:=
 ⟨acc,h1,h2,n-(i+1),by omega,rfl,hi,acc++[y],h3⟩
theorem tR {K:PySem.W.Frag} {a D:Addr} {xs:List V} {ni:Nat} {te:TE} {Q:VK} {σ:St} {H:Hp} (Pv:Nat->List V->St->Hp->Prop) (h0:Pv 0 [] σ H) (hl:∀i acc σ H,i<=xs.length->Pv i acc σ H->SqL K H a xs)
  (hs:∀i x acc σ H,i<xs.length->xs[i]? =some x->Pv i acc σ H->te (σ.set ni (some x)) H fun y H5=>aH3 xs.length D Pv i (σ.set ni (some x)) y H5) (hd:∀acc σ H,Pv xs.length acc σ H->Q (.ref D) H):
  aIp (Itl K a) D (gR ni) te Q σ H:=by
 refine⟨fun i m σ H=>m=xs.length-i/\i<=xs.length/\∃acc,Pv i acc σ H,⟨xs.length,by simp,Nat.zero_le _,[],h0⟩,?_⟩
 rintro i m σ H ⟨rfl,hi,acc,p⟩
 have q:=hl i acc σ H hi p
 by_cases hlt:i<xs.length
 ·refine .inr ⟨⟨xs,xs[i],q,by simp [hlt]⟩,fun x H' y=>?_⟩
  obtain⟨e,y⟩:=y
  subst e
  exact hs i x acc σ _ hlt (y xs q) p
 ·have e:i=xs.length:=by omega
  subst e
  exact .inl ⟨⟨xs,q,Nat.le_refl _⟩,hd acc σ H p⟩
theorem qT {K:PySem.W.Frag} {a D:Addr} {xs:List V} {ni:Nat} {te:TE} {Q:VK} {σ:St} {H:Hp} (Pv:Nat->List V->St->Hp->Prop) (h0:Pv 0 [] σ H) (hl:∀i acc σ H,i<=xs.length->Pv i acc σ H->SqT K H a xs)
  (hs:∀i x acc σ H,i<xs.length->xs[i]? =some x->Pv i acc σ H->te (σ.set ni (some x)) H fun y H5=>aH3 xs.length D Pv i (σ.set ni (some x)) y H5) (hd:∀acc σ H,Pv xs.length acc σ H->Q (.ref D) H):
  aIp (Itt K a) D (gR ni) te Q σ H:=by
 refine⟨fun i m σ H=>m=xs.length-i/\i<=xs.length/\∃acc,Pv i acc σ H,⟨xs.length,by simp,Nat.zero_le _,[],h0⟩,?_⟩
 rintro i m σ H ⟨rfl,hi,acc,p⟩
 have q:=hl i acc σ H hi p
 by_cases hlt:i<xs.length
 ·refine .inr ⟨⟨xs,xs[i],q,by simp [hlt]⟩,fun x H' y=>?_⟩
  obtain⟨e,y⟩:=y
  subst e
  exact hs i x acc σ _ hlt (y xs q) p
 ·have e:i=xs.length:=by omega
  subst e
  exact .inl ⟨⟨xs,q,Nat.le_refl _⟩,hd acc σ H p⟩
section
variable {X:Cx}
end
section
variable {X:Cx}
theorem aOe:fX X (.builtin "all") (fun xs H Q=>∃(p:Addr) (bs:List Bool),xs=[.ref p]/\SqL X.K H p (bs.map V.bl)/\X.calm=true/\Q (.bl (bs.all id)) H):=by
 intro pins s σ H xs us Q I r h
 obtain⟨p,bs,rfl,hq,hc,q⟩:=h
 obtain⟨u,rfl,ru⟩:=vals1 r
 cases ru
 obtain⟨its,rv,pl,hz⟩:=I.list hq
 have hl:=rv.length
 rw [List.length_map]at hl
 refine call_all_walk (wpAny_pyIter_list pl.isList ?_)
 have hlt:p<s.heap.objs.size:=by obtain⟨o,e,_⟩:=pl.isList;exact Heap.lt_size e
 have hne:p≠s.heap.objs.size:=Nat.ne_of_lt hlt
 have hd:X.A.in1.handled=none:=I.ok.hd hc
 refine⟨s.heap.objs.size,_,_,_,_,_,fun i=>bs.getD i true,rfl,Walks.list hd s.heap.objs.size p hne its.toArray,⟨⟨_,Heap.get?_push_size _ rfl,rfl,rfl⟩,pl.isList.push _⟩,fun i v s' Q' E' hv hQ=>?_,fun h' tk hk=>?_⟩
 ·have hv':its[i]? =some v:=by simpa using hv
  have hi:i<its.length:=(List.getElem?_eq_some_iff.mp hv').1
  have hi':i<bs.length:=by omega
  have e1:(bs.map V.bl)[i]? =some (V.bl bs[i]):=by simp [hi']
  obtain⟨u,hu,ru⟩:=rv.get e1
  rw [hv']at hu
  cases hu
  have ru':v=Value.bool bs[i]:=ru
  subst ru'
  have e2:bs.getD i true=bs[i]:=by simp [hi']
  have hQ':Q' (bs.getD i true) s':=hQ
  rw [e2]at hQ'
  exact wpAny_truthy_bool hQ'
 ·refine⟨.bl (bs.all id),H,?_,?_,q⟩
  ·exact I.kept (t':=tk) fun b o e=>hk b o (by simp;exact Nat.ne_of_lt (Heap.lt_size e)) (Heap.get?_push_of_some _ e)
  ·show Value.bool _=Value.bool _
   congr 1
   have e:its.toArray.size=bs.length:=by rw [List.size_toArray];omega
   rw [e]
   have:∀l:List Bool,(List.range l.length).all (fun i=>l.getD i true)=l.all id:=by
    intro l
    induction l with
    |nil=>rfl
    |cons b l ih=>
     rw [List.length_cons,oN,List.all_cons, <-ih]
     congr 1
   exact this bs
end
section
variable {X:Cx}
theorem xM:∀{us:List Value} {ns:List Int},IntsAre us ns->Vals (ns.map V.int) us
 |_,_,.nil=> .nil
 |_,_,.cons i t r=> .cons ⟨t,rfl⟩ (xM r)
theorem Paired.get2 {α β:Type} {F:α->β->Prop}:∀{l₁:List α} {l₂:List β},Paired F l₁ l₂->∀{i:Nat} {y:β},l₂[i]? =some y->∃x,l₁[i]? =some x/\F x y
 |_,_,.nil,i,_,h=>by simp at h
 |_,_,.cons h _,0,_,e=>by simp at e;subst e;exact⟨_,rfl,h⟩
 |_,_,.cons _ t,i+1,y,e=>by
  obtain⟨x,h1,h2⟩:=Paired.get2 t (i:=i) (y:=y) (by simpa using e)
  exact⟨x,by simpa using h1,h2⟩
theorem qD {lo:Int} {n:Nat} {D:Addr} {ni:Nat} {te:TE} {Q:VK} {σ:St} {H:Hp} (Pv:Nat->List V->St->Hp->Prop) (h0:Pv 0 [] σ H)
  (hs:∀i acc σ H,i<n->Pv i acc σ H->te (σ.set ni (some (.int (lo+i)))) H fun y H5=>aH3 n D Pv i (σ.set ni (some (.int (lo+i)))) y H5) (hd:∀acc σ H,Pv n acc σ H->Q (.ref D) H):
  aIp (Itr lo n) D (gR ni) te Q σ H:=by
 refine⟨fun i m σ H=>m=n-i/\i<=n/\∃acc,Pv i acc σ H,⟨n,by simp,Nat.zero_le _,[],h0⟩,?_⟩
 rintro i m σ H ⟨rfl,hi,acc,p⟩
 by_cases hlt:i<n
 ·refine .inr ⟨hlt,fun x H' y=>?_⟩
  obtain⟨e,y⟩:=y
  subst e y
  exact hs i acc σ _ hlt p
 ·have e:i=n:=by omega
  subst e
  exact .inl ⟨Nat.le_refl _,hd acc σ H p⟩
end
section
variable {X:Cx}
theorem wW (f:Nat->Int) (ns:List Int) (h:∀j,j<ns.length->f j=ns.getD j 0):∀n,n<=ns.length->preSum f n=(ns.take n).sum
 |0,_=>by simp [preSum]
 |n+1,hn=>by
  show preSum f n+f n=_
  rw [wW f ns h n (by omega),h n hn,List.take_succ]
  have e:ns[n]? =some (ns.getD n 0):=by simp [show n<ns.length from hn]
  rw [e,List.sum_append]
  simp
theorem tZ:∀(ns:List Int) (b:Int),(∀n∈ns,0<=n/\n<=b)->0<=b->∀j,0<=(ns.take j).sum/\(ns.take j).sum<=ns.length*b
 | [],b,_,hb,j=>by simp
 |n::ns,b,h,hb,0=>by
  simp
  exact Int.mul_nonneg (by omega) hb
 |n::ns,b,h,hb,j+1=>by
  have ih:=tZ ns b (fun m hm=>h m (List.mem_cons_of_mem _ hm)) hb j
  have hn:=h n List.mem_cons_self
  rw [List.take_succ_cons,List.sum_cons,List.length_cons]
  have:((ns.length+1:Nat):Int)*b=ns.length*b+b:=by rw [Int.natCast_add,Int.add_mul];simp
  rw [this]
  omega
inductive aRt (K:PySem.W.Frag) (xs:List V) (H:Hp) (Q:VK):Prop
 |mk (p:Addr) (ns:List Int) (q0_:xs=[.ref p]) (q1_:SqL K H p (ns.map V.int)) (q2_:ns.length<=1000) (q3_:(∀n∈ns,0<=n/\n<=1000)) (q4_:Q (.int ns.sum) H):aRt K xs H Q
def aUn (K:PySem.W.Frag):List V->Hp->VK->Prop:=fun xs H Q=>aRt K xs H Q
theorem aLb (hc:X.calm=true):fX X (.builtin "sum") (aUn X.K):=by
 intro pins s σ H xs us Q I r h
 obtain⟨p,ns,rfl,hq,hln,hb,q⟩:=h
 obtain⟨u,rfl,ru⟩:=vals1 r
 cases ru
 obtain⟨its,rv,pl,hz⟩:=I.list hq
 have hi:IntsAre its ns:=intsAre_of rv
 obtain⟨ys,e⟩:=hi.allInts.items
 have hns:ns=ys.toList.map (·.1):=by
  rw [<-hi.numsOf, <-nums_intItems, <-e]
 have hsz:ys.size=ns.length:=by rw [hns,List.length_map,Array.length_toList]
 have hl:=pl.isList
 rw [e]at hl
 have hat:∀j,j<ns.length->numAt ys j=ns.getD j 0:=fun j hj=>by
  rw [numAt_eq,hns]
 have hps:∀n,n<=ns.length->preSum (numAt ys) n=(ns.take n).sum:=wW _ _ hat
 have hsum:=tZ ns 1000 hb (by decide)
 have hbig:(ns.length:Int)*1000<=1000000:=by omega
 refine sum_intList (I.ok.hd hc) hl (fun j hj=>⟨?_,?_⟩) fun h' tk t' hk=>?_
 ·have hj':j<ns.length:=by omega
  rw [hat j hj']
  have:=hb (ns.getD j 0) (by simp [hj'])
  exact⟨by omega,by omega⟩
 ·rw [hps (j+1) (by omega)]
  have:=hsum (j+1)
  exact⟨by omega,by omega⟩
 ·refine⟨.int _,H,I.kept (t':=tk) hk,⟨t',rfl⟩,?_⟩
  rw [hsz,hps _ (Nat.le_refl _),List.take_length]
  exact q
end
section
variable {X:Cx}
end
section
variable {prog:Program} {w:World} {A:Around}
theorem aK3 (x d:Value):argsOk "max" ⟨[x],[(Str.ofString "default",d)]⟩:=by
 unfold argsOk
 kernel_rfl
def aSn (num:Nat->Int) (P:Nat->Value->Prop) (j:Nat):Option (Nat×Value)->Prop
 |none=>j=0
 |some (i,v)=>i<j/\P i v/\∀t,t<j->num t<=num i
def aIe (o:Option (Nat×Value)):Array Value:=match o with
 |none=> #[]
 |some (_,v)=> #[v,v]
theorem yG {It Bx:Addr} {fp wr:List Addr} {n:Nat} {P:Nat->Value->Prop} {St:Nat->Heap->Prop} {R:Result->Shared->Prop} {d:Value} {num:Nat->Int} (W:Walks prog w A.in1 It fp wr n P St) (cm:CmpOf prog w A.in1 .Gt P (fun i j=>decide (num i>num j))) (apart:Bx∉fp):
  ∀(k j:Nat) (s:Shared) (o:Option (Nat×Value)) (c:Nat),n=j+k->St j s.heap->aSn num P j o->s.heap.get? Bx=some {cls:= .type "list",dict:=none,data:= .seq (aIe o) c,slots:= #[]}->
   (∀v h' tk,(n=0/\v=d∨∃o',o'=some v/\∃i,aSn num P n (some (i,v)))->(∀b ob,b∉wr->b≠Bx->s.heap.get? b=some ob->h'.get? b=some ob)->R (.ok (.ret v)) {s with heap:=h',toks:=tk})->
   codeAny (model prog w) A (.builtin "max.loop" ⟨[.ref It,.none,.ref Bx],[("default",d)]⟩) R s
 |0,j,s,o,c,en,at_,top,hS,fin=>by
  have outw:Bx∉wr:=fun z=>apart (W.sub _ z)
  cases en
  refine codeAny_builtin F.entry_max_loop ?_
  rw [Around.under_plainId F.plain_max_loop _]
  show wpAny _ A.in1 (seqItems? (.ref Bx)>>=_) _ _ s
  refine wpAny_bind (wpAny_seqItems hS rfl ?_)
  show wpAny _ A.in1 (tryCatch (pyNext (.ref It)) _>>=_) _ _ s
  refine wpAny_bind (wpAny_tryCatch (W.done s _ _ at_ fun h' tk kept=>?_))
  have hS2:=kept Bx _ outw hS
  cases o with
  |none=>
   have z:j=0:=top
   show wpAny _ A.in1 (rule _>>=_) _ _ _
   exact wpAny_bind (wpAny_rule (wpAny_pure (fin d h' tk (.inl ⟨z,rfl⟩) fun b ob h1 _ h3=>kept b ob h1 h3)))
  |some q=>
   show wpAny _ A.in1 (updateSeq Bx (fun _=> #[])>>=_) _ _ _
   refine wpAny_bind (wpAny_updateSeq (hz:=by show 2<=sizeLine;decide) hS2 rfl (wpAny_bind (wpAny_letGo (wpAny_pure (fin q.2 _ tk (.inr ⟨_,rfl,q.1,top⟩) fun b ob h1 h2 h3=>?_)))))
   exact(Heap.get?_update_other _ _ (Ne.symm h2)).trans (kept b ob h1 h3)
 |k+1,j,s,o,c,en,at_,top,hS,fin=>by
  have outw:Bx∉wr:=fun z=>apart (W.sub _ z)
  have more:j<n:=by omega
  have nm:(toString "max"++toString ".loop":String)="max.loop":=by decide
  refine codeAny_builtin F.entry_max_loop ?_
  rw [Around.under_plainId F.plain_max_loop _]
  show wpAny _ A.in1 (seqItems? (.ref Bx)>>=_) _ _ s
  refine wpAny_bind (wpAny_seqItems hS rfl ?_)
  show wpAny _ A.in1 (tryCatch (pyNext (.ref It)) _>>=_) _ _ s
  refine wpAny_bind (wpAny_tryCatch (W.item j s _ _ more at_ fun v h' tk pv at2 kept=>?_))
  have hS2:=kept Bx _ outw hS
  have step:∀(o2:Option (Nat×Value)) (c2:Nat) (h2:Heap) (t2:Nat),aSn num P (j+1) o2->h2.get? Bx=some {cls:= .type "list",dict:=none,data:= .seq (aIe o2) c2,slots:= #[]}->(∀b ob,b≠Bx->h'.get? b=some ob->h2.get? b=some ob)->
    codeAny (model prog w) A (.builtin "max.loop" ⟨[.ref It,.none,.ref Bx],[("default",d)]⟩) R {s with heap:=h2,toks:=t2}:=fun o2 c2 h2 t2 top2 hS3 k2=>by
   refine yG W cm apart k (j+1) {s with heap:=h2,toks:=t2} o2 c2 (by omega) (W.frame _ _ _ at2 fun b hb ob e=>k2 b ob (fun z=>apart (z▸hb)) e) top2 hS3 fun v3 h3 t3 r3 k3=>?_
   exact fin v3 h3 t3 r3 fun b ob a1 a2 a3=>k3 b ob a1 a2 (k2 b ob a2 (kept b ob a1 a3))
  cases o with
  |none=>
   have z:j=0:=top
   subst z
   show wpAny _ A.in1 (updateSeq Bx (fun _=> #[v,v])>>=_) _ _ _
   refine wpAny_bind (wpAny_updateSeq hS2 rfl ?_)
   rw [nm]
   refine wpAny_pure ⟨plainId_quiet F.plain_max_loop _,step (some (0,v)) _ _ _ ⟨Nat.one_pos,pv,fun t ht=>?_⟩ (Heap.get?_update_self _ hS2 rfl) fun b ob hb e=>(Heap.get?_update_other _ _ (Ne.symm hb)).trans e⟩
   have:t=0:=by omega
   subst this
   exact Int.le_refl _
  |some q=>
   obtain⟨i,vb⟩:=q
   obtain⟨hi,pb,best⟩:=top
   show wpAny _ A.in1 (tryCatch (holding [v,v] (richCompare .Gt v vb>>=_)) _>>=_) _ _ _
   refine wpAny_bind (wpAny_tryCatch (wpAny_holding (wpAny_bind (cm j i v vb _ _ _ pv pb ?_))))
   refine wpAny_bind (wpAny_holding (wpAny_truthy_bool (wpAny_bind (wpAny_letGo (wpAny_pure ?_)))))
   dsimp only
   by_cases hb:num j>num i
   ·rw [decide_eq_true hb,if_pos rfl]
    refine wpAny_bind (wpAny_updateSeq (hz:=by show 2<=sizeLine;decide) hS2 rfl (wpAny_bind (wpAny_letGo ?_)))
    rw [nm]
    refine wpAny_pure ⟨plainId_quiet F.plain_max_loop _,step (some (j,v)) _ _ _ ⟨Nat.lt_succ_self j,pv,fun t ht=>?_⟩ (Heap.get?_update_self _ hS2 rfl) fun b ob hb e=>(Heap.get?_update_other _ _ (Ne.symm hb)).trans e⟩
    by_cases ht2:t<j
    ·have:=best t ht2;omega
    ·have:t=j:=by omega
     subst this
     exact Int.le_refl _
   ·rw [decide_eq_false hb,if_neg Bool.false_ne_true]
    refine wpAny_bind (wpAny_letGo ?_)
    rw [nm]
    refine wpAny_pure ⟨plainId_quiet F.plain_max_loop _,step (some (i,vb)) _ _ _ ⟨by omega,pb,fun t ht=>?_⟩ hS2 fun b ob _ e=>e⟩
    by_cases ht2:t<j
    ·exact best t ht2
    ·have:t=j:=by omega
     subst this
     omega
end
section
variable {prog:Program} {w:World} {A:Around}
end
def aNi (X:Cx) (f:Value) (ks:List Str) (r:List V->List V->Hp->VK->Prop):Prop:=
 ∀(pins:List (Addr×Obj)) (s:Shared) (σ:St) (H:Hp) (xs ys:List V) (us ws:List Value) (Q:VK),Inv X pins σ H s->Vals xs us->Vals ys ws->r xs ys H Q->wpAny (model X.prog X.w) X.A (call f us (ks.zip ws)) (EP X pins σ Q) X.xe s
def aVz (r:List V->List V->Hp->VK->Prop) (t tk:TA):TE:=fun σ H Q=>t σ H fun xs H1=>tk σ H1 fun ys H2=>r xs ys H2 Q
theorem aKr {X:Cx} {x:Str} {id:String} {ks:List Str} {r:List V->List V->Hp->VK->Prop} {e:Expr} {es:List Expr} {kws:List Keyword} {t tk:TA} {p pos:Pos} (hc:aNi X (.builtin id) ks r) (hg:Gl X x) (hm:X.mg x=none) (hv:bootBuiltins x=some (.builtin id)) (ha:PA X (e::es) t) (hkw:PK X kws tk)
  (hall:(backToKw pos (keywordEach kws X.env)).all (·.1.isSome)=true:=by rfl) (hks:(backToKw pos (keywordEach kws X.env)).filterMap (·.1)=ks:=by rfl) (hn:x≠"__name__":=by decide) (hdb:(x==("__debug__":Str))=false:=by decide)
  (he:starEach (e::es) X.env=(false,eval e X.env)::starEach es X.env:=by rfl) (hpl:(backTo pos (starEach (e::es) X.env)).any (·.1)=false:=by rfl) (hpk:(backToKw pos (keywordEach kws X.env)).any (·.1.isNone)=false:=by rfl):PE X (.Call (.Name x p) (e::es) kws pos) (aVz r t tk):=by
 intro pins s σ H Q I h
 refine wpAny_Call_Name_kw (xT I hg hm hv ?_ hn hdb)
 refine PyProof.Rows.callWith_kw (thn (ha pos pins s σ H _ I h) fun us s1 ⟨vs,H1,I1,r1,q1⟩=>?_) (by rw [he];rfl) hpl hall hpk
 refine thn (hkw pos pins s1 σ H1 _ I1 q1) fun ws s2 ⟨zs,H2,I2,rz,q2⟩=>?_
 rw [hks]
 exact hc pins s2 σ H2 vs zs us ws Q I2 r1 rz q2
def aRo (K:PySem.W.Frag):List V->List V->Hp->VK->Prop:=fun xs ys H Q=>∃p ns d,xs=[.ref p]/\ys=[d]/\SqL K H p (ns.map V.int)/\(ns=[]->Q d H)/\∀m:Int,m∈ns->(∀a∈ns,a<=m)->Q (.int m) H
theorem aI4 {X:Cx} (hc:X.calm=true):aNi X (.builtin "max") ["default"] (aRo X.K):=by
 intro pins s σ H xs ys us ws Q I r rk h
 obtain⟨p,ns,d,rfl,rfl,hq,q0,q1⟩:=h
 obtain⟨u,rfl,ru⟩:=vals1 r
 obtain⟨dv,rfl,rd⟩:=vals1 rk
 cases ru
 obtain⟨its,rv,pl,hz⟩:=I.list hq
 have hi:IntsAre its ns:=intsAre_of rv
 obtain⟨ys,e⟩:=hi.allInts.items
 have hns:ns=ys.toList.map (·.1):=by rw [<-hi.numsOf, <-nums_intItems, <-e]
 have hl:=pl.isList
 rw [e]at hl
 have nm:(toString "max"++toString ".loop":String)="max.loop":=by decide
 refine kmb_tree F.kind_max F.plain_max F.entry_max (aK3 _ _) ?_
 show wpAny _ X.A.in1 (Builtin.Builtins.bindParams "max" ["key","default"] 0 ⟨[],[(Str.ofString "default",dv)]⟩>>=_) _ _ s
 refine wpAny_bind (wpAny_of_eq (show Builtin.Builtins.bindParams "max" ["key","default"] 0 ⟨[],[(Str.ofString "default",dv)]⟩=pure [none,some dv] by rfl) (wpAny_bind (wpAny_pure ?_)))
 refine wpAny_bind (iter_intList hl fun s₂ es st hfp hlI=>?_)
 refine wpAny_bind (wpAny_newObj_type ?_)
 have apart:s₂.heap.objs.size∉[s.heap.objs.size,p]:=fun z=>Nat.lt_irrefl _ (hfp _ z)
 rw [nm]
 have W:=Walks.list (prog:=X.prog) (w:=X.w) (A:=X.A.in1) (I.ok.hd hc) s.heap.objs.size p hlI (intItems ys)
 refine wpAny_pure ⟨plainId_quiet F.plain_max_loop _,yG W (CmpOf.ints_gt (numAt ys) (fun _ _=>intItems_at)) apart _ 0 _ none _ (by rw [Nat.zero_add]) (W.frame _ _ _ st fun b _ o eb=>Heap.get?_push_of_some _ eb) rfl (Heap.get?_push_size _ rfl) fun v h' tk res kept=>?_⟩
 subst es
 have old:∀b o,s.heap.get? b=some o->h'.get? b=some o:=fun b o eb=>by
  have lt:=Heap.lt_size eb
  refine kept b o (fun z=>?_) (fun z=>?_) (Heap.get?_push_of_some _ (Heap.get?_push_of_some _ eb))
  ·have z':=List.mem_singleton.mp z
   exact absurd lt (by rw [z'];exact Nat.lt_irrefl _)
  ·rw [Heap.size_push]at z
   exact absurd lt (by rw [z];exact Nat.not_lt.mpr (Nat.le_succ _))
 rcases res with ⟨n0,rfl⟩|⟨_,_,i,hin,pv,best⟩
 ·refine⟨d,H,I.kept (t':=tk) old,rd,q0 ?_⟩
  rw [hns]
  have:ys.size=0:=by simpa [intItems]using n0
  rw [List.map_eq_nil_iff, <-Array.length_toList]at*
  exact List.eq_nil_of_length_eq_zero (by rw [Array.length_toList];exact this)
 ·obtain⟨t,rfl⟩:=intItems_at (by simpa [intItems]using pv)
  have hin':i<ys.size:=by simpa [intItems]using hin
  refine⟨.int _,H,I.kept (t':=tk) old,⟨t,rfl⟩,q1 _ ?_ fun a ha=>?_⟩
  ·rw [hns,numAt_eq]
   exact getD_mem (by rw [List.length_map,Array.length_toList];omega)
  ·rw [hns]at ha
   obtain⟨j,hj,rfl⟩:=mem_getD ha
   rw [List.length_map,Array.length_toList]at hj
   have:=best j (by simpa [intItems]using hj)
   rw [<-numAt_eq]
   exact this
inductive D where
 |fl (x:V)
 |tp (l:List D)
 |ls (l:List D)
mutual
def Den (K:PySem.W.Frag) (H:Hp):D->V->Prop
 | .fl x,v=>v=x/\gJ x=true
 | .tp l,v=>∃a xs,v= .ref a/\SqT K H a xs/\uQ K H l xs
 | .ls l,v=>∃a xs,v= .ref a/\SqL K H a xs/\uQ K H l xs
def uQ (K:PySem.W.Frag) (H:Hp):List D->List V->Prop
 | [],xs=>xs=[]
 |d::l,xs=>∃x r,xs=x::r/\Den K H d x/\uQ K H l r
end
mutual
def D.eq:D->D->Bool
 | .fl x,.fl y=>eqV x y
 | .tp l,.tp m=>D.eqs l m
 | .ls l,.ls m=>D.eqs l m
 |_,_=>false
def D.eqs:List D->List D->Bool
 | [],[]=>true
 |x::l,y::m=>D.eq x y && D.eqs l m
 |_,_=>false
end
mutual
def D.dep:D->Nat
 | .fl _=>0
 | .tp l=>D.deps l+1
 | .ls l=>D.deps l+1
def D.deps:List D->Nat
 | []=>0
 |x::l=>max (D.dep x) (D.deps l)
end
section
variable {X:Cx} {pins:List (Addr×Obj)} {σ:St} {H:Hp} {s:Shared}
theorem Inv.not_both {a:Addr} {xs ys:List V} (I:Inv X pins σ H s) (h:SqL X.K H a xs) (h':SqT X.K H a ys):False:=by
 obtain⟨its,r1,p1,_⟩:=I.list h
 obtain⟨its2,r2,p2,_⟩:=I.tuple h'
 obtain⟨o,ho,hc,_⟩:=p1.isList
 obtain⟨o2,ho2,hc2,_⟩:=p2
 rw [ho]at ho2
 cases ho2
 rw [hc]at hc2
 simp at hc2
mutual
theorem yX (I:Inv X pins σ H s):∀(d e:D) {v:V},Den X.K H d v->Den X.K H e v->d.eq e=true
 | .fl x,.fl y,v,h,h'=>by
  obtain⟨rfl,f⟩:=h
  obtain⟨rfl,_⟩:=h'
  rw [D.eq]
  exact aD8 f
 | .fl x,.tp m,v,h,h'=>by
  obtain⟨rfl,f⟩:=h
  obtain⟨a,xs,rfl,_⟩:=h'
  exact absurd (show false=true from f) Bool.false_ne_true
 | .fl x,.ls m,v,h,h'=>by
  obtain⟨rfl,f⟩:=h
  obtain⟨a,xs,rfl,_⟩:=h'
  exact absurd (show false=true from f) Bool.false_ne_true
 | .tp l,.fl x,v,h',h=>by
  obtain⟨rfl,f⟩:=h
  obtain⟨a,xs,rfl,_⟩:=h'
  exact absurd (show false=true from f) Bool.false_ne_true
 | .ls l,.fl x,v,h',h=>by
  obtain⟨rfl,f⟩:=h
  obtain⟨a,xs,rfl,_⟩:=h'
  exact absurd (show false=true from f) Bool.false_ne_true
 | .tp l,.tp m,v,h,h'=>by
  obtain⟨a,xs,rfl,h1,h2⟩:=h
  obtain⟨b,ys,e,h3,h4⟩:=h'
  cases e
  rw [I.tuple_inj h3 h1]at h4
  rw [D.eq]
  exact tK I l m h2 h4
 | .ls l,.ls m,v,h,h'=>by
  obtain⟨a,xs,rfl,h1,h2⟩:=h
  obtain⟨b,ys,e,h3,h4⟩:=h'
  cases e
  rw [I.list_inj h3 h1]at h4
  rw [D.eq]
  exact tK I l m h2 h4
 | .tp l,.ls m,v,h,h'=>by
  obtain⟨a,xs,rfl,h1,h2⟩:=h
  obtain⟨b,ys,e,h3,h4⟩:=h'
  cases e
  exact(I.not_both h3 h1).elim
 | .ls l,.tp m,v,h,h'=>by
  obtain⟨a,xs,rfl,h1,h2⟩:=h
  obtain⟨b,ys,e,h3,h4⟩:=h'
  cases e
  exact(I.not_both h1 h3).elim
theorem tK (I:Inv X pins σ H s):∀(l m:List D) {xs:List V},uQ X.K H l xs->uQ X.K H m xs->D.eqs l m=true
 | [],[],xs,h,h'=>by rw [D.eqs]
 | [],_::_,xs,h,h'=>by
  obtain⟨x,r,rfl,_⟩:=h'
  cases (show(x::r)=[]from h)
 |_::_,[],xs,h',h=>by
  obtain⟨x,r,rfl,_⟩:=h'
  cases (show(x::r)=[]from h)
 |d::l,e::m,xs,h,h'=>by
  obtain⟨x,r,rfl,h1,h2⟩:=h
  obtain⟨y,r',q,h3,h4⟩:=h'
  cases q
  rw [D.eqs,yX I d e h1 h3,tK I l m h2 h4]
  rfl
end
mutual
theorem aMz (I:Inv X pins σ H s):∀(d e:D) {v v':V} {u u':Value} {A:Around},RelV v u->RelV v' u'->Den X.K H d v->Den X.K H e v'->A.units+d.dep+e.dep<cLine->SeqAt.EqAt A s u u' (d.eq e)
 | .fl x,.fl y,v,v',u,u',A,r,r',h,h',hu=>by
  obtain⟨rfl,f⟩:=h
  obtain⟨rfl,f'⟩:=h'
  rw [D.eq]
  exact aM5 r r' f f'
 | .fl x,.tp m,v,v',u,u',A,r,r',h,h',hu=>by
  obtain⟨rfl,f⟩:=h
  obtain⟨a,xs,rfl,hb,_⟩:=h'
  cases r'
  obtain⟨its2,r2,p2,_⟩:=I.tuple hb
  rw [show D.eq (.fl v) (.tp m)=false by simp [D.eq]]
  have hu':A.units<cLine:=by omega
  cases v with
  |non=>cases r;exact SeqAt.EqAt.none_tuple p2 hu'
  |bl c=>cases r;exact SeqAt.EqAt.bool_tuple c p2 hu'
  |int c=>obtain⟨t,rfl⟩:=r;exact SeqAt.EqAt.int_tuple c t p2 hu'
  |str c=>obtain⟨t,rfl⟩:=r;exact SeqAt.EqAt.str_tuple c t p2 hu'
  |_=>exact absurd (show false=true from f) Bool.false_ne_true
 | .fl x,.ls m,v,v',u,u',A,r,r',h,h',hu=>by
  obtain⟨rfl,f⟩:=h
  obtain⟨a,xs,rfl,hb,_⟩:=h'
  cases r'
  obtain⟨its2,r2,p2,_⟩:=I.list hb
  rw [show D.eq (.fl v) (.ls m)=false by simp [D.eq]]
  have hu':A.units<cLine:=by omega
  cases v with
  |non=>cases r;exact SeqAt.EqAt.none_list p2.isList hu'
  |bl c=>cases r;exact SeqAt.EqAt.bool_list c p2.isList hu'
  |int c=>obtain⟨t,rfl⟩:=r;exact SeqAt.EqAt.int_list c t p2.isList hu'
  |str c=>obtain⟨t,rfl⟩:=r;exact SeqAt.EqAt.str_list c t p2.isList hu'
  |_=>exact absurd (show false=true from f) Bool.false_ne_true
 | .tp l,.fl x,v',v,u',u,A,r',r,h',h,hu=>by
  obtain⟨rfl,f⟩:=h
  obtain⟨a,xs,rfl,hb,_⟩:=h'
  cases r'
  obtain⟨its2,r2,p2,_⟩:=I.tuple hb
  rw [show D.eq (.tp l) (.fl v)=false by simp [D.eq]]
  have hu':A.units<cLine:=by omega
  cases v with
  |non=>cases r;exact SeqAt.EqAt.tuple_none p2 hu'
  |bl c=>cases r;exact SeqAt.EqAt.tuple_bool c p2 hu'
  |int c=>obtain⟨t,rfl⟩:=r;exact SeqAt.EqAt.tuple_int c t p2 hu'
  |str c=>obtain⟨t,rfl⟩:=r;exact SeqAt.EqAt.tuple_str c t p2 hu'
  |_=>exact absurd (show false=true from f) Bool.false_ne_true
 | .ls l,.fl x,v',v,u',u,A,r',r,h',h,hu=>by
  obtain⟨rfl,f⟩:=h
  obtain⟨a,xs,rfl,hb,_⟩:=h'
  cases r'
  obtain⟨its2,r2,p2,_⟩:=I.list hb
  rw [show D.eq (.ls l) (.fl v)=false by simp [D.eq]]
  have hu':A.units<cLine:=by omega
  cases v with
  |non=>cases r;exact SeqAt.EqAt.list_none p2.isList hu'
  |bl c=>cases r;exact SeqAt.EqAt.list_bool c p2.isList hu'
  |int c=>obtain⟨t,rfl⟩:=r;exact SeqAt.EqAt.list_int c t p2.isList hu'
  |str c=>obtain⟨t,rfl⟩:=r;exact SeqAt.EqAt.list_str c t p2.isList hu'
  |_=>exact absurd (show false=true from f) Bool.false_ne_true
 | .tp l,.ls m,v,v',u,u',A,r,r',h,h',hu=>by
  obtain⟨a,xs,rfl,h1,_⟩:=h
  obtain⟨b,ys,rfl,h3,_⟩:=h'
  cases r
  cases r'
  obtain⟨its,r1,p1,_⟩:=I.tuple h1
  obtain⟨its2,r2,p2,_⟩:=I.list h3
  rw [show D.eq (.tp l) (.ls m)=false by simp [D.eq]]
  exact SeqAt.EqAt.tuple_list p1 p2.isList (by omega)
 | .ls l,.tp m,v,v',u,u',A,r,r',h,h',hu=>by
  obtain⟨a,xs,rfl,h1,_⟩:=h
  obtain⟨b,ys,rfl,h3,_⟩:=h'
  cases r
  cases r'
  obtain⟨its,r1,p1,_⟩:=I.list h1
  obtain⟨its2,r2,p2,_⟩:=I.tuple h3
  rw [show D.eq (.ls l) (.tp m)=false by simp [D.eq]]
  exact SeqAt.EqAt.list_tuple p1.isList p2 (by omega)
 | .tp l,.tp m,v,v',u,u',A,r,r',h,h',hu=>by
  by_cases hab:v=v'
  ·subst hab
   rw [yX I _ _ h h']
   rw [show u'=u from by obtain⟨a,xs,rfl,_⟩:=h;cases r;cases r';rfl]
   exact SeqAt.EqAt.same _
  ·obtain⟨a,xs,rfl,h1,h2⟩:=h
   obtain⟨b,ys,rfl,h3,h4⟩:=h'
   cases r
   cases r'
   obtain⟨its,r1,p1,_⟩:=I.tuple h1
   obtain⟨its2,r2,p2,_⟩:=I.tuple h3
   rw [D.dep,D.dep]at hu
   obtain⟨e,he,ee⟩:=rC (A:=A.in1) I l m r1 r2 h2 h4 (by show A.units+1+_+_<_;omega)
   have key:=SeqAt.RcAt.tuples (A:=A) (s:=s) (l:=a) (b:=b) (items:=its.toArray) (items2:=its2.toArray) (e:=e) p1 p2 (by omega) (fun j g1 g2=>by
    have:=he j (by simpa using g1) (by simpa using g2)
    simpa using this)
   rw [List.size_toArray,List.size_toArray,ee]at key
   rw [D.eq]
   exact SeqAt.EqAt.of_refs (fun z=>hab (by rw [z])) key
 | .ls l,.ls m,v,v',u,u',A,r,r',h,h',hu=>by
  by_cases hab:v=v'
  ·subst hab
   rw [yX I _ _ h h']
   rw [show u'=u from by obtain⟨a,xs,rfl,_⟩:=h;cases r;cases r';rfl]
   exact SeqAt.EqAt.same _
  ·obtain⟨a,xs,rfl,h1,h2⟩:=h
   obtain⟨b,ys,rfl,h3,h4⟩:=h'
   cases r
   cases r'
   obtain⟨its,r1,p1,_⟩:=I.list h1
   obtain⟨its2,r2,p2,_⟩:=I.list h3
   rw [D.dep,D.dep]at hu
   obtain⟨e,he,ee⟩:=rC (A:=A.in1) I l m r1 r2 h2 h4 (by show A.units+1+_+_<_;omega)
   rw [D.eq]
   refine SeqAt.EqAt.of_refs (fun z=>hab (by rw [z])) ?_
   by_cases hz:its.toArray.size=its2.toArray.size
   ·have key:=SeqAt.RcAt.lists (A:=A) (s:=s) (l:=a) (b:=b) (items:=its.toArray) (items2:=its2.toArray) (e:=e) p1.isList p2.isList hz (by omega) (fun j g1 g2=>by
     have:=he j (by simpa using g1) (by simpa using g2)
     simpa using this)
    rw [List.size_toArray,List.size_toArray]at hz
    rw [<-hz,Nat.min_self,beq_self_eq_true,Bool.and_true]at ee
    rw [List.size_toArray,ee]at key
    exact key
   ·have hb':(its.length==its2.length)=false:=by simpa using hz
    rw [hb',Bool.and_false]at ee
    rw [<-ee]
    exact SeqAt.RcAt.lists_lengths p1.isList p2.isList (by simpa using hz) (by omega)
theorem rC (I:Inv X pins σ H s) {A:Around}:∀(l m:List D) {xs ys:List V} {us ws:List Value},Vals xs us->Vals ys ws->uQ X.K H l xs->uQ X.K H m ys->A.units+D.deps l+D.deps m<cLine->
  ∃e:Nat->Bool,(∀j (h1:j<us.length) (h2:j<ws.length),SeqAt.EqAt A s us[j] ws[j] (e j))/\((List.range (min us.length ws.length)).all e && us.length==ws.length)=D.eqs l m
 | [],m,xs,ys,us,ws,r,r',h,h',hu=>by
  cases (show xs=[]from h)
  cases r
  refine⟨fun _=>true,fun j h1 _=>absurd h1 (Nat.not_lt_zero j),?_⟩
  cases m with
  |nil=>cases (show ys=[]from h');cases r';rw [D.eqs];rfl
  |cons e m=>
   obtain⟨y,t,rfl,_⟩:=h'
   cases r'
   simp [D.eqs]
 |d::l,[],xs,ys,us,ws,r,r',h,h',hu=>by
  obtain⟨x,t,rfl,_⟩:=h
  cases (show ys=[]from h')
  cases r
  cases r'
  exact⟨fun _=>true,fun j _ h1=>absurd h1 (Nat.not_lt_zero j),by simp [D.eqs]⟩
 |d::l,e::m,xs,ys,us,ws,r,r',h,h',hu=>by
  obtain⟨x,t,rfl,h1,h2⟩:=h
  obtain⟨y,t',rfl,h3,h4⟩:=h'
  cases r with
  |@cons _ u0 _ us0 ru rus=>
  cases r' with
  |@cons _ w0 _ ws0 rw0 rws=>
  have hu1:A.units+d.dep+e.dep<cLine:=by
   rw [D.deps,D.deps]at hu
   have:=Nat.le_max_left d.dep (D.deps l)
   have:=Nat.le_max_left e.dep (D.deps m)
   omega
  have hu2:A.units+D.deps l+D.deps m<cLine:=by
   rw [D.deps,D.deps]at hu
   have:=Nat.le_max_right d.dep (D.deps l)
   have:=Nat.le_max_right e.dep (D.deps m)
   omega
  have E0:=aMz I d e (A:=A) ru rw0 h1 h3 hu1
  obtain⟨e',he,ee⟩:=rC I l m rus rws h2 h4 hu2
  refine⟨fun j=>match j with|0=>d.eq e|j+1=>e' j,fun j g1 g2=>?_,?_⟩
  ·cases j with
   |zero=>exact E0
   |succ j=>exact he j (by simpa using g1) (by simpa using g2)
  ·have hmin:min (u0::us0).length (w0::ws0).length=min us0.length ws0.length+1:=by
    rw [List.length_cons,List.length_cons]
    omega
   rw [hmin,oN,D.eqs, <-ee]
   show(d.eq e && (List.range (min us0.length ws0.length)).all e' && _)=_
   rw [Bool.and_assoc]
   congr 2
   rw [Bool.eq_iff_iff]
   simp
end
end
theorem aSk {A:Around} {s:Shared} {y x:V} {u v:Value} (ry:RelV y u) (rx:RelV x v) (fy:gJ y=true) (fx:gJ x=true):SeqAt.RcAt A s u v (eqV y x)/\SeqAt.RcNeAt A s u v (!eqV y x):=by
 cases y<;>first|exact absurd (show false=true from fy) Bool.false_ne_true|(cases x<;>first|exact absurd (show false=true from fx) Bool.false_ne_true|skip)
 all_goals first|obtain⟨t1,rfl⟩:=ry|cases ry
 all_goals first|obtain⟨t2,rfl⟩:=rx|cases rx
 ·exact⟨.none_none,.none_none⟩
 ·exact⟨.none_bool _,.none_bool _⟩
 ·exact⟨.none_int _ _,.none_int _ _⟩
 ·exact⟨.none_str _ _,.none_str _ _⟩
 ·exact⟨.bool_none _,.bool_none _⟩
 ·exact⟨.bool_bool _ _,.bool_bool _ _⟩
 ·exact⟨.bool_int _ _ _,.bool_int _ _ _⟩
 ·exact⟨.bool_str _ _ _,.bool_str _ _ _⟩
 ·exact⟨.int_none _ _,.int_none _ _⟩
 ·exact⟨.int_bool _ _ _,.int_bool _ _ _⟩
 ·exact⟨.int_int _ _ _ _,.int_int _ _ _ _⟩
 ·exact⟨.int_str _ _ _ _,.int_str _ _ _ _⟩
 ·exact⟨.str_none _ _,.str_none _ _⟩
 ·exact⟨.str_bool _ _ _,.str_bool _ _ _⟩
 ·exact⟨.str_int _ _ _ _,.str_int _ _ _ _⟩
 ·exact⟨.str_str _ _ _ _,.str_str _ _ _ _⟩
section
variable {X:Cx} {pins:List (Addr×Obj)} {σ:St} {H:Hp} {s:Shared}
theorem aNr (I:Inv X pins σ H s) (d e:D) {v v':V} {u u':Value} {A:Around} (r:RelV v u) (r':RelV v' u') (h:Den X.K H d v) (h':Den X.K H e v') (hu:A.units+d.dep+e.dep<cLine):
  SeqAt.RcAt A s u u' (d.eq e)/\SeqAt.RcNeAt A s u u' (!d.eq e):=by
 have hu':A.units<cLine:=by omega
 match d,e,h,h',hu with
 | .fl x,.fl y,h,h',hu=>
  obtain⟨rfl,f⟩:=h
  obtain⟨rfl,f'⟩:=h'
  rw [D.eq]
  exact aSk r r' f f'
 | .fl x,.tp m,h,h',hu=>
  obtain⟨rfl,f⟩:=h
  obtain⟨a,xs,rfl,hb,_⟩:=h'
  cases r'
  obtain⟨its2,r2,p2,_⟩:=I.tuple hb
  rw [show D.eq (.fl v) (.tp m)=false by simp [D.eq]]
  cases v with
  |non=>cases r;exact⟨.none_tuple p2 hu',.none_tuple p2 hu'⟩
  |bl c=>cases r;exact⟨.bool_tuple c p2 hu',.bool_tuple c p2 hu'⟩
  |int c=>obtain⟨t,rfl⟩:=r;exact⟨.int_tuple c t p2 hu',.int_tuple c t p2 hu'⟩
  |str c=>obtain⟨t,rfl⟩:=r;exact⟨.str_tuple c t p2 hu',.str_tuple c t p2 hu'⟩
  |_=>exact absurd (show false=true from f) Bool.false_ne_true
 | .fl x,.ls m,h,h',hu=>
  obtain⟨rfl,f⟩:=h
  obtain⟨a,xs,rfl,hb,_⟩:=h'
  cases r'
  obtain⟨its2,r2,p2,_⟩:=I.list hb
  rw [show D.eq (.fl v) (.ls m)=false by simp [D.eq]]
  have p2:=p2.isList
  cases v with
  |non=>cases r;exact⟨.none_list p2 hu',.none_list p2 hu'⟩
  |bl c=>cases r;exact⟨.bool_list c p2 hu',.bool_list c p2 hu'⟩
  |int c=>obtain⟨t,rfl⟩:=r;exact⟨.int_list c t p2 hu',.int_list c t p2 hu'⟩
  |str c=>obtain⟨t,rfl⟩:=r;exact⟨.str_list c t p2 hu',.str_list c t p2 hu'⟩
  |_=>exact absurd (show false=true from f) Bool.false_ne_true
 | .tp m,.fl x,h',h,hu=>
  obtain⟨rfl,f⟩:=h
  obtain⟨a,xs,rfl,hb,_⟩:=h'
  cases r
  obtain⟨its2,r2,p2,_⟩:=I.tuple hb
  rw [show D.eq (.tp m) (.fl v')=false by simp [D.eq]]
  cases v' with
  |non=>cases r';exact⟨.tuple_none p2 hu',.tuple_none p2 hu'⟩
  |bl c=>cases r';exact⟨.tuple_bool c p2 hu',.tuple_bool c p2 hu'⟩
  |int c=>obtain⟨t,rfl⟩:=r';exact⟨.tuple_int c t p2 hu',.tuple_int c t p2 hu'⟩
  |str c=>obtain⟨t,rfl⟩:=r';exact⟨.tuple_str c t p2 hu',.tuple_str c t p2 hu'⟩
  |_=>exact absurd (show false=true from f) Bool.false_ne_true
 | .ls m,.fl x,h',h,hu=>
  obtain⟨rfl,f⟩:=h
  obtain⟨a,xs,rfl,hb,_⟩:=h'
  cases r
  obtain⟨its2,r2,p2,_⟩:=I.list hb
  rw [show D.eq (.ls m) (.fl v')=false by simp [D.eq]]
  have p2:=p2.isList
  cases v' with
  |non=>cases r';exact⟨.list_none p2 hu',.list_none p2 hu'⟩
  |bl c=>cases r';exact⟨.list_bool c p2 hu',.list_bool c p2 hu'⟩
  |int c=>obtain⟨t,rfl⟩:=r';exact⟨.list_int c t p2 hu',.list_int c t p2 hu'⟩
  |str c=>obtain⟨t,rfl⟩:=r';exact⟨.list_str c t p2 hu',.list_str c t p2 hu'⟩
  |_=>exact absurd (show false=true from f) Bool.false_ne_true
 | .tp l,.ls m,h,h',hu=>
  obtain⟨a,xs,rfl,h1,_⟩:=h
  obtain⟨b,ys,rfl,h3,_⟩:=h'
  cases r
  cases r'
  obtain⟨its,r1,p1,_⟩:=I.tuple h1
  obtain⟨its2,r2,p2,_⟩:=I.list h3
  rw [show D.eq (.tp l) (.ls m)=false by simp [D.eq]]
  exact⟨.tuple_list p1 p2.isList hu',.tuple_list p1 p2.isList hu'⟩
 | .ls l,.tp m,h,h',hu=>
  obtain⟨a,xs,rfl,h1,_⟩:=h
  obtain⟨b,ys,rfl,h3,_⟩:=h'
  cases r
  cases r'
  obtain⟨its,r1,p1,_⟩:=I.list h1
  obtain⟨its2,r2,p2,_⟩:=I.tuple h3
  rw [show D.eq (.ls l) (.tp m)=false by simp [D.eq]]
  exact⟨.list_tuple p1.isList p2 hu',.list_tuple p1.isList p2 hu'⟩
 | .tp l,.tp m,h,h',hu=>
  obtain⟨a,xs,rfl,h1,h2⟩:=h
  obtain⟨b,ys,rfl,h3,h4⟩:=h'
  cases r
  cases r'
  obtain⟨its,r1,p1,_⟩:=I.tuple h1
  obtain⟨its2,r2,p2,_⟩:=I.tuple h3
  rw [D.dep,D.dep]at hu
  obtain⟨e,he,ee⟩:=rC (A:=A.in1) I l m r1 r2 h2 h4 (by show A.units+1+_+_<_;omega)
  have hj:∀j (g1:j<its.toArray.size) (g2:j<its2.toArray.size),SeqAt.EqAt A.in1 s its.toArray[j] its2.toArray[j] (e j):=fun j g1 g2=>by
   have:=he j (by simpa using g1) (by simpa using g2)
   simpa using this
  have k1:=SeqAt.RcAt.tuples p1 p2 hu' hj
  have k2:=SeqAt.RcNeAt.tuples p1 p2 hu' hj
  rw [List.size_toArray,List.size_toArray,ee]at k1 k2
  rw [D.eq]
  exact⟨k1,k2⟩
 | .ls l,.ls m,h,h',hu=>
  obtain⟨a,xs,rfl,h1,h2⟩:=h
  obtain⟨b,ys,rfl,h3,h4⟩:=h'
  cases r
  cases r'
  obtain⟨its,r1,p1,_⟩:=I.list h1
  obtain⟨its2,r2,p2,_⟩:=I.list h3
  rw [D.dep,D.dep]at hu
  obtain⟨e,he,ee⟩:=rC (A:=A.in1) I l m r1 r2 h2 h4 (by show A.units+1+_+_<_;omega)
  have hj:∀j (g1:j<its.toArray.size) (g2:j<its2.toArray.size),SeqAt.EqAt A.in1 s its.toArray[j] its2.toArray[j] (e j):=fun j g1 g2=>by
   have:=he j (by simpa using g1) (by simpa using g2)
   simpa using this
  rw [D.eq]
  by_cases hz:its.toArray.size=its2.toArray.size
  ·have k1:=SeqAt.RcAt.lists p1.isList p2.isList hz hu' hj
   have k2:=SeqAt.RcNeAt.lists p1.isList p2.isList hz hu' hj
   rw [List.size_toArray,List.size_toArray]at hz
   rw [<-hz,Nat.min_self,beq_self_eq_true,Bool.and_true]at ee
   rw [List.size_toArray,ee]at k1 k2
   exact⟨k1,k2⟩
  ·have hb':(its.length==its2.length)=false:=by simpa using hz
   rw [hb',Bool.and_false]at ee
   rw [<-ee]
   exact⟨.lists_lengths p1.isList p2.isList (by simpa using hz) hu',.lists_lengths p1.isList p2.isList (by simpa using hz) hu'⟩
theorem Den.inj (I:Inv X pins σ H s):∀(d:D) (e:D) {v:V},Den X.K H d v->Den X.K H e v->d=e:=by
 have key:∀(n:Nat) (d e:D) {v:V},d.dep<=n->Den X.K H d v->Den X.K H e v->d=e:=by
  intro n
  induction n with
  |zero=>
   intro d e v hn h h'
   match d,e,h,h',hn with
   | .fl x,.fl y,h,h',_=>rw [<-h.1, <-h'.1]
   | .fl x,.tp m,h,h',_=>obtain⟨rfl,f⟩:=h;obtain⟨a,xs,rfl,_⟩:=h';exact absurd (show false=true from f) Bool.false_ne_true
   | .fl x,.ls m,h,h',_=>obtain⟨rfl,f⟩:=h;obtain⟨a,xs,rfl,_⟩:=h';exact absurd (show false=true from f) Bool.false_ne_true
   | .tp l,_,_,_,hn=>rw [D.dep]at hn;omega
   | .ls l,_,_,_,hn=>rw [D.dep]at hn;omega
  |succ n ih=>
   have items:∀(l m:List D) {xs:List V},D.deps l<=n->uQ X.K H l xs->uQ X.K H m xs->l=m:=by
    intro l
    induction l with
    |nil=>
     intro m xs _ h h'
     cases (show xs=[]from h)
     cases m with
     |nil=>rfl
     |cons e m=>obtain⟨y,t,q,_⟩:=h';cases q
    |cons d l il=>
     intro m xs hn h h'
     obtain⟨x,t,rfl,h1,h2⟩:=h
     cases m with
     |nil=>cases (show(x::t)=[]from h')
     |cons e m=>
      obtain⟨y,t',q,h3,h4⟩:=h'
      cases q
      rw [D.deps]at hn
      have a1:=Nat.le_max_left d.dep (D.deps l)
      have a2:=Nat.le_max_right d.dep (D.deps l)
      rw [ih d e (by omega) h1 h3,il m (by omega) h2 h4]
   intro d e v hn h h'
   match d,e,h,h',hn with
   | .fl x,.fl y,h,h',_=>rw [<-h.1, <-h'.1]
   | .fl x,.tp m,h,h',_=>obtain⟨rfl,f⟩:=h;obtain⟨a,xs,rfl,_⟩:=h';exact absurd (show false=true from f) Bool.false_ne_true
   | .fl x,.ls m,h,h',_=>obtain⟨rfl,f⟩:=h;obtain⟨a,xs,rfl,_⟩:=h';exact absurd (show false=true from f) Bool.false_ne_true
   | .tp m,.fl x,h',h,_=>obtain⟨rfl,f⟩:=h;obtain⟨a,xs,rfl,_⟩:=h';exact absurd (show false=true from f) Bool.false_ne_true
   | .ls m,.fl x,h',h,_=>obtain⟨rfl,f⟩:=h;obtain⟨a,xs,rfl,_⟩:=h';exact absurd (show false=true from f) Bool.false_ne_true
   | .tp l,.ls m,h,h',_=>obtain⟨a,xs,rfl,h1,_⟩:=h;obtain⟨b,ys,e,h3,_⟩:=h';cases e;exact(I.not_both h3 h1).elim
   | .ls l,.tp m,h,h',_=>obtain⟨a,xs,rfl,h1,_⟩:=h;obtain⟨b,ys,e,h3,_⟩:=h';cases e;exact(I.not_both h1 h3).elim
   | .tp l,.tp m,h,h',hn=>
    obtain⟨a,xs,rfl,h1,h2⟩:=h
    obtain⟨b,ys,e,h3,h4⟩:=h'
    cases e
    rw [I.tuple_inj h3 h1]at h4
    rw [D.dep]at hn
    rw [items l m (by omega) h2 h4]
   | .ls l,.ls m,h,h',hn=>
    obtain⟨a,xs,rfl,h1,h2⟩:=h
    obtain⟨b,ys,e,h3,h4⟩:=h'
    cases e
    rw [I.list_inj h3 h1]at h4
    rw [D.dep]at hn
    rw [items l m (by omega) h2 h4]
 exact fun d e v h h'=>key _ d e (Nat.le_refl _) h h'
inductive aSa (K:PySem.W.Frag) (neg:Bool) (x:V) (y:V) (H:Hp) (Q:VK):Prop
 |mk (d e:_) (q0_:Den K H d x) (q1_:Den K H e y) (q2_:d.dep+e.dep<=100) (q3_:Q (.bl (if neg then !d.eq e else d.eq e)) H):aSa K neg x y H Q
def aTa (K:PySem.W.Frag) (neg:Bool):R2:=fun x y H Q=>aSa K neg x y H Q
theorem aTy (hu:X.A.units+101<cLine):OpR X (compareOp .Eq) (aTa X.K false):=by
 intro pins s σ H x y v u Q I rx ry h
 obtain⟨d,e,h1,h2,hd,q⟩:=h
 exact(aNr (A:=X.A) I d e rx ry h1 h2 (by omega)).1 _ _ _ _ ⟨.bl _,H,I,rfl,q⟩
theorem aS5 (hu:X.A.units+101<cLine):OpR X (compareOp .NotEq) (aTa X.K true):=by
 intro pins s σ H x y v u Q I rx ry h
 obtain⟨d,e,h1,h2,hd,q⟩:=h
 exact(aNr (A:=X.A) I d e rx ry h1 h2 (by omega)).2 _ _ _ _ ⟨.bl _,H,I,rfl,q⟩
inductive aRu (K:PySem.W.Frag) (neg:Bool) (x:V) (y:V) (H:Hp) (Q:VK):Prop
 |mk (d p xs l:_) (q0_:Den K H d x) (q1_:y= .ref p) (q2_:(SqL K H p xs∨SqT K H p xs)) (q3_:uQ K H l xs) (q4_:d.dep+D.deps l<=99) (q5_:Q (.bl (if neg then !(l.any fun e=>e.eq d)else l.any fun e=>e.eq d)) H):aRu K neg x y H Q
def aNv (K:PySem.W.Frag) (neg:Bool):R2:=fun x y H Q=>aRu K neg x y H Q
open Classical in
theorem oY (I:Inv X pins σ H s) {d:D} {x:V} {v:Value} (rx:RelV x v) (hx:Den X.K H d x) {A:Around}:∀{l:List D} {xs:List V} {us:List Value},Vals xs us->uQ X.K H l xs->A.units+d.dep+D.deps l<cLine->
  ∃e:Value->Bool,(e=fun w=>decide (∃d' x',RelV x' w/\Den X.K H d' x'/\d'.eq d=true))/\(∀w∈us,SeqAt.EqAt A s w v (e w))/\us.any e=l.any fun e=>e.eq d:=by
 intro l
 induction l with
 |nil=>
  intro xs us r h hu
  cases (show xs=[]from h)
  cases r
  exact⟨_,rfl,fun w hw=>(by cases hw),rfl⟩
 |cons d0 l ih=>
  intro xs us r h hu
  obtain⟨x0,t,rfl,h1,h2⟩:=h
  cases r with
  |@cons _ u0 _ us0 r0 rr=>
  rw [D.deps]at hu
  have a1:=Nat.le_max_left d0.dep (D.deps l)
  have a2:=Nat.le_max_right d0.dep (D.deps l)
  obtain⟨e,ee,i1,i2⟩:=ih rr h2 (by omega)
  have e0:e u0=d0.eq d:=by
   rw [ee]
   by_cases hq:d0.eq d=true
   ·rw [hq];exact decide_eq_true ⟨d0,x0,r0,h1,hq⟩
   ·rw [Bool.not_eq_true]at hq
    rw [hq]
    refine decide_eq_false ?_
    rintro⟨d',x',r',h',q'⟩
    cases RelV.inj r' r0
    rw [Den.inj I d' d0 h' h1,hq]at q'
    cases q'
  refine⟨e,ee,fun w hw=>?_,?_⟩
  ·rcases List.mem_cons.mp hw with rfl|hw
   ·rw [e0]
    exact aMz I d0 d r0 rx h1 hx (by omega)
   ·exact i1 w hw
  ·rw [List.any_cons,List.any_cons,i2,e0]
theorem aSr (hu:X.A.units+101<cLine):OpR X (compareOp .In) (aNv X.K false):=by
 intro pins s σ H x y v u Q I rx ry h
 obtain⟨d,p,xs,l,h1,rfl,hq,h2,hd,q⟩:=h
 cases ry
 rcases hq with hq|hq
 ·obtain⟨its,r,pl,hz⟩:=I.list hq
  obtain⟨e,_,i1,i2⟩:=oY (A:=X.A.in1) I rx h1 r h2 (by show X.A.units+1+_+_<_;omega)
  refine SeqAt.in_listAt e pl.isList (fun w hw=>i1 w (by simpa using hw)) ⟨.bl _,H,I,rfl,?_⟩
  rw [show its.toArray.any e=its.any e by simp,i2]
  exact q
 ·obtain⟨its,r,pl,hz⟩:=I.tuple hq
  obtain⟨e,_,i1,i2⟩:=oY (A:=X.A.in1) I rx h1 r h2 (by show X.A.units+1+_+_<_;omega)
  refine SeqAt.in_tupleAt e pl (fun w hw=>i1 w (by simpa using hw)) ⟨.bl _,H,I,rfl,?_⟩
  rw [show its.toArray.any e=its.any e by simp,i2]
  exact q
theorem aK6 (hu:X.A.units+101<cLine):OpR X (compareOp .NotIn) (aNv X.K true):=by
 intro pins s σ H x y v u Q I rx ry h
 obtain⟨d,p,xs,l,h1,rfl,hq,h2,hd,q⟩:=h
 cases ry
 rcases hq with hq|hq
 ·obtain⟨its,r,pl,hz⟩:=I.list hq
  obtain⟨e,_,i1,i2⟩:=oY (A:=X.A.in1) I rx h1 r h2 (by show X.A.units+1+_+_<_;omega)
  refine SeqAt.notIn_listAt e pl.isList (fun w hw=>i1 w (by simpa using hw)) ⟨.bl _,H,I,rfl,?_⟩
  rw [show its.toArray.any e=its.any e by simp,i2]
  exact q
 ·obtain⟨its,r,pl,hz⟩:=I.tuple hq
  obtain⟨e,_,i1,i2⟩:=oY (A:=X.A.in1) I rx h1 r h2 (by show X.A.units+1+_+_<_;omega)
  refine SeqAt.notIn_tupleAt e pl (fun w hw=>i1 w (by simpa using hw)) ⟨.bl _,H,I,rfl,?_⟩
  rw [show its.toArray.any e=its.any e by simp,i2]
  exact q
end
mutual
def iW (Av:Addr->Prop) (H:Hp):D->V->Prop
 | .fl x,v=>v=x/\gJ x=true
 | .tp l,v=>∃p xs,v= .ref p/\H p=some (.tup xs)/\cQ Av H l xs
 | .ls l,v=>∃p xs,v= .ref p/\¬Av p/\H p=some (.lst xs)/\cQ Av H l xs
def cQ (Av:Addr->Prop) (H:Hp):List D->List V->Prop
 | [],xs=>xs=[]
 |d::l,xs=>∃x r,xs=x::r/\iW Av H d x/\cQ Av H l r
end
section
variable {Av:Addr->Prop} {H H':Hp}
mutual
theorem iW.mono (k1:∀b xs,H b=some (.tup xs)->H' b=some (.tup xs)) (k2:∀b xs,¬Av b->H b=some (.lst xs)->H' b=some (.lst xs)):∀(d:D) {v:V},iW Av H d v->iW Av H' d v
 | .fl x,v,h=>h
 | .tp l,v,h=>by
  obtain⟨p,xs,e,hp,t⟩:=h
  exact⟨p,xs,e,k1 _ _ hp,cQ.mono k1 k2 l t⟩
 | .ls l,v,h=>by
  obtain⟨p,xs,e,n,hp,t⟩:=h
  exact⟨p,xs,e,n,k2 _ _ n hp,cQ.mono k1 k2 l t⟩
theorem cQ.mono (k1:∀b xs,H b=some (.tup xs)->H' b=some (.tup xs)) (k2:∀b xs,¬Av b->H b=some (.lst xs)->H' b=some (.lst xs)):∀(l:List D) {xs:List V},cQ Av H l xs->cQ Av H' l xs
 | [],xs,h=>h
 |d::l,xs,h=>by
  obtain⟨x,r,e,h1,h2⟩:=h
  exact⟨x,r,e,iW.mono k1 k2 d h1,cQ.mono k1 k2 l h2⟩
end
mutual
theorem iW.den (K:PySem.W.Frag):∀(d:D) {v:V},iW Av H d v->Den K H d v
 | .fl x,v,h=>h
 | .tp l,v,h=>by
  obtain⟨p,xs,e,hp,t⟩:=h
  exact⟨p,xs,e,SqT.of hp,cQ.dens K l t⟩
 | .ls l,v,h=>by
  obtain⟨p,xs,e,n,hp,t⟩:=h
  exact⟨p,xs,e,SqL.of hp,cQ.dens K l t⟩
theorem cQ.dens (K:PySem.W.Frag):∀(l:List D) {xs:List V},cQ Av H l xs->uQ K H l xs
 | [],xs,h=>h
 |d::l,xs,h=>by
  obtain⟨x,r,e,h1,h2⟩:=h
  exact⟨x,r,e,iW.den K d h1,cQ.dens K l h2⟩
end
mutual
theorem iW.weak {Bv:Addr->Prop} (k:∀b,Bv b->Av b):∀(d:D) {v:V},iW Av H d v->iW Bv H d v
 | .fl x,v,h=>h
 | .tp l,v,h=>by
  obtain⟨p,xs,e,hp,t⟩:=h
  exact⟨p,xs,e,hp,cQ.weak k l t⟩
 | .ls l,v,h=>by
  obtain⟨p,xs,e,n,hp,t⟩:=h
  exact⟨p,xs,e,fun z=>n (k p z),hp,cQ.weak k l t⟩
theorem cQ.weak {Bv:Addr->Prop} (k:∀b,Bv b->Av b):∀(l:List D) {xs:List V},cQ Av H l xs->cQ Bv H l xs
 | [],xs,h=>h
 |d::l,xs,h=>by
  obtain⟨x,r,e,h1,h2⟩:=h
  exact⟨x,r,e,iW.weak k d h1,cQ.weak k l h2⟩
end
theorem cQ.cons {d:D} {x:V} {l:List D} {xs:List V} (h:iW Av H d x) (t:cQ Av H l xs):cQ Av H (d::l) (x::xs):=⟨x,xs,rfl,h,t⟩
theorem cQ.nil:cQ Av H [] []:=rfl
mutual
theorem iW.refl:∀(d:D) {v:V},iW Av H d v->d.eq d=true
 | .fl x,v,h=>by
  rw [D.eq]
  exact aD8 h.2
 | .tp l,v,h=>by
  obtain⟨p,xs,e,hp,t⟩:=h
  rw [D.eq]
  exact cQ.refl l t
 | .ls l,v,h=>by
  obtain⟨p,xs,e,n,hp,t⟩:=h
  rw [D.eq]
  exact cQ.refl l t
theorem cQ.refl:∀(l:List D) {xs:List V},cQ Av H l xs->D.eqs l l=true
 | [],xs,h=>by rw [D.eqs]
 |d::l,xs,h=>by
  obtain⟨x,r,e,h1,h2⟩:=h
  rw [D.eqs,iW.refl d h1,cQ.refl l h2]
  rfl
end
end
theorem bF {H H1:Hp} {p:Addr} {o:HO} (h:H p=none) (e:upd H p o=H1):bA H H1/\H1 p=some o:=by
 subst e
 refine⟨fun b u q=>?_,aF⟩
 rw [aX (bR q h)]
 exact q
section
variable {X:Cx} {Av:Addr->Prop}
end
structure Cal (P:Program) (w:World) (K:PySem.W.Frag) (mg:Str->Option Value) (base:Heap) (CX:CXT) (k:Nat) (x:Str) (ps:List Str) (sp:Sp):Prop where
 ex:∃f fd,bC P w K mg base CX k f fd ps sp/\mg x=some (.ref f)/\PySem.W.keepIn K (.ref f)=true/\Binds K fd ps []
theorem cV {X:Cx} {CX:CXT} {k:Nat} {x:Str} {ps:List Str} {sp:Sp} {E:XK} {e:Expr} {es:List Expr} {t:TA} {p pos:Pos} (C:Cal X.prog X.w X.K X.mg X.base CX k x ps sp) (hr:eU k X.A) (hg:Gl X x) (hx:kO CX X E)
  (ha:PA X (e::es) t) (hdb:(x==("__debug__":Str))=false:=by decide) (he:starEach (e::es) X.env=(false,eval e X.env)::starEach es X.env:=by rfl) (hpl:(backTo pos (starEach es X.env)).any (·.1)=false:=by rfl):
  PE X (.Call (.Name x p) (e::es) [] pos) (aRv sp [] E t):=by
 obtain⟨f,fd,F,hm,hk,hb⟩:=C.ex
 exact aPi F hr hg hm hk hb .nil hx ha hdb he hpl
abbrev aN0 (scope sc0:Scope) (cap:List (Str×Nat)) (N:List Str):Prop:=scope.kind= .function/\(∀y∈scope.names,y.2≠ .cell)/\(∀y∈scope.names,y.2= .local->scope.names.lookup y.1=some .local)/\
 (∀y∈scope.names,y.2= .free->sc0.names.lookup y.1=some .cell)/\(∀p∈cap,N[p.2]? =some p.1/\scope.names.lookup p.1=some .free/\sc0.names.lookup p.1=some .cell)
section
variable {X:Cx}
theorem aUk {scope:Scope} {cap:List (Str×Nat)} {sc0:Scope} {N0:List Str} (hs:X.env.scope=sc0) (hN:X.N=N0) (hcell:∀x,X.env.scope.names.lookup x=some .cell->∃c,X.env.cells.lookup x=some c) (ok:aN0 scope sc0 cap N0):∃cl,gA X scope cap cl:=by
 subst hs hN
 exact aGk hcell ok.1 ok.2.1 ok.2.2.1 ok.2.2.2.1 ok.2.2.2.2
theorem pM {elt iter tg:Expr} {scope:Scope} {own:List Str} {cap:List (Str×Nat)} {pos:Pos} {wi:TI} {g:TG} {te:TE} (sc0:Scope) (N0:List Str) (hsc:X.env.scope=sc0) (hN:X.N=N0) (hcell:∀x,X.env.scope.names.lookup x=some .cell->∃c,X.env.cells.lookup x=some c)
  (ok:aN0 scope sc0 cap N0) (hc:X.calm=true) (hi:PI X tg iter wi)
  (hg:∀cl C s2 H2 fp,PG (oR X (rP own cap) scope cl C s2 H2 fp) tg g) (he:∀cl C s2 H2 fp,PE (oR X (rP own cap) scope cl C s2 H2 fp) elt te)
  (hs:∀x,foldedSetIterable iter X.env x=pure x:=by intro _;rfl):PE X (.ListComp elt [⟨tg,iter,[],0⟩] scope pos) (aRr own.length cap wi g te):=by
 obtain⟨cl,S⟩:=aUk hsc hN hcell ok
 exact aQ6 S hc hi (hg cl) (he cl) hs
end
section
variable {X:Cx} {pins:List (Addr×Obj)} {σ:St} {s2:Shared} {H2:Hp}
end
section
variable {X:Cx}
end
section
variable {X:Cx}
end
section
variable {X:Cx} {B:St->Hp->Prop} {R:Hp->V->Prop}
end
section
variable {X:Cx}
def aUt (_ j:Int):Prop:=0<j/\j<2 ^ 62
theorem qJ:OpR X (binaryOp .FloorDiv) (rI aUt fun i j=> .int (i / j)):=opI fun i j _ _ _ _ _ hc q=>by
 have h1:(0:Int)<j:=hc.1
 have h2:j<2 ^ 62:=hc.2
 refine floordiv_int (by omega) (by rw [Int.fdiv_eq_ediv_of_nonneg i (by omega)];exact q) (.inl (PyProof.noPylong_of_log2 ?_))
 have h3:j.natAbs<2 ^ 62:=by omega
 have:=(Nat.log2_lt (by omega)).mpr h3
 omega
end
section
variable {X:Cx} {K:PySem.W.Frag}
end
section
variable {prog:Program} {w:World} {A:Around} {E:Value->Shared->Prop} {s:Shared} {K:PySem.W.Frag} {x C:Addr}
def cM:List Value:=[.type "ValueError",.type "Exception",.type "BaseException",.type "object"]
def aF8:List Value->Bool
 | .ref _::r=>aF8 r
 |l=>l==cM
theorem uI (self:Value):∀{l:List Value},aF8 l=true->refuseLoop self "__setattr__" l=pure ()/\l.contains (.type "object")=true/\l.isEmpty=false
 | [],e=>by cases (show([]==cM)=true from e)
 |v::r,e=>by
  cases v with
  |ref c=>
   have ih:=uI self (l:=r) e
   refine⟨by rw [refuseLoop_ref];exact ih.1,?_,rfl⟩
   rw [List.contains_cons,ih.2.1,Bool.or_true]
  |type n=>
   have q:(Value.type n::r)=cM:=beq_iff_eq.mp (show((Value.type n::r)==cM)=true from e)
   rw [q]
   exact⟨PySem.F.store_ValueError.passes self,by decide,rfl⟩
  |none=>have q:(Value.none::r)=cM:=beq_iff_eq.mp (show((Value.none::r)==cM)=true from e);cases q
  |ellipsis=>have q:(Value.ellipsis::r)=cM:=beq_iff_eq.mp (show((Value.ellipsis::r)==cM)=true from e);cases q
  |notImplemented=>have q:(Value.notImplemented::r)=cM:=beq_iff_eq.mp (show((Value.notImplemented::r)==cM)=true from e);cases q
  |bool z=>have q:(Value.bool z::r)=cM:=beq_iff_eq.mp (show((Value.bool z::r)==cM)=true from e);cases q
  |int z u=>have q:(Value.int z u::r)=cM:=beq_iff_eq.mp (show((Value.int z u::r)==cM)=true from e);cases q
  |float z u=>have q:(Value.float z u::r)=cM:=beq_iff_eq.mp (show((Value.float z u::r)==cM)=true from e);cases q
  |str z u=>have q:(Value.str z u::r)=cM:=beq_iff_eq.mp (show((Value.str z u::r)==cM)=true from e);cases q
  |bytes z u=>have q:(Value.bytes z u::r)=cM:=beq_iff_eq.mp (show((Value.bytes z u::r)==cM)=true from e);cases q
  |builtin z=>have q:(Value.builtin z::r)=cM:=beq_iff_eq.mp (show((Value.builtin z::r)==cM)=true from e);cases q
def aNd (K:PySem.W.Frag) (C:Addr):Bool:=(PySem.W.clsIn K C).any fun cd=>aF8 cd.mro
theorem aQ7 {ox:Obj} {od:Option Obj} {name:Str} {tk:Tok} {v:Value} {R:Result->Shared->Prop} (X:K.In s.heap) (I:PySem.W.InstAt s.heap x ox C od) (hp:aNd K C=true) (ht:PySem.W.takerIn K C name=some none)
  (h:∀b,wpAny (model prog w) A.in1 (Builtin.ObjectAttr.storeInOwnDict (.ref x) (.ref C) (.str name tk) name v b)
   (fun fin s'=>match fin with| .done f=>R (.ok f) s'| .again c'=>c'.quiet=true/\codeAny (model prog w) A c' R s') (fun e s'=>R (.error e) s') s):
  codeAny (model prog w) A (.call (.builtin "object.__setattr__") ⟨[.ref x,.str name tk,v],[]⟩) R s:=by
 have SF:=PySem.F.store_object
 obtain⟨cd,hc,ho⟩:=PySem.W.any_some hp
 obtain⟨pass,has,ne⟩:=uI (.ref x) ho
 have sub:PySem.W.Looks (model prog w) s.heap (isInstance (.ref x) (.type "object")) true:=I.type.andThen (PySem.W.looks_mroIn X (by unfold PySem.W.mroIn;rw [hc,Option.bind_some,if_neg (by rw [ne];decide),has]))
 refine codeAny_call_builtin SF.slot.plain SF.entry (@PySem.W.check_slot (model prog w) _ _ s "object.__setattr__" "object" "__setattr__" (.ref x) [.str name tk,v] [] _ SF.kind SF.split sub (SF.args (.ref x) (.str name tk) v) ?_)
 obtain⟨attr,ha,hr⟩:=Option.bind_eq_some_iff.mp ht
 have hm:PySem.W.Looks (model prog w) s.heap (mroOf (.ref C)) cd.mro:=(PySem.W.looks_clsIn X hc).andThen .now
 have L3:PySem.W.Looks (model prog w) s.heap (Builtin.ObjectAttr.storeTaker? attr) none:=by
  cases attr with
  |none=>exact .now
  |some a=>
   obtain⟨b,hb,e⟩:=Option.map_eq_some_iff.mp hr
   refine(PySem.W.looks_takesIn X hb).andThen ?_
   cases b
   ·exact .now
   ·cases e
 rw [PySem.W.osa_eq,refuse_eq]
 refine wpAny_bind (wpAny_bind (I.type.here (wpAny_bind (hm.here ?_))));rw [pass]
 refine wpAny_pure (wpAny_bind (I.type.here (wpAny_bind ((PySem.W.looks_findIn X ha).here (wpAny_bind (L3.here ?_))))))
 exact h _
theorem aQr {ox:Obj} {name:Str} {v:Value} {Q:Unit->Shared->Prop} (X:K.In s.heap) (hx:s.heap.get? x=some ox) (hcl:ox.cls= .ref C) (hnc:∀c,ox.data≠ .cls c) (hdn:ox.dict=none)
  (hs:PySem.W.findIn K (.ref C) "__setattr__"=some (some (.builtin "object.__setattr__"))) (hp:aNd K C=true) (ht:PySem.W.takerIn K C name=some none) (hh:PySem.W.hasDictIn K C=true)
  (h:∀h',h'.get? x=some {ox with dict:=some s.heap.objs.size}->h'.Ns1 s.heap.objs.size (fun y=>if y=name then some v else none)->s.heap.objs.size<h'.objs.size->(∀b o,b≠x->s.heap.get? b=some o->h'.get? b=some o)->Q () {s with heap:=h',toks:=s.toks+2}):
  wpAny (model prog w) A (setAttr (.ref x) name v) Q E s:=by
 have hno:PySem.W.notCls ox=true:=by
  unfold PySem.W.notCls
  cases e:ox.data with
  |cls c=>exact absurd e (hnc c)
  |_=>rfl
 have I:PySem.W.InstAt s.heap x ox C none:=⟨hx,hcl,hno,by rw [hdn];trivial⟩
 obtain⟨hp0,gg,dw,tt,oo⟩:=s
 refine PySem.W.set_plain X I hs (aQ7 (s:=⟨hp0,gg,dw,tt+1,oo⟩) X I hp ht fun b=>?_)
 obtain⟨cd,hc,hd'⟩:=PySem.W.any_some hh
 obtain⟨oc,odi,oda,osl⟩:=ox
 have e1:oc= .ref C:=hcl
 have e2:odi=none:=hdn
 subst e1 e2
 refine wpAny_bind (wpAny_pure (wpAny_bind (wpAny_bind (wpAny_loadPart hx ?_))))
 refine wpAny_bind (PySem.W.Looks.here (s:=⟨hp0,gg,dw,tt+1,oo⟩) (PySem.W.looks_clsIn X hc) ?_)
 rw [hd']
 have hx1:(hp0.push {cls:= .type "dict",data:= .dict #[]}).get? x=some ⟨.ref C,none,oda,osl⟩:=Heap.get?_push_of_some _ hx
 have hxs:x≠hp0.objs.size:=Nat.ne_of_lt (Heap.lt_size hx)
 have go:wpAny (model prog w) A.in1 (do let d<-alloc {cls:=Value.type "dict",data:=Data.dict #[]};update x fun o=>{cls:=o.cls,dict:=some d,data:=o.data,slots:=o.slots};dictMade (.ref C) x d)
   (fun a s'=>a=some hp0.objs.size/\s'=⟨(hp0.push {cls:= .type "dict",data:= .dict #[]}).update x fun o=>{cls:=o.cls,dict:=some hp0.objs.size,data:=o.data,slots:=o.slots},gg,dw,tt+1,oo⟩)
   (fun _ _=>False) ⟨hp0,gg,dw,tt+1,oo⟩:=wpAny_bind (wpAny_alloc' (wpAny_bind (wpAny_update' hx1 (wpAny_pure ⟨rfl,rfl⟩))))
 have step:wpAny (model prog w) A.in1 (match oda with
   | .cls _=>pure none
   |_=>do let d<-alloc {cls:=Value.type "dict",data:=Data.dict #[]};update x fun o=>{cls:=o.cls,dict:=some d,data:=o.data,slots:=o.slots};dictMade (.ref C) x d)
   (fun a s'=>a=some hp0.objs.size/\s'=⟨(hp0.push {cls:= .type "dict",data:= .dict #[]}).update x fun o=>{cls:=o.cls,dict:=some hp0.objs.size,data:=o.data,slots:=o.slots},gg,dw,tt+1,oo⟩)
   (fun _ _=>False) ⟨hp0,gg,dw,tt+1,oo⟩:=by
  cases oda with
  |cls c=>exact absurd rfl (hnc c)
  |_=>exact go
 refine wpAny_mono step (fun a s' ⟨ea,es⟩=>?_) fun _ _ z=>z.elim
 subst ea es
 have hfr:(⟨.ref C,some hp0.objs.size,oda,osl⟩:Obj).isFreed=false:=by
  have:=(Heap.get?_some_iff.mp hx).2
  cases oda<;>first|rfl|exact this
 have hgd:((hp0.push {cls:= .type "dict",data:= .dict #[]}).update x fun o=>{cls:=o.cls,dict:=some hp0.objs.size,data:=o.data,slots:=o.slots}).get? hp0.objs.size=some {cls:= .type "dict",data:= .dict #[]}:=
  (Heap.get?_update_ne _ _ _ _ hxs.symm).trans (Heap.get?_push_at rfl rfl)
 have hnd:((hp0.push {cls:= .type "dict",data:= .dict #[]}).update x fun o=>{cls:=o.cls,dict:=some hp0.objs.size,data:=o.data,slots:=o.slots}).Ns hp0.objs.size (fun _=>none):=⟨_, #[],_,hgd,rfl,fun e he=>absurd he (by simp),fun _=>rfl⟩
 show wpAny _ _ (Builtin.ObjectAttr.storeInDict hp0.objs.size (.str name tt) name v) _ _ _
 unfold Builtin.ObjectAttr.storeInDict Builtin.ObjectAttr.newKeyGuard
 refine wpAny_bind (wpAny_pure (wpAny_bind (wpAny_nsSet1 (Heap.Ns1.of_empty hnd) fun h' hn' hsb=>?_)))
 obtain⟨oD,esD,epD,hoD,hdD,hcD⟩:=hn'.count (PySem.Within.cons name v PySem.Within.nil)
 refine wpAny_bind (wpAny_lookBehind hoD (by rw [hdD];exact pastItsLine_dict (Nat.le_trans hcD (by rw [List.length_cons,List.length_nil,sizeLine_eq];omega))) ?_)
 refine wpAny_pure (h h' ?_ hn' (Heap.lt_size hoD) fun b o hb eb=>?_)
 ·exact(hsb.2 x hxs).trans (Heap.get?_update_self _ hx1 hfr)
 ·exact(hsb.2 b (Nat.ne_of_lt (Heap.lt_size eb))).trans ((Heap.get?_update_ne _ _ _ _ hb).trans (Heap.get?_push_of_some _ eb))
end
section
variable {prog:Program} {w:World} {A:Around} {E:Value->Shared->Prop} {s:Shared} {K:PySem.W.Frag} {x C:Addr}
theorem aOj {nm qn:Str} {N:Addr} {bs bm:List Value} {hdct:Bool} {sn:List Str} {sub:List Value} {ab:Bool} {col:Option Bool} {dd:Option Addr} {k0 k1 k2 k3 k5:Option Value} {newId:String} {ox:Obj} {v:Value} {M:Model} {Q:Unit->Shared->Prop}
  {hp:Heap} {gg:Array GenState} {dw:Drawn} {tt:Nat} {oo:OsState}
  (hC:hp.get? C=some (excClassObj nm qn C N bs bm hdct sn sub ab col dd k0 k1 k2 k3 k5 newId)) (hbm:bm.contains (.type "ValueError")=true) (hx:hp.get? x=some ox) (hcl:ox.cls= .ref C) (hq:Q () ⟨hp,gg,dw,tt,oo⟩):
  wpAny M A (checkBuiltinCall "ValueError.__init__" ⟨[.ref x,v],[]⟩) Q E ⟨hp,gg,dw,tt,oo⟩:=by
 have F:=PySem.F.excCall_ValueError
 have has:(Value.ref C::bm).contains (.type "ValueError")=true:=by rw [List.contains_cons,hbm,Bool.or_true]
 have hshort:=F.noStar
 simp only [checkBuiltinCall,F.initKind,F.initSplit,F.initRow]
 unfold isInstance
 repeat (first|(with_reducible refine wpAny_loadPart_at hx ?_;rw [hcl])|(with_reducible refine wpAny_isSubtype_exc hC ?_;rw [has])|with_reducible refine wpAny_loadPart_at hC ?_ |wp_step)
 exact hq
theorem aQs {ox:Obj} {vs:Array Value} {v:Value} {Q:Value->Shared->Prop} (X:K.In s.heap) (hx:s.heap.get? x=some ox) (hcl:ox.cls= .ref C) (hd:ox.data= .fields vs) (hsz:vs.size=6)
  (hm:PySem.W.ktsIn K C "ValueError"=true)
  (h:∀(h':Heap) (vs':Array Value),h'.get? x=some {ox with data:= .fields vs'}->vs'.size=6->vs'[1]? =vs[1]? ->(∀b o,b≠x->s.heap.get? b=some o->h'.get? b=some o)->Q .none {s with heap:=h'}):
  wpAny (model prog w) A (call (.builtin "ValueError.__init__") [.ref x,v]) Q E s:=by
 have F:=PySem.F.excCall_ValueError
 obtain⟨nm,qn,N,bs,bm,hdct,sn,sub,ab,col,dd,k0,k1,k2,k3,k5,newId,hC,_,hbm⟩:=PySem.W.kts_cls X hm
 obtain⟨hp0,gg,dw,tt,oo⟩:=s
 refine wpAny_call (codeAny_call_builtin F.init.plain F.initEntry (aOj hC hbm hx hcl ?_))
 have hx1:(hp0.push {cls:= .type "tuple",data:= .seq [v].toArray}).get? x=some ox:=Heap.get?_push_of_some _ hx
 have h0:∃a0,vs[0]? =some a0:=⟨vs[0],by simp [hsz]⟩
 obtain⟨a0,h0⟩:=h0
 show wpAny _ _ (do let t<-newTuple [v];Builtin.BaseException.bexcPut (.ref x) 0 t;ret .none) _ _ _
 refine wpAny_bind (wpAny_newTuple (wpAny_bind ?_))
 unfold Builtin.BaseException.bexcPut
 refine wpAny_bind (wpAny_field hx1 hd h0 (wpAny_bind (wpAny_setField hx1 hd (by omega) ?_)))
 have hd2:=Obj.data_mapFields hd (·.setIfInBounds 0 (Value.ref hp0.objs.size))
 have hx2:=Heap.get?_update_self (Obj.mapFields (·.setIfInBounds 0 (Value.ref hp0.objs.size))) hx1 (Obj.isFreed_of_fields hd2)
 have fin:Q .none ⟨(hp0.push {cls:= .type "tuple",data:= .seq [v].toArray}).update x (Obj.mapFields (·.setIfInBounds 0 (Value.ref hp0.objs.size))),gg,dw,tt,oo⟩:=by
  refine h _ (vs.setIfInBounds 0 (Value.ref hp0.objs.size)) ?_ (by simp [hsz]) (by simp) fun b o hb eb=>?_
  ·rw [hx2]
   congr 1
   obtain⟨oc,od,oda,osl⟩:=ox
   have e:oda= .fields vs:=hd
   subst e
   rfl
  ·rw [Heap.get?_update_other _ _ (Ne.symm hb)]
   exact Heap.get?_push_of_some _ eb
 cases a0<;>first|exact wpAny_pure (wpAny_pure fin)|exact wpAny_letGo (wpAny_pure fin)
end
def nM (e C:Addr) (od:Option Addr):HO:= .ext fun h=>∃vs sl,h.get? e=some ⟨.ref C,od,.fields vs,sl⟩/\vs.size=6/\vs[1]? =some .none
theorem aBh {P:Program} {w:World} {H:Hp} {h:Heap} {e C:Addr} {od:Option Addr} {vs:Array Value} {sl:Array (Option Value)} (hx:h.get? e=some ⟨.ref C,od,.fields vs,sl⟩) (hs:vs.size=6) (h1:vs[1]? =some .none):cY P w H h e (nM e C od):=
 ⟨⟨vs,sl,hx,hs,h1⟩,⟨_,hx⟩,fun h1 h2 ⟨vs,sl,a,b,c⟩ k=>⟨vs,sl,k _ a,b,c⟩⟩
theorem aOz {H:Hp} {a:Addr} {o:HO} (h:H a=some o):upd H a o=H:=by
 funext b
 by_cases e:b=a
 ·subst e;rw [aF,h]
 ·rw [aX e]
section
variable {X:Cx} {a b:Expr} {ta tb:TE} {p apos pos:Pos}
theorem aRc:(PySem.W.findIn [] (.type "type") "__getattribute__")=some (some (.builtin "type.__getattribute__")):=by decide+kernel
theorem aMe (K:PySem.W.Frag):PySem.W.findCls K (.type "ValueError") (.type "type") "__init__"=some (.val (.builtin "ValueError.__init__")):=by
 have:PySem.W.findCls [] (.type "ValueError") (.type "type") "__init__"=some (.val (.builtin "ValueError.__init__")):=by kernel_rfl
 exact this
theorem aKn {prog:Program} {w:World} {A:Around} {E:Value->Shared->Prop} {s:Shared} {K:PySem.W.Frag} {pl:Sem Bool} {Q:Value×List Value->Shared->Prop} (X:K.In s.heap) (h:Q (.builtin "ValueError.__init__",[]) {s with toks:=s.toks+1}):
  wpAny (model prog w) A (getMethod (.type "ValueError") "__init__" pl) Q E s:=by
 have hs:Manifest.isStub "ValueError"=false:=by decide+kernel
 have ht:typeOf (.type "ValueError")=pure (.type "type"):=by kernel_rfl
 have hstub:opaqueClassAbove (.type "ValueError")=pure none:=by unfold opaqueClassAbove;dsimp only;rw [hs];rfl
 have L0:PySem.W.Looks (model prog w) s.heap (typeOf (.type "ValueError")) (.type "type"):=PySem.W.Looks.of_pure ht
 have hg:PySem.W.findIn K (.type "type") "__getattribute__"=some (some (.builtin "type.__getattribute__")):=aRc
 unfold getMethod specialOf
 refine wpAny_bind (wpAny_bind (L0.here ((PySem.W.looks_findIn X hg).here ?_)))
 dsimp only
 rw [if_pos PySem.W.canon_tga]
 refine wpAny_bind (wpAny_mono (Q:=fun v=>Q (v,[])) (E:=E) ?_ (fun _ _ z=>wpAny_pure z) fun _ _ z=>z)
 have LO:PySem.W.Looks (model prog w) s.heap (opaqueClassAbove (.type "ValueError")) none:=PySem.W.Looks.of_pure hstub
 refine PySem.W.cls_open X LO L0 hg (PySem.W.looks_hook X (r:=none) (by rfl)) (by show PySem.W.subIn K _ _=_;rfl) (aMe K) (wpAny_pure ?_)
 show wpAny _ _ (handedOut (.builtin "ValueError.__init__")) _ _ _
 rw [PySem.W.handedOut_of (show PySem.W.handedIn (.builtin "ValueError.__init__")=true by decide+kernel)]
 exact wpAny_pure h
def tVe (K:PySem.W.Frag) (t:TA):TE:=fun σ H Q=>t σ H fun vs H2=>∃e C y od,vs=[.ref e,y]/\H2 e=some (nM e C od)/\PySem.W.ktsIn K C "ValueError"=true/\Q .non H2
theorem aVc {t:TA} {pl:Sem Bool} (hg:Gl X "ValueError") (hm:X.mg "ValueError"=none) (ha:PA X [a,b] t) (hs:starEach [a,b] X.env=[(false,eval a X.env),(false,eval b X.env)]:=by rfl)
  (he:eval (.Call (.Attribute (.Name "ValueError" p) "__init__" apos) [a,b] [] pos) X.env=(do
   let ov<-eval (.Name "ValueError" p) X.env
   standAt apos.atName
   let(f,first)<-holding [ov] (getMethod ov "__init__" pl)
   callWith pos f first (backTo pos (starEach [a,b] X.env)) (backToKw pos (keywordEach [] X.env))):=by rfl):
  PE X (.Call (.Attribute (.Name "ValueError" p) "__init__" apos) [a,b] [] pos) (tVe X.K t):=by
 intro pins s σ H Q I h
 have hv:bootBuiltins "ValueError"=some (.type "ValueError"):=by decide+kernel
 have hn:PE X (.Name "ValueError" p) (tC (.ty "ValueError")):=aHg (v:= .ty "ValueError") hg hm hv rfl (by decide) (by decide)
 refine PySem.W.methodCall_KW (pl:=pl) (thn (hn pins s σ H (fun x H1=>x= .ty "ValueError"/\H1=H) I ⟨rfl,rfl⟩) fun u s1 ⟨x,H1,I1,rx,e1,e2⟩=>?_) he
 subst e1 e2
 obtain rfl:u=Value.type "ValueError":=rx
 refine aKn I1.kIn ?_
 have I2:=I1.tok (s1.toks+1)
 have hA:=ha pos pins _ σ H1 _ I2 h
 rw [hs]at hA
 show wpAny _ _ (callWith pos (.builtin "ValueError.__init__") [] (backTo pos (starEach [a,b] X.env)) (backToKw pos (keywordEach [] X.env))) _ _ _
 rw [hs]
 refine Calls.callWith_builtin rfl (Calls.evalArgs_plain ?_)
 refine thn hA fun us s2 ⟨vs,H2,I3,r2,e,C,y,od,ev,hH,hk,q⟩=>?_
 subst ev
 obtain⟨u1,u2,rfl,r1,ry⟩:=r2.two
 cases r1
 obtain⟨⟨ws,sl,hx,hsz,h1⟩,_,_⟩:=I3.hok e _ hH
 refine aQs I3.kIn hx rfl rfl hsz hk fun h' vs' hx' hsz' h1' keep=>?_
 have J:=I3.write (x:=e) (e:=e) (o:=nM e C od) (h':=h') (t':=s2.toks) (by rw [hH];exact True.intro) (.inl rfl) (fun b o hb eb=>keep b o hb eb) ⟨_,hx'⟩ (aBh hx' hsz' (by rw [h1',h1]))
 rw [aOz hH]at J
 exact⟨.non,H2,J,rfl,q⟩
structure pU (K:PySem.W.Frag) (C:Addr):Prop where
 sa:PySem.W.findIn K (.ref C) "__setattr__"=some (some (.builtin "object.__setattr__"))
 over:aNd K C=true
 hd:PySem.W.hasDictIn K C=true
 kts:PySem.W.ktsIn K C "ValueError"=true
def aQ1 (K:PySem.W.Frag) (f:Str) (to tv:TE):TS:=fun D σ H=>tv σ H fun y H1=>to σ H1 fun x H2=>∃e C,x= .ref e/\H2 e=some (nM e C none)/\pU K C/\PySem.W.takerIn K C f=some none/\
 ∀dx,H2 dx=none->dx≠e->D.nx σ (upd (upd H2 dx (.xd [(f,y)])) e (nM e C (some dx)))
theorem aJd {o value:Expr} {to tv:TE} {f:Str} {pos':Pos} (ho:PE X o to) (hv:PE X value tv) (hs:swapsWith value (some (.Attribute o f pos')) pos.line X.env=pure false):PS X (.Assign [.Attribute o f pos'] value pos) (aQ1 X.K f to tv):=by
 intro pins s σ H D I h
 refine plainObj_wpAny_Assign_Attribute (thn (hv pins s σ H _ I h) fun u s1 ⟨y,H1,I1,ry,q⟩=>thn (ho pins s1 σ H1 _ I1 q) fun ov s2 ⟨x,H2,I2,rx,e,C,ex,hH,c,tk,q2⟩=>?_) hs
 subst ex
 obtain rfl:ov=Value.ref e:=rx
 obtain⟨⟨ws,sl,hx,hsz,h1⟩,_,_⟩:=I2.hok e _ hH
 have hxs:s2.heap.objs.size≠e:=Ne.symm (Nat.ne_of_lt (Heap.lt_size hx))
 refine aQr I2.kIn hx rfl (fun c z=>by cases z) rfl c.sa c.over tk c.hd fun h' hx' hn hlt keep=>?_
 have hfr:(⟨.ref C,none,.fields ws,sl⟩:Obj).isFreed=false:=rfl
 have he:(h'.update e fun _=>⟨.ref C,none,.fields ws,sl⟩).get? e=some ⟨.ref C,none,.fields ws,sl⟩:=Heap.get?_update_self (fun _=>⟨.ref C,none,.fields ws,sl⟩) hx' hfr
 have ho:∀b,b≠e->(h'.update e fun _=>⟨.ref C,none,.fields ws,sl⟩).get? b=h'.get? b:=fun b hb=>Heap.get?_update_other _ _ (Ne.symm hb)
 have J1:=I2.laid (a:=s2.heap.objs.size) (o:= .xd [(f,y)]) (h':=h'.update e fun _=>⟨.ref C,none,.fields ws,sl⟩) (t':=s2.toks+2) (fun b o eb=>by
  by_cases hb:b=e
  ·subst hb;rw [he, <-eb,hx]
  ·rw [ho b hb];exact keep b o hb eb) (Nat.le_refl _) ⟨fun z=>if z=f then some u else none,by
   obtain⟨o',es,ep,e1,e2⟩:=hn
   exact⟨o',es,ep,(ho _ hxs).trans e1,e2⟩,fun z=>by
   show oK (List.lookup z [(f,y)]) (if z=f then some u else none)
   by_cases hz:z=f
   ·have hb:(z==f)=true:=beq_iff_eq.mpr hz
    simp only [List.lookup,hb,if_pos hz]
    exact ry
   ·have hb:(z==f)=false:=beq_eq_false_iff_ne.mpr hz
    simp only [List.lookup,hb,if_neg hz]
    trivial⟩
 have hH':upd H2 s2.heap.objs.size (.xd [(f,y)]) e=some (nM e C none):=by rw [aX (Ne.symm hxs)];exact hH
 have J2:=J1.write (x:=e) (e:=e) (o:=nM e C (some s2.heap.objs.size)) (h':=h') (t':=s2.toks+2) (by rw [hH'];exact True.intro) (.inl rfl) (fun b o hb eb=>(ho b hb).symm.trans eb) ⟨_,hx'⟩ (aBh hx' hsz h1)
 exact⟨σ,_,J2,q2 _ (I2.hok.fresh (Nat.le_refl _)) hxs⟩
end
def excIn (K:PySem.W.Frag) (C:Addr):Bool:=match K.lookup C with
 |some ⟨.type "type",_,.cls cd,sl⟩=>(match cd.mro,sl.toList with
  | .ref C'::bm,[_,_,_,_,some (.builtin n),_]=>C'==C && !cd.hasDel && bm.contains (.type "BaseException") && bm.contains (.type "ValueError") && !bm.contains (.type "AttributeError") && !bm.contains (.type "NameError") && n=="ValueError.__new__"
  |_,_=>false)
 |_=>false
theorem mK {K:PySem.W.Frag} {h:Heap} {C:Addr} (X:K.In h) (q:excIn K C=true):∃nm qn N bs bm hdct sn sub ab col dd k0 k1 k2 k3 k5,
  h.get? C=some (excClassObj nm qn C N bs bm hdct sn sub ab col dd k0 k1 k2 k3 k5 "ValueError.__new__")/\bm.contains (.type "BaseException")=true/\bm.contains (.type "ValueError")=true/\bm.contains (.type "AttributeError")=false/\bm.contains (.type "NameError")=false:=by
 unfold excIn at q
 split at q
 ·rename_i dd cd sl ho
  split at q
  ·rename_i C' bm k0 k1 k2 k3 n k5 hm hs
   simp only [Bool.and_eq_true,beq_iff_eq,Bool.not_eq_true']at q
   obtain⟨⟨⟨⟨⟨⟨rfl,hdel⟩,hb⟩,hv⟩,ha⟩,hn⟩,rfl⟩:=q
   obtain⟨nm,bs,mro,ns,qn,hd,sn,sub,ab,col,del⟩:=cd
   dsimp only at hm hdel
   subst hm hdel
   have hsl:sl= #[k0,k1,k2,k3,some (.builtin "ValueError.__new__"),k5]:=by
    obtain⟨l⟩:=sl
    simp only at hs
    rw [hs]
   subst hsl
   exact⟨nm,qn,ns,bs,bm,hd,sn,sub,ab,col,dd,k0,k1,k2,k3,k5,X _ _ ho,hb,hv,ha,hn⟩
  ·cases q
 ·cases q
section
variable {prog:Program} {w:World} {A:Around} {E:Value->Shared->Prop} {hp:Heap} {gg:Array GenState} {dw:Drawn} {tt:Nat} {oo:OsState}
variable {nm qn:Str} {C N:Addr} {bs bm:List Value} {hdct:Bool} {sn:List Str} {sub:List Value} {ab:Bool} {col:Option Bool} {dd:Option Addr} {k0 k1 k2 k3 k5:Option Value}
theorem aJc {M:Model} {rest:List Value} {Q:Unit->Shared->Prop} (hC:hp.get? C=some (excClassObj nm qn C N bs bm hdct sn sub ab col dd k0 k1 k2 k3 k5 "ValueError.__new__")) (hv:bm.contains (.type "ValueError")=true)
  (hq:Q () ⟨hp,gg,dw,tt,oo⟩):wpAny M A (checkBuiltinCall "ValueError.__new__" ⟨.ref C::rest,[]⟩) Q E ⟨hp,gg,dw,tt,oo⟩:=by
 have Fn:=PySem.F.excBase_ValueError
 have has:(Value.ref C::bm).contains (.type "ValueError")=true:=by rw [List.contains_cons,hv,Bool.or_true]
 have star:=Fn.noStar
 simp only [checkBuiltinCall,Fn.newKind,Fn.newSplit,Fn.newRow]
 repeat (first|refine wpAny_loadPart_at hC ?_ |(refine wpAny_isSubtype_exc hC ?_;rw [has])|refine wpAny_staticBase_exc hC ?_ |refine wpAny_madeBy_exc hC ?_ |simp only [bne_self_eq_false,Bool.false_eq_true,if_false]|wp_step)
 exact hq
theorem aP3 {R:Result->Shared->Prop} {rest:List Value} (hC:hp.get? C=some (excClassObj nm qn C N bs bm hdct sn sub ab col dd k0 k1 k2 k3 k5 "ValueError.__new__"))
  (hv:bm.contains (.type "ValueError")=true) (ha:bm.contains (.type "AttributeError")=false) (hn:bm.contains (.type "NameError")=false)
  (hq:R (.ok (.ret (.ref (hp.objs.size+1)))) ⟨(hp.push {cls:= .type "tuple",data:= .seq rest.toArray}).push {cls:= .ref C,data:= .fields #[.ref hp.objs.size,.none,.none,.none,.bool false,.none]},gg,dw,tt,oo⟩) (hrest:rest.length<=sizeLine):
  codeAny (model prog w) A (.builtin "ValueError.__new__" ⟨.ref C::rest,[]⟩) R ⟨hp,gg,dw,tt,oo⟩:=by
 have Fn:=PySem.F.excBase_ValueError
 have ends:=Fn.ends
 have hcV:(Value.ref C::bm).contains (.type "ValueError")=true:=by rw [List.contains_cons,hv,Bool.or_true]
 have hcA:(Value.ref C::bm).contains (.type "AttributeError")=false:=by rw [List.contains_cons,ha];rfl
 have hcN:(Value.ref C::bm).contains (.type "NameError")=false:=by rw [List.contains_cons,hn];rfl
 refine codeAny_builtinAt Fn.entry ?_
 unfold Builtin.«BaseException.__new__»
 refine PySem.wpAt_bind ?_;show PySem.wpAt _ _ _ (stack>>=_) _ _ _
 refine PySem.wpAt_bind (PySem.wpAt_stack fun p below=>PySem.wpAt_of_wpAny ?_);wp_walk
 refine PySem.wpAt_of_wpAny ?_;rw [Fn.owner]
 repeat (first|with_reducible refine wpAny_madeHere_exc Fn.canon hC ?_ |with_reducible refine wpAny_loadPart_at hC ?_ |(with_reducible refine wpAny_isSubtype_exc hC ?_;first|rw [hcV]|rw [hcA]|rw [hcN])|wp_step)
 show R _ _;rw [Heap.size_push];exact hq
theorem zL {K:PySem.W.Frag} {fI:Addr} {rest:List Value} {Q:Fin->Shared->Prop} (X:K.In hp) (hx:excIn K C=true) (hi:PySem.W.findIn K (.ref C) "__init__"=some (some (.ref fI))) (hf:PySem.W.typeIn K (.ref fI)=some (.type "function"))
  (hq:wpAny (model prog w) A (call (.ref fI) (.ref (hp.objs.size+1)::rest)) (fun r s'=>r= .none/\Q (.done (.ret (.ref (hp.objs.size+1)))) s') E
   ⟨(hp.push {cls:= .type "tuple",data:= .seq rest.toArray}).push {cls:= .ref C,data:= .fields #[.ref hp.objs.size,.none,.none,.none,.bool false,.none]},gg,dw,tt,oo⟩) (hrest:rest.length<=sizeLine):
  wpAny (model prog w) A (Builtin.«type.__call__» ⟨.ref C::rest,[]⟩) Q E ⟨hp,gg,dw,tt,oo⟩:=by
 obtain⟨nm,qn,N,bs,bm,hdct,sn,sub,ab,col,dd,k0,k1,k2,k3,k5,hC,hb,hv,ha,hn⟩:=mK X hx
 repeat (first|with_reducible refine wpAny_loadPart_at hC ?_ |with_reducible refine wpAny_madeBy_exc hC ?_ |wp_step)
 refine codeAny_call_builtin_code (Code.quiet_builtin _ PySem.F.excBase_ValueError.quiet) (aJc hC hv ?_)
 refine aP3 hC hv ha hn ?_ hrest
 show wpAny _ _ _ _ _ _
 have keep:∀b o,hp.get? b=some o->((hp.push {cls:= .type "tuple",data:= .seq rest.toArray}).push {cls:= .ref C,data:= .fields #[.ref hp.objs.size,.none,.none,.none,.bool false,.none]}).get? b=some o:=fun b o e=>Heap.get?_push_of_some _ (Heap.get?_push_of_some _ e)
 have hC1:=keep _ _ hC
 have X1:=X.keeps keep
 have at1:((hp.push {cls:= .type "tuple",data:= .seq rest.toArray}).push {cls:= .ref C,data:= .fields #[.ref hp.objs.size,.none,.none,.none,.bool false,.none]}).get? (hp.objs.size+1)=some {cls:= .ref C,data:= .fields #[.ref hp.objs.size,.none,.none,.none,.bool false,.none]}:=by heap_get
 have has:(Value.ref C::bm).contains (.ref C)=true:=by simp
 unfold isInstance
 repeat (first|with_reducible refine wpAny_loadPart_at at1 ?_ |(with_reducible refine wpAny_isSubtype_exc hC1 ?_;rw [has])|wp_step)
 show wpAny _ _ (typeLookup (.ref C) _) _ _ _
 refine(PySem.W.looks_findIn X1 hi).here ?_
 refine wpAny_holding (wpAny_bind ((PySem.W.bind_fn X1 _ hf).here ?_))
 refine wpAny_bind (wpAny_mono hq (fun r s' hr=>?_) fun _ _ z=>z)
 obtain⟨rfl,hQ⟩:=hr
 wp_walk
 exact hQ
theorem aLy {K:PySem.W.Frag} {fI:Addr} {rest:List Value} {Q:Value->Shared->Prop} (X:K.In hp) (hx:excIn K C=true) (hi:PySem.W.findIn K (.ref C) "__init__"=some (some (.ref fI))) (hf:PySem.W.typeIn K (.ref fI)=some (.type "function"))
  (hq:wpAny (model prog w) (A.under (.builtin "type.__call__" ⟨.ref C::rest,[]⟩)) (call (.ref fI) (.ref (hp.objs.size+1)::rest)) (fun r s'=>r= .none/\Q (.ref (hp.objs.size+1)) s') E
   ⟨(hp.push {cls:= .type "tuple",data:= .seq rest.toArray}).push {cls:= .ref C,data:= .fields #[.ref hp.objs.size,.none,.none,.none,.bool false,.none]},gg,dw,tt,oo⟩) (hrest:rest.length<=sizeLine):
  wpAny (model prog w) A (call (.ref C) rest) Q E ⟨hp,gg,dw,tt,oo⟩:=by
 obtain⟨nm,qn,N,bs,bm,hdct,sn,sub,ab,col,dd,k0,k1,k2,k3,k5,hC,_⟩:=mK X hx
 have f1:=tc_lookup
 have f2:=tc_bind (.ref C)
 have hT:(⟨hp,gg,dw,tt,oo⟩:Shared).TypeIs (.ref C) "type":=⟨_,hC,rfl⟩
 refine wpAny_call (codeAny_of_tree ?_)
 show wpAny _ _ (callAny (.ref C) _) _ _ _
 repeat (any_goals (first|assumption|with_reducible refine wpAny_loadPart_at hC ?_ |wp_step))
 refine⟨rfl,codeAny_call_builtin_at (Code.quiet_builtin _ (by decide+kernel)) entry_typeCall (wpAny_check_type_call_sub hC (zL X hx hi hf ?_ hrest))⟩
 exact hq
end
section
variable {M:Model} {A:Around} {E:Value->Shared->Prop} {s:Shared}
def Loose (h:Heap) (e:Addr) (vs:Array Value):Prop:=vs[1]? =some .none∨∃T oT ts,vs[1]? =some (.ref T)/\T≠e/\h.get? T=some oT/\oT.data= .fields ts/\ts[3]? =some .none
structure aMn (l:List Env) (e:Addr) (oe:Obj) (fl:Value) (h h':Heap) (old:Option Addr):Prop where
 at_:∃vs' T' oT' ts',h'.get? e=some {oe with data:= .fields vs'}/\vs'.size=6/\vs'[1]? =some (.ref T')/\T'≠e/\h.objs.size<=T'/\h'.get? T'=some oT'/\oT'.data= .fields ts'/\ts'[3]? =some fl
 keep:∀b o,h.get? b=some o->b≠e->some b≠old->b∉frs l->h'.get? b=some o
 slots:∀b o,h.get? b=some o->b∈frs l->∃sl,h'.get? b=some {o with slots:=sl}
theorem aAm {base:Heap} {env:Env} {outer:List Env} {L e:Addr} {oe:Obj} {vs:Array Value} {head:Value} {hadNext:Bool} {Q:Unit->Shared->Prop}
  (hfr:A.frames=some (env::outer)) (hl:s.heap.FunFrames base (env::outer)) (hf:env.frame=some L) (he:s.heap.get? e=some oe) (hd:oe.data= .fields vs) (hsz:vs.size=6)
  (h:∀h',aMn (env::outer) e oe (rawInt L) s.heap h' none->Q () {s with heap:=h'}):
  wpAny M A (do let a<-frameOf env;let pl<-entryPlaceOf L hadNext;let b<-EntryCells.newEntry head a .none (rawInt L) .none pl;setField (.ref e) 1 b) Q E s:=by
 have hne:e∉frs (env::outer):=fun hm=>by
  obtain⟨_,o,ho,hnf⟩:=hl.mem hm
  rw [he]at ho
  cases ho
  exact hnf vs hd
 refine wpAny_bind (wpAny_frameOf_fun hfr hl hf fun h1 hs1=>wpAny_bind (wpAny_entryPlaceOf fun pl hpl=>?_))
 unfold EntryCells.newEntry newFields
 refine wpAny_bind (wpAny_newObj_type ?_ (hpl.sizeOk5 _ _ _ _ _))
 have he1:h1.get? e=some oe:=(hs1.2.1 e hne).trans he
 generalize hT:({cls:= .type "traceback",dict:=none,data:= .fields ([head,.ref L,.none,rawInt L,.none]++(if pl.isEmpty then List.replicate 6 Value.none else pl)).toArray}:Obj)=oT
 have hT3:∃ts,oT.data= .fields ts/\ts[3]? =some (rawInt L)/\oT.isFreed=false:=⟨_,by rw [<-hT],by first|(simp;done)|(rcases hpl with rfl|⟨_,_,_,_,_,_,_,rfl⟩<;>simp),by rw [<-hT];rfl⟩
 obtain⟨ts,hts,h3,hfz⟩:=hT3
 have he2:=Heap.get?_push_of_some (h:=h1) oT he1
 refine wpAny_setField he2 hd (by omega) (h _ ?_)
 have hTe:h1.objs.size≠e:=Nat.ne_of_gt (Heap.lt_size he1)
 have hd3:=Obj.data_mapFields hd (·.setIfInBounds 1 (Value.ref h1.objs.size))
 have he3:=Heap.get?_update_self (Obj.mapFields (·.setIfInBounds 1 (Value.ref h1.objs.size))) he2 (Obj.isFreed_of_fields hd3)
 have hTnew:s.heap.objs.size<=h1.objs.size:=by rw [hs1.1];exact Nat.le_refl _
 refine⟨⟨vs.setIfInBounds 1 (Value.ref h1.objs.size),h1.objs.size,oT,ts,?_,by simp [hsz],by simp [hsz],hTe,hTnew,(Heap.get?_update_other _ _ (Ne.symm hTe)).trans (Heap.get?_push_size h1 hfz),hts,h3⟩,fun b o eb hb _ hbf=>?_,fun b o eb hbf=>?_⟩
 ·rw [he3]
  congr 1
  obtain⟨oc,od,oda,osl⟩:=oe
  have e1:oda= .fields vs:=hd
  subst e1
  rfl
 ·rw [Heap.get?_update_other _ _ (Ne.symm hb)]
  exact Heap.get?_push_of_some _ ((hs1.2.1 b hbf).trans eb)
 ·obtain⟨sl,hs⟩:=hs1.2.2 b o eb
  refine⟨sl,?_⟩
  have hbe:e≠b:=fun z=>hne (by rw [z];exact hbf)
  rw [Heap.get?_update_other _ _ hbe]
  exact Heap.get?_push_of_some _ hs
theorem yP {base:Heap} {env:Env} {outer:List Env} {L e:Addr} {oe:Obj} {vs:Array Value} {Q:Unit->Shared->Prop}
  (hfr:A.frames=some (env::outer)) (hl:s.heap.FunFrames base (env::outer)) (hf:env.frame=some L) (he:s.heap.get? e=some oe) (hd:oe.data= .fields vs) (hsz:vs.size=6) (hz:Loose s.heap e vs)
  (h:∀h' old,(∀T,old=some T->vs[1]? =some (.ref T))->aMn (env::outer) e oe (rawInt L) s.heap h' old->Q () {s with heap:=h'}):wpAny M A (noteFrame (.ref e) env) Q E s:=by
 unfold noteFrame
 simp only [hf]
 rcases hz with hz|⟨T,oT,ts,h1,hTe,hT,hdT,h3⟩
 ·refine wpAny_bind (wpAny_field he hd hz ?_)
  rw [if_neg (by decide)]
  exact aAm hfr hl hf he hd hsz fun h' n=>h h' none (fun T z=>by cases z) n
 ·refine wpAny_bind (wpAny_field he hd h1 ?_)
  rw [if_pos (show(Value.ref T != Value.none)=true by simp)]
  refine wpAny_bind (wpAny_field hT hdT h3 ?_)
  rw [if_neg (show¬((Value.none==rawInt L)=true) by simp [rawInt])]
  refine wpAny_bind (wpAny_setField hT hdT (Array.getElem?_eq_some_iff.mp h3).1 ?_)
  have other:∀b,b≠T->(s.heap.update T (Obj.mapFields (·.setIfInBounds 3 Value.none))).get? b=s.heap.get? b:=fun b hb=>Heap.get?_update_other _ _ (Ne.symm hb)
  have nrec:∀b o,s.heap.get? b=some o->(∀vs,o.data≠ .fields vs)->b≠T:=fun b o eb hn q=>by
   subst q
   rw [hT]at eb
   cases eb
   exact hn ts hdT
  have hfT:T∉frs (env::outer):=fun hm=>by
   obtain⟨_,o,ho,hnf⟩:=hl.mem hm
   exact nrec T o ho hnf rfl
  have hsome:∀b,(s.heap.update T (Obj.mapFields (·.setIfInBounds 3 Value.none))).get? b=none->s.heap.get? b=none:=fun b eb=>by
   by_cases hb:b=T
   ·subst hb
    rw [Heap.get?_update_self _ hT (Obj.isFreed_of_fields (Obj.data_mapFields hdT _))]at eb
    cases eb
   ·rw [other b hb]at eb
    exact eb
  refine aAm hfr (hl.of_keeps fun b o eb hn=>⟨o,(other b (nrec b o eb hn)).trans eb,rfl⟩) hf ((other e (Ne.symm hTe)).trans he) hd hsz fun h' n=>?_
  refine h h' (some T) (fun T' z=>by cases z;exact h1) ⟨?_,fun b o eb hb ho hbf=>?_,fun b o eb hbf=>?_⟩
  ·obtain⟨vs',T',oT',ts',a1,a2,a3,a4,a5,a6⟩:=n.at_
   exact⟨vs',T',oT',ts',a1,a2,a3,a4,by rw [Heap.size_update]at a5;exact a5,a6⟩
  ·exact n.keep b o ((other b (fun z=>ho (by rw [z]))).trans eb) hb (fun z=>by cases z) hbf
  ·exact n.slots b o ((other b (fun z=>hfT (by rw [<-z];exact hbf))).trans eb) hbf
structure Left (l:List Env) (e:Addr) (oe:Obj) (h h':Heap) (old:Option Addr):Prop where
 at_:∃vs' T' oT' ts',h'.get? e=some {oe with data:= .fields vs'}/\vs'.size=6/\vs'[1]? =some (.ref T')/\T'≠e/\h.objs.size<=T'/\h'.get? T'=some oT'/\oT'.data= .fields ts'/\ts'[3]? =some .none
 keep:∀b o,h.get? b=some o->b≠e->some b≠old->b∉frs l->h'.get? b=some o
 slots:∀b o,h.get? b=some o->b∈frs l->∃sl,h'.get? b=some {o with slots:=sl}
theorem uC {l:List Env} {e:Addr} {oe:Obj} {fl:Value} {h0:Heap} {old:Option Addr} {Q:Unit->Shared->Prop} (hfe:e∉frs l) (n:aMn l e oe fl h0 s.heap old)
  (h:∀h',Left l e oe h0 h' old->Q () {s with heap:=h'}):wpAny M A (setFlight (.ref e) none) Q E s:=by
 obtain⟨vs,T,oT,ts,he,hsz,h1,hTe,hTs,hT,hdT,h3⟩:=n.at_
 have hTn:h0.get? T=none:=Heap.get?_none_of_le hTs
 have hsz3:3<ts.size:=(Array.getElem?_eq_some_iff.mp h3).1
 unfold setFlight
 refine wpAny_bind (wpAny_field he rfl h1 ?_)
 rw [if_pos (show(Value.ref T != Value.none)=true by simp)]
 have other:∀b,b≠T->(s.heap.update T (Obj.mapFields (·.setIfInBounds 3 ((none:Option Addr).elim Value.none fun f=>rawInt f)))).get? b=s.heap.get? b:=fun b hb=>Heap.get?_update_other _ _ (Ne.symm hb)
 refine wpAny_setField hT hdT hsz3 (h _ ⟨⟨vs,T,_,_,(other e (Ne.symm hTe)).trans he,hsz,h1,hTe,hTs,Heap.get?_update_self _ hT (Obj.isFreed_of_fields (Obj.data_mapFields hdT _)),Obj.data_mapFields hdT _,by simp [hsz3]⟩,fun b o eb hb ho hbf=>?_,fun b o eb hbf=>?_⟩)
 ·have hbT:b≠T:=fun z=>by rw [z,hTn]at eb;cases eb
  exact(other b hbT).trans (n.keep b o eb hb ho hbf)
 ·have hbT:b≠T:=fun z=>by rw [z,hTn]at eb;cases eb
  obtain⟨sl,hs⟩:=n.slots b o eb hbf
  exact⟨sl,(other b hbT).trans hs⟩
theorem aDt {base:Heap} {env:Env} {outer:List Env} {L e:Addr} {oe:Obj} {vs:Array Value} {Q:Unit->Shared->Prop}
  (hfr:A.frames=some (env::outer)) (hl:s.heap.FunFrames base (env::outer)) (hf:env.frame=some L) (he:s.heap.get? e=some oe) (hd:oe.data= .fields vs) (hsz:vs.size=6) (hz:Loose s.heap e vs)
  (h:∀h' old,(∀T,old=some T->vs[1]? =some (.ref T))->Left (env::outer) e oe s.heap h' old->Q () {s with heap:=h'}):wpAny M A (leaving env (.ref e)) Q E s:=by
 have hne:e∉frs (env::outer):=fun hm=>by
  obtain⟨_,o,ho,hnf⟩:=hl.mem hm
  rw [he]at ho
  cases ho
  exact hnf vs hd
 unfold leaving
 refine wpAny_bind (yP hfr hl hf he hd hsz hz fun h1 old ho n=>?_)
 exact uC (s:={s with heap:=h1}) hne n fun h' l=>h h' old ho l
end
def pI (H:Hp) (e:Addr):Hp:=fun b=>if b=e then none else H b
theorem gD {H:Hp} {e b:Addr} (h:b≠e):pI H e b=H b:=by unfold pI;rw [if_neg h]
theorem xK {H:Hp} {e:Addr}:pI H e e=none:=by unfold pI;rw [if_pos rfl]
theorem HOk.drop {P:Program} {w:World} {H:Hp} {h:Heap} {e:Addr} {φ:Heap->Prop} (ok:HOk P w H h) (he:H e=some (.ext φ)):HOk P w (pI H e) h:=fun a o ea=>by
 by_cases hae:a=e
 ·subst hae;rw [xK]at ea;cases ea
 ·rw [gD hae]at ea
  refine(ok a o ea).stay (fun b u _ q=>q) (fun b q=>?_) fun b xs q=>?_
  ·rw [gD (fun z=>by subst z;rw [he]at q;cases q)];exact q
  ·rw [gD (fun z=>by subst z;rw [he]at q;cases q)];exact q
structure uF (h0:Heap) (H:Hp) (h:Heap) (e C dx:Addr):Prop where
 ob:∃vs sl,h.get? e=some ⟨.ref C,some dx,.fields vs,sl⟩/\vs.size=6/\Loose h e vs/\∀T,vs[1]? =some (.ref T)->H T=none/\h0.objs.size<=T
 free:H e=none
 new:h0.objs.size<=e
def CXe (P:Program) (w:World):CXT:=fun outer H s E ev s'=>∃e C dx H',ev= .ref e/\s'.os=s.os/\AllBare s'.gens/\Un (frs outer) [] H H' s.heap s'.heap/\HOk P w H' s'.heap/\uF s.heap H' s'.heap e C dx/\E (.ref C) (some dx) H'
structure Rz (X:Cx) (H1:Hp) (s1:Shared) (e C dx:Addr):Prop where
 os:s1.os=X.s₀.os
 bare:AllBare s1.gens
 un:Un X.fs [] X.H₀ H1 X.s₀.heap s1.heap
 hok:HOk X.prog X.w H1 s1.heap
 funs:s1.heap.FunFrames X.base X.stack
 stkFree:∀b∈frs X.stack,H1 b=none
 sz:X.s₀.heap.objs.size<=s1.heap.objs.size
 fr:X.A.frames=some X.stack
 fl:uF X.s₀.heap H1 s1.heap e C dx
def aQn (X:Cx) (E:XK):Prop:=∀H1 s1 e C dx,Rz X H1 s1 e C dx->E (.ref C) (some dx) H1->X.xe (.ref e) s1
theorem aO5 {P:Program} {w:World} {K:PySem.W.Frag} {mg:Str->Option Value} {base:Heap} {N:List Str} {qual:Str} {scope:Scope} {f:Addr} {cd:Value} {A:Around} {outer:List Env} {s:Shared} {H:Hp} {E:XK}
  :aQn (aBs (CXe P w) P w K mg base N qual scope f cd A outer s H E) E:=by
 intro H1 s1 e C dx R hE
 obtain⟨os,bare,un,hok,funs,stkFree,sz,fr,⟨⟨vs,sl,he,hsz,hz,hT⟩,free,new⟩⟩:=R
 have hfr:(A.deeper (envOfC qual scope s.heap.objs.size f cd)).frames=some (envOfC qual scope s.heap.objs.size f cd::outer):=fr
 replace os:s1.os=s.os:=os
 replace un:Un (frs outer) [] H H1 s.heap s1.heap:=un
 replace hok:HOk P w H1 s1.heap:=hok
 replace stkFree:∀b∈frs (envOfC qual scope s.heap.objs.size f cd::outer),H1 b=none:=stkFree
 replace hT:∀T,vs[1]? =some (.ref T)->H1 T=none/\s.heap.objs.size<=T:=hT
 replace new:s.heap.objs.size<=e:=new
 replace sz:s.heap.objs.size<=s1.heap.objs.size:=sz
 have hL:s.heap.get? s.heap.objs.size=none:=Heap.get?_none_of_le (Nat.le_refl _)
 refine aDt (L:=s.heap.objs.size) hfr funs rfl he rfl hsz hz fun h' old hold l=>?_
 have oldn:∀b o,s.heap.get? b=some o->some b≠old:=fun b o eb z=>by
  have:=Heap.get?_none_of_le (hT b (hold b z.symm)).2
  rw [eb]at this
  cases this
 have oldH:∀b o,H1 b=some o->some b≠old:=fun b o eb z=>by
  have:=(hT b (hold b z.symm)).1
  rw [eb]at this
  cases this
 have nef:∀b o,s.heap.get? b=some o->b∉frs outer->b∉frs (envOfC qual scope s.heap.objs.size f cd::outer):=fun b o eb hb hm=>by
  rcases List.mem_cons.mp (show b∈s.heap.objs.size::frs outer from hm)with z|z
  ·rw [z,hL]at eb;cases eb
  ·exact hb z
 have infs:∀b,b∈frs outer->b∈frs (envOfC qual scope s.heap.objs.size f cd::outer):=fun b hb=>List.mem_cons_of_mem (s.heap.objs.size) hb
 have ne:∀b o,s.heap.get? b=some o->b≠e:=fun b o eb z=>by rw [z,Heap.get?_none_of_le new]at eb;cases eb
 obtain⟨vs',T',oT',ts',a1,a2,a3,a4,a5,a6,a7,a8⟩:=l.at_
 refine⟨e,C,dx,H1,rfl,os,bare,⟨fun b o eb n hb _=>?_,fun b o eb n hb _=>?_,un.free,fun b o eb hx=>?_,un.tups,un.frzs,un.tbls⟩,fun b o eb=>?_,⟨⟨vs',sl,a1,a2,.inr ⟨T',oT',ts',a3,a4,a6,a7,a8⟩,fun T z=>?_⟩,free,new⟩,hE⟩
 ·exact l.keep b o (un.keep b o eb n hb (by simp)) (ne b o eb) (oldn b o eb) (nef b o eb hb)
 ·obtain⟨sl1,e1⟩:=un.slot b o eb n hb (by simp)
  obtain⟨sl2,e2⟩:=l.slots b _ e1 (infs b hb)
  exact⟨sl2,e2⟩
 ·obtain⟨o',e1⟩:=un.there b o eb (by simp)
  by_cases hb:b∈frs outer
  ·obtain⟨sl2,e2⟩:=l.slots b _ e1 (infs b hb)
   exact⟨_,e2⟩
  ·exact⟨o',l.keep b o' e1 (ne b o eb) (oldn b o eb) (nef b o eb hb)⟩
 ·have trk:∀c oc u,H1 c=some oc->s1.heap.get? c=some u->h'.get? c=some u:=fun c oc u ec eu=>l.keep c u eu (fun z=>by rw [z,free]at ec;cases ec) (oldH c oc ec) (fun z=>by rw [stkFree c z]at ec;cases ec)
  refine(hok b o eb).stay (fun c u hc eu=>?_) (fun _ q=>q) fun _ _ q=>q
  rcases hc with rfl|hc
  ·exact trk _ o u eb eu
  ·exact trk c _ u hc eu
 ·have ez:T'=T:=by
   rw [a3]at z
   cases z
   rfl
  subst ez
  refine⟨?_,Nat.le_trans sz a5⟩
  cases q:H1 T' with
  |none=>rfl
  |some o=>
   have:=(hok T' o q).lt
   obtain⟨u,hu⟩:∃u,s1.heap.get? T'=some u:=by
    have h1:=hok T' o q
    cases o with
    |lst xs=>obtain⟨_,_,_,_,e⟩:=h1;exact⟨_,e⟩
    |tup xs=>obtain⟨_,_,_,o,e,_⟩:=h1;exact⟨_,e⟩
    |dK kvs=>obtain⟨_,_,_,_,o,_,_,e,_⟩:=h1;exact⟨_,e⟩
    |dT kvs=>obtain⟨_,_,_,_,o,_,_,e,_⟩:=h1;exact⟨_,e⟩
    |set S n=>obtain⟨o,_,_,_,e,_⟩:=h1;exact⟨_,e⟩
    |ins C dx fs=>obtain⟨_,_,_,e,_⟩:=h1;exact⟨_,e⟩
    |own y=>exact h1
    |xd fs=>obtain⟨_,⟨_,_,_,e,_⟩,_⟩:=h1;exact⟨_,e⟩
    |rng lo hi=>obtain⟨_,_,_,e⟩:=h1;exact⟨_,e⟩
    |frz ob u=>obtain⟨e,_⟩:=h1;exact⟨_,e⟩
    |tbl ps=>exact⟨_,h1⟩
    |met f y=>exact⟨_,h1⟩
    |ext φ=>obtain⟨_,⟨_,e⟩,_⟩:=h1;exact⟨_,e⟩
   rw [Heap.get?_none_of_le a5]at hu
   cases hu
section
variable {X:Cx} {pins:List (Addr×Obj)} {σ:St} {H:Hp} {s:Shared} {E:XK}
theorem aU2 {e C dx:Addr} (hex:X.ex=[]) (I:Inv X pins σ H s) (f:uF X.s₀.heap H s.heap e C dx):Rz X H s e C dx:=
 ⟨I.os,I.bare,by have:=I.base;rw [hex]at this;exact this,I.hok,I.stack,I.stkFree,I.sz,I.ok.frames,f⟩
theorem uF.back {h0 h1 h:Heap} {H':Hp} {e C dx:Addr} (f:uF h1 H' h e C dx) (u:h0.objs.size<=h1.objs.size):uF h0 H' h e C dx:=by
 obtain⟨⟨vs,sl,he,hsz,hz,hT⟩,free,new⟩:=f
 exact⟨⟨vs,sl,he,hsz,hz,fun T z=>⟨(hT T z).1,Nat.le_trans u (hT T z).2⟩⟩,free,Nat.le_trans u new⟩
theorem cI (hex:X.ex=[]) (hW:aQn X E):kO (CXe X.prog X.w) X E:=by
 intro pins σ H s ev s' I h
 obtain⟨e,C,dx,H',rfl,os,bare,un,hok,fl,hE⟩:=h
 have I':Inv X pins σ H' s':=I.call' (ch:=[]) os un hok bare (fun b z=>absurd z (by simp))
 exact hW H' s' e C dx (aU2 hex I' (fl.back I.sz)) hE
end
section
variable {M:Model} {A:Around} {E:Value->Shared->Prop} {env:Env}
variable {nm q:Str} {C N:Addr} {bs bm:List Value} {hdct:Bool} {sn:List Str} {sub:List Value} {ab:Bool} {col:Option Bool} {dd:Option Addr} {k0 k1 k2 k3 k5:Option Value} {newId:String}
theorem aJp {s:Shared} {x:Sem Value} {Q:Flow->Shared->Prop} (hbase:bm.contains (.type "BaseException")=true) (hh:A.handled=none)
  (h:wpAny M A x (fun v s₁=>∃e vs od sl,v= .ref e/\s₁.heap.get? C=some (excClassObj nm q C N bs bm hdct sn sub ab col dd k0 k1 k2 k3 k5 newId)/\
   s₁.heap.get? e=some ⟨.ref C,od,.fields vs,sl⟩/\vs[1]? =some .none/\E (.ref e) s₁) E s):
  wpAny M A (raiseStmt env (some x) none) Q E s:=by
 have hcB:(Value.ref C::bm).contains (.type "BaseException")=true:=by rw [List.contains_cons,hbase,Bool.or_true]
 unfold raiseStmt
 refine wpAny_bind (wpAny_mono h (fun v s₁ h₁=>?_) fun _ _ x=>x)
 obtain⟨e,vs,od,sl,rfl,hC,he,h1,hE⟩:=h₁
 obtain⟨hp,g,d,tk,os⟩:=s₁
 repeat (first|with_reducible refine wpAny_field he rfl h1 ?_ |with_reducible refine wpAny_loadPart_at he ?_ |with_reducible refine wpAny_loadPart_at hC ?_ |(with_reducible refine wpAny_isSubtype_exc hC ?_;rw [hcB])|wp_step)
 exact wpAny_raiseNew_none hh hE
end
structure Rs (K:PySem.W.Frag) (C f:Addr):Prop where
 exc:excIn K C=true
 init:PySem.W.findIn K (.ref C) "__init__"=some (some (.ref f))
 fn:PySem.W.typeIn K (.ref f)=some (.type "function")
 kp:PySem.W.keepIn K (.ref C)=true
section
variable {X:Cx} {pins:List (Addr×Obj)} {σ:St} {H:Hp} {s:Shared} {E:XK} {k:Nat} {f C:Addr} {fd:FuncData} {ps:List Str} {sp:Sp} {x:Str} {p pos apos:Pos} {e:Expr} {es:List Expr} {t:TA}
theorem Inv.madeE {us:List Value} (I:Inv X pins σ H s):Inv X pins σ (upd H (s.heap.objs.size+1) (nM (s.heap.objs.size+1) C none))
  {s with heap:=(s.heap.push {cls:= .type "tuple",data:= .seq us.toArray}).push {cls:= .ref C,data:= .fields #[.ref s.heap.objs.size,.none,.none,.none,.bool false,.none]}}:=by
 have I1:=I.kept (h':=s.heap.push {cls:= .type "tuple",data:= .seq us.toArray}) (t':=s.toks) (fun b u q=>Heap.get?_push_of_some _ q)
 have e2:((s.heap.push {cls:= .type "tuple",data:= .seq us.toArray}).push {cls:= .ref C,data:= .fields #[.ref s.heap.objs.size,.none,.none,.none,.bool false,.none]}).get? (s.heap.objs.size+1)=some {cls:= .ref C,data:= .fields #[.ref s.heap.objs.size,.none,.none,.none,.bool false,.none]}:=by
  have:=Heap.get?_push_size (s.heap.push {cls:= .type "tuple",data:= .seq us.toArray}) (o:={cls:= .ref C,data:= .fields #[.ref s.heap.objs.size,.none,.none,.none,.bool false,.none]}) rfl
  rwa [Heap.size_push]at this
 exact I1.laid (a:=s.heap.objs.size+1) (o:=nM (s.heap.objs.size+1) C none) (t':=s.toks) (fun b u q=>Heap.get?_push_of_some _ q) (Nat.le_of_eq (Heap.size_push _ _)) (aBh e2 rfl rfl)
theorem aP7 {Q:Value->Shared->Prop} {W:VK} {us:List Value} {vs:List V} (M:Rs X.K C f) (F:bC X.prog X.w X.K X.mg X.base CX0 k f fd ps sp) (hr:eU (k+1) X.A) (hb:Binds X.K fd ps []) (I:Inv X pins σ H s) (r:Vals vs us) (hz:us.length<=sizeLine)
  (h:sp (.ref (s.heap.objs.size+1)::vs) (upd H (s.heap.objs.size+1) (nM (s.heap.objs.size+1) C none)) (fun v H2=>v= .non/\W (.ref (s.heap.objs.size+1)) H2) E0)
  (hq:∀s' H2,Inv X pins σ H2 s'->W (.ref (s.heap.objs.size+1)) H2->Q (.ref (s.heap.objs.size+1)) s'):
  wpAny (model X.prog X.w) X.A (call (.ref C) us) Q X.xe s:=by
 have I2:=Inv.madeE (C:=C) (us:=us) I
 have r2:Vals (V.ref (s.heap.objs.size+1)::vs) (Value.ref (s.heap.objs.size+1)::us):= .cons rfl r
 have hl:(Value.ref (s.heap.objs.size+1)::us++[]).length=ps.length:=by
  have e:=r2.length
  rw [F.len _ _ _ _ h]at e
  rw [List.append_nil]
  exact e.symm
 have hbb:=hb _ (Value.ref (s.heap.objs.size+1)::us) I2.kIn hl
 rw [List.append_nil]at hbb
 obtain⟨hp,gg,dw,tt,oo⟩:=s
 refine aLy I.kIn M.exc M.init M.fn ?_ hz
 refine wpAny_call (codeAny_mono (F.run _ X.stack _ _ ⟨Value.ref (hp.objs.size+1)::us,[]⟩ (Value.ref (hp.objs.size+1)::us) _ _ E0 (hr.make C us []) (I2.env0.make C us []) hbb r2 h) fun r s' hq'=>?_)
 cases r with
 |error e=>exact(aP (X:=X) pins σ _ _ e s' I2 hq')
 |ok fl=>
  cases fl with
  |ret u=>
   obtain⟨v,H',I3,rv,ev,q3⟩:=I2.after hq'
   subst ev
   exact⟨rv,hq s' H' I3 q3⟩
  |next=>exact False.elim hq'
  |brk=>exact False.elim hq'
  |cont=>exact False.elim hq'
theorem aQm {e dx:Addr} (hex:X.ex=[]) (I:Inv X pins σ H s) (hH:H e=some (nM e C (some dx))) (new:X.s₀.heap.objs.size<=e):Rz X (pI H e) s e C dx:=by
 have u:=I.base
 rw [hex]at u
 have hd:∀b,H b=none->pI H e b=none:=fun b hb=>by
  by_cases z:b=e
  ·rw [z];exact xK
  ·rw [gD z];exact hb
 obtain⟨⟨vs,sl,hx,hs,h1⟩,_,_⟩:=I.hok e _ hH
 refine⟨I.os,I.bare,⟨u.keep,u.slot,fun b o eb n hx=>hd b (u.free b o eb n hx),u.there,fun b xs q=>?_,fun b o v q=>?_,fun b ps q=>?_⟩,I.hok.drop hH,I.stack,fun b hb=>hd b (I.stkFree b hb),I.sz,I.ok.frames,⟨⟨vs,sl,hx,hs,.inl h1,fun T z=>?_⟩,xK,new⟩⟩
 ·have:=u.tups b xs q
  rw [gD (fun z=>by rw [z,hH]at this;cases this)]
  exact this
 ·have:=u.frzs b o v q
  rw [gD (fun z=>by rw [z,hH]at this;cases this)]
  exact this
 ·obtain⟨more,this⟩:=u.tbls b ps q
  refine⟨more,?_⟩
  rw [gD (fun z=>by rw [z,hH]at this;cases this)]
  exact this
 ·rw [h1]at z
  cases z
def aSj (C:Addr) (sp:Sp) (E:XK) (t:TA):TS:=fun _ σ H=>t σ H fun vs H1=>vs.length<=sizeLine/\∀e,H1 e=none->sp (.ref e::vs) (upd H1 e (nM e C none)) (fun v H2=>v= .non/\∃dx,H2 e=some (nM e C (some dx))/\E (.ref C) (some dx) (pI H2 e)) E0
theorem dG (M:Rs X.K C f) (F:bC X.prog X.w X.K X.mg X.base CX0 k f fd ps sp) (hr:eU (k+1) X.A) (hg:Gl X x) (hm:X.mg x=some (.ref C)) (hb:Binds X.K fd ps []) (hc:X.calm=true) (hex:X.ex=[]) (hW:aQn X E)
  (ha:PA X (e::es) t) (hdb:(x==("__debug__":Str))=false:=by decide) (he:starEach (e::es) X.env=(false,eval e X.env)::starEach es X.env:=by rfl) (hpl:(backTo apos (starEach es X.env)).any (·.1)=false:=by rfl):
  PS X (.Raise (some (.Call (.Name x p) (e::es) [] apos)) none pos) (aSj C sp E t):=by
 intro pins s σ H D I h
 obtain⟨nm,qn,N,bs,bm,hdct,sn,sub,ab,col,dd,k0,k1,k2,k3,k5,hC,hbs,hv,hna,hnn⟩:=mK I.ok.mod.kin M.exc
 rw [arm_exec_Raise]
 refine wpAny_bind (wpAny_standAt ?_)
 show wpAny _ _ (raiseStmt X.env (some (do let v<-eval (.Call (.Name x p) (e::es) [] apos) X.env;standAt pos;pure v)) none) _ _ _
 refine aJp hbs (I.ok.hd hc) (wpAny_bind (wpAny_mono (Q:=fun v s₁=>∃e vs od sl,v= .ref e/\s₁.heap.get? C=some (excClassObj nm qn C N bs bm hdct sn sub ab col dd k0 k1 k2 k3 k5 "ValueError.__new__")/\
   s₁.heap.get? e=some ⟨.ref C,od,.fields vs,sl⟩/\vs[1]? =some .none/\X.xe (.ref e) s₁) ?_ (fun v s₃ h₃=>wpAny_bind (wpAny_standAt (wpAny_pure h₃))) fun _ _ x=>x))
 refine wpAny_Call_Name_kw (mJ I hg hm ?_ hdb)
 refine PySem.W.callWith_K (h₀:=X.base) I.ok.mod.kin M.kp (thn (ha apos pins s σ H _ I h) fun us s1 ⟨vs,H1,I1,r,hz,q⟩=>⟨I1.kIn,?_⟩) he hpl
 refine aP7 (W:=fun v H2=>∃dx,H2 (s1.heap.objs.size+1)=some (nM (s1.heap.objs.size+1) C (some dx))/\E (.ref C) (some dx) (pI H2 (s1.heap.objs.size+1))) M F hr hb I1 r (show us.length<=sizeLine by rw [<-r.length];exact hz) (q _ (I1.hok.fresh (Nat.le_succ _))) fun s' H2 I2 ⟨dx,hH,hE⟩=>?_
 obtain⟨⟨ws,sl,hx,hs,h1⟩,_,_⟩:=I2.hok _ _ hH
 exact⟨_,ws,some dx,sl,rfl,I2.bk _ _ hC,hx,h1,hW _ _ _ _ _ (aQm hex I2 hH (Nat.le_trans I1.sz (Nat.le_succ _))) hE⟩
end
def zO (e C dx:Addr):HO:= .ext fun h=>∃vs sl,h.get? e=some ⟨.ref C,some dx,.fields vs,sl⟩/\vs.size=6
theorem aPu {P:Program} {w:World} {H:Hp} {h:Heap} {e C dx:Addr} {vs:Array Value} {sl:Array (Option Value)} (hx:h.get? e=some ⟨.ref C,some dx,.fields vs,sl⟩) (hs:vs.size=6):cY P w H h e (zO e C dx):=
 ⟨⟨vs,sl,hx,hs⟩,⟨_,hx⟩,fun h1 h2 ⟨vs,sl,a,b⟩ k=>⟨vs,sl,k _ a,b⟩⟩
section
variable {X:Cx} {pins:List (Addr×Obj)} {σ:St} {H:Hp} {s:Shared}
theorem Inv.take {e:Addr} {o:HO} (I:Inv X pins σ H s) (hn:H e=none) (new:X.s₀.heap.objs.size<=e) (hL:e≠X.env.locals) (hc:∀x c,X.env.cells.lookup x=some c->c≠e) (hp:∀p∈X.pn++pins,p.1≠e)
  (ok:cY X.prog X.w (upd H e o) s.heap e o):Inv X pins σ (upd H e o) s:=by
 have ne:∀b u,X.s₀.heap.get? b=some u->b≠e:=fun b u eb z=>by rw [z,Heap.get?_none_of_le new]at eb;cases eb
 have nh:∀b u,H b=some u->b≠e:=fun b u eb z=>by rw [z,hn]at eb;cases eb
 refine⟨I.ok,I.os,I.bare,⟨I.base.keep,I.base.slot,fun b u eb n hx=>?_,I.base.there,fun b xs q=>?_,fun b u v q=>?_,fun b ps q=>?_⟩,I.loc,I.cell,?_,fun x c q=>?_,fun p q=>?_,fun b u q=>?_,I.len⟩
 ·rw [aX (ne b u eb)];exact I.base.free b u eb n hx
 ·have:=I.base.tups b xs q
  rw [aX (nh b _ this)];exact this
 ·have:=I.base.frzs b u v q
  rw [aX (nh b _ this)];exact this
 ·obtain⟨more,this⟩:=I.base.tbls b ps q
  exact⟨more,by rw [aX (nh b _ this)];exact this⟩
 ·rw [aX (Ne.symm hL)];exact I.free
 ·rw [aX (hc x c q)];exact I.freeC x c q
 ·obtain⟨a1,a2,a3,a4,a5⟩:=I.pin p q
  exact⟨a1,by rw [aX (hp p q)];exact a2,a3,a4,a5⟩
 ·by_cases z:b=e
  ·subst z;rw [aF]at q;cases q;exact ok
  ·rw [aX z]at q
   exact(I.hok b u q).stay (fun _ _ _ y=>y) (fun c y=>by rw [aX (nh c _ y)];exact y) fun c xs y=>by rw [aX (nh c _ y)];exact y
end
abbrev Cx.tried (X:Cx) (pins:List (Addr×Obj)) (W:Value->Shared->Prop):Cx:={X with pn:=X.pn++pins,xe:=W}
abbrev Cx.suite (X:Cx) (e:Addr):Cx:={X with A:=X.A.mark (some (.ref e)),calm:=false,xe:=fun _ _=>False}
section
variable {X:Cx} {pins pins':List (Addr×Obj)} {σ:St} {H:Hp} {s:Shared} {W:Value->Shared->Prop} {e:Addr}
theorem Inv.tried (I:Inv X pins σ H s):Inv (X.tried pins W) [] σ H s:=
 ⟨⟨I.ok.mod,I.ok.kind,I.ok.glob,I.ok.blt,I.ok.above,I.ok.inj,I.ok.has,I.ok.cab,I.ok.hd,I.ok.frames,I.ok.stk,I.ok.exf,I.ok.bs,I.ok.bsz,I.ok.noex,I.ok.exfs,I.ok.funs,I.ok.frf⟩,I.os,I.bare,I.base,I.loc,I.cell,I.free,I.freeC,fun p hp=>I.pin p (by simpa using hp),I.hok,I.len⟩
theorem Inv.untried (I:Inv (X.tried pins W) pins' σ H s):Inv X pins σ H s:=
 ⟨⟨I.ok.mod,I.ok.kind,I.ok.glob,I.ok.blt,I.ok.above,I.ok.inj,I.ok.has,I.ok.cab,I.ok.hd,I.ok.frames,I.ok.stk,I.ok.exf,I.ok.bs,I.ok.bsz,I.ok.noex,I.ok.exfs,I.ok.funs,I.ok.frf⟩,I.os,I.bare,I.base,I.loc,I.cell,I.free,I.freeC,fun p hp=>I.pin p (List.mem_append_left _ hp),I.hok,I.len⟩
theorem SP.untried {D:Ends} {f:Flow} {s':Shared} (h:SP (X.tried pins W) pins' D f s'):SP X pins D f s':=by
 cases f with
 |next=>obtain⟨σ',H',I,q⟩:=h;exact⟨σ',H',I.untried,q⟩
 |brk=>obtain⟨σ',H',I,q⟩:=h;exact⟨σ',H',I.untried,q⟩
 |cont=>obtain⟨σ',H',I,q⟩:=h;exact⟨σ',H',I.untried,q⟩
 |ret u=>obtain⟨v,σ',H',I,r,q⟩:=h;exact⟨v,σ',H',I.untried,r,q⟩
theorem Inv.suite (I:Inv X pins σ H s):Inv (X.suite e) pins σ H s:=
 ⟨⟨I.ok.mod,I.ok.kind,I.ok.glob,I.ok.blt,I.ok.above,I.ok.inj,I.ok.has,I.ok.cab,fun z=>(nomatch z),I.ok.frames,I.ok.stk,I.ok.exf,I.ok.bs,I.ok.bsz,I.ok.noex,I.ok.exfs,I.ok.funs,I.ok.frf⟩,I.os,I.bare,I.base,I.loc,I.cell,I.free,I.freeC,I.pin,I.hok,I.len⟩
theorem Inv.unsuite (hh:X.calm=true->X.A.handled=none) (I:Inv (X.suite e) pins σ H s):Inv X pins σ H s:=
 ⟨⟨I.ok.mod,I.ok.kind,I.ok.glob,I.ok.blt,I.ok.above,I.ok.inj,I.ok.has,I.ok.cab,hh,I.ok.frames,I.ok.stk,I.ok.exf,I.ok.bs,I.ok.bsz,I.ok.noex,I.ok.exfs,I.ok.funs,I.ok.frf⟩,I.os,I.bare,I.base,I.loc,I.cell,I.free,I.freeC,I.pin,I.hok,I.len⟩
end
section
variable {X:Cx} {pins:List (Addr×Obj)} {σ:St} {H H1:Hp} {s s1:Shared} {e C dx:Addr}
theorem Inv.older (I:Inv X pins σ H s) {b:Addr} (hb:s.heap.objs.size<=b):X.s₀.heap.objs.size<=b/\b≠X.env.locals/\(∀x c,X.env.cells.lookup x=some c->c≠b)/\∀p∈X.pn++pins,p.1≠b:=by
 refine⟨Nat.le_trans I.sz hb,fun z=>?_,fun x c q z=>?_,fun p q z=>?_⟩
 ·have:=I.lt;rw [z]at hb;exact absurd (Nat.lt_of_lt_of_le this hb) (Nat.lt_irrefl _)
 ·obtain⟨v,o,ho,_⟩:=I.cell x c q
  rw [z]at ho
  exact absurd (Nat.lt_of_lt_of_le (Heap.lt_size ho) hb) (Nat.lt_irrefl _)
 ·have ho:=(I.pin p q).1
  rw [z]at ho
  exact absurd (Nat.lt_of_lt_of_le (Heap.lt_size ho) hb) (Nat.lt_irrefl _)
theorem landed {oe:Obj} {h':Heap} {old:Option Addr} (I:Inv X pins σ H s) (I1:Inv X pins σ H1 s1) (new:s.heap.objs.size<=e) (free:H1 e=none) (hT:∀T,old=some T->H1 T=none/\s.heap.objs.size<=T) (l:Left X.stack e oe s1.heap h' old):
  Inv X pins σ H1 {s1 with heap:=h'}:=by
 have nch:∀b,b∉e::old.toList->b≠e/\some b≠old:=fun b hb=>⟨fun z=>hb (by rw [z];exact List.mem_cons_self),fun z=>hb (List.mem_cons_of_mem _ (by rw [<-z];simp))⟩
 have hch:∀b∈e::old.toList,H1 b=none/\s.heap.objs.size<=b:=fun b hb=>by
  rcases List.mem_cons.mp hb with rfl|hb
  ·exact⟨free,new⟩
  ·exact hT b (by simpa using hb)
 refine I1.call (g':=s1.gens) (d':=s1.drawn) (t':=s1.toks) (ch:=e::old.toList) ⟨fun b o eb n hb hx=>l.keep b o eb (nch b hx).1 (nch b hx).2 hb,fun b o eb n hb hx=>l.slots b o eb hb,fun b o eb n hx=>n,fun b o eb hx=>?_,fun _ _ q=>q,fun _ _ _ q=>q,fun b ps q=>⟨#[],by rw [q];simp⟩⟩ (fun b u q=>?_) I1.bare fun b hb=>?_
 ·by_cases hb:b∈frs X.stack
  ·obtain⟨sl,q⟩:=l.slots b o eb hb
   exact⟨_,q⟩
  ·exact⟨o,l.keep b o eb (nch b hx).1 (nch b hx).2 hb⟩
 ·have trk:∀c oc v,H1 c=some oc->s1.heap.get? c=some v->h'.get? c=some v:=fun c oc v ec ev=>l.keep c v ev (fun z=>by rw [z,free]at ec;cases ec) (fun z=>by rw [(hT c z.symm).1]at ec;cases ec) (fun z=>by rw [I1.stkFree c z]at ec;cases ec)
  refine(I1.hok b u q).stay (fun c v hc ev=>?_) (fun _ y=>y) fun _ _ y=>y
  rcases hc with rfl|hc
  ·exact trk _ u v q ev
  ·exact trk c _ v hc ev
 ·obtain⟨a1,a2,a3,a4⟩:=I.older (hch b hb).2
  exact⟨.inr a1,a2,a3,a4⟩
theorem flight_again {M:Model} {A:Around} {E:Value->Shared->Prop} {T:Addr} {oe oT:Obj} {vs ts:Array Value} {Q:Unit->Shared->Prop} (he:s.heap.get? e=some oe) (hd:oe.data= .fields vs) (h1:vs[1]? =some (.ref T)) (hT:s.heap.get? T=some oT) (hdT:oT.data= .fields ts) (h3:ts[3]? =some .none)
  (h:∀h',(∀b,b≠T->h'.get? b=s.heap.get? b)->Q () {s with heap:=h'}):wpAny M A (setFlight (.ref e) none) Q E s:=by
 have hsz3:3<ts.size:=(Array.getElem?_eq_some_iff.mp h3).1
 unfold setFlight
 refine wpAny_bind (wpAny_field he hd h1 ?_)
 rw [if_pos (show(Value.ref T != Value.none)=true by simp)]
 exact wpAny_setField hT hdT hsz3 (h _ fun b hb=>Heap.get?_update_other _ _ (Ne.symm hb))
end
section
open PySem.W
variable {prog:Program} {w:World} {A:Around} {E:Value->Shared->Prop} {h:Heap} {g:Array GenState} {d:Drawn} {t:Nat} {os:OsState} {a C dx:Addr} {vs:Array Value} {sl:Array (Option Value)} {K:PySem.W.Frag} {m:Str->Option Value}
structure gZ (K:PySem.W.Frag) (C:Addr):Prop where
 exc:excIn K C=true
 ga:findIn K (.ref C) "__getattribute__"=some (some (.builtin "BaseException.__getattribute__"))
 gt:findIn K (.ref C) "__getattr__"=some none
 cl:findIn K (.ref C) "__class__"=some (some (.builtin "object.__class__"))
 ob:subIn K (.ref C) (.type "object")=some true
theorem aI0 {M:Model} {nameV:Value} {Q:Unit->Shared->Prop} (X:K.In h) (Z:gZ K C) (hx:h.get? a=some ⟨.ref C,some dx,.fields vs,sl⟩) (hq:Q () ⟨h,g,d,t,os⟩):wpAny M A (checkBuiltinCall "BaseException.__getattribute__" ⟨[.ref a,nameV],[]⟩) Q E ⟨h,g,d,t,os⟩:=by
 obtain⟨nm,qn,N,bs,bm,hdct,sn,sub,ab,col,dd,k0,k1,k2,k3,k5,hC,hb,hv,ha,hn⟩:=mK X Z.exc
 have hk:builtinKind "BaseException.__getattribute__"=some .slot:=by decide+kernel
 have hsplit:splitId "BaseException.__getattribute__"=some ("BaseException","__getattribute__"):=by decide+kernel
 have hcB:(Value.ref C::bm).contains (.type "BaseException")=true:=by rw [List.contains_cons,hb,Bool.or_true]
 have ha:=F.args_bexc_ga (.ref a) nameV
 simp only [checkBuiltinCall,hk,hsplit]
 refine wpAny_bind ?_
 unfold isInstance
 repeat (first|(with_reducible refine wpAny_loadPart_at hx ?_)|(with_reducible refine wpAny_isSubtype_exc hC ?_;rw [hcB])|wp_step)
 exact hq
theorem aC9 {R:Result->Shared->Prop} (X:K.In h) (Z:gZ K C) (hx:h.get? a=some ⟨.ref C,some dx,.fields vs,sl⟩) (hq:R (.ok (.ret (.ref C))) ⟨h,g,d,t,os⟩):
  codeAny (model prog w) A (.call (.builtin "getset_descriptor.__get__") ⟨[.builtin "object.__class__",.ref a,.ref C],[]⟩) R ⟨h,g,d,t,os⟩:=by
 have hT5:(⟨h,g,d,t,os⟩:Shared).TypeIs (.builtin "object.__class__") "getset_descriptor":=F.typeOf_object_class
 have f8:isSubtype (.ref C) (.type (".".intercalate ("object.__class__".cutAt '.').dropLast))=isSubtype (.ref C) (.type "object"):=by rw [F.owner_object_class]
 have L8:Looks (model prog w) h (isSubtype (.ref C) (.type "object")) true:=looks_subIn X Z.ob
 refine codeAny_call_builtin F.slot_gs_get.plain F.entry_gs_get (F.slot_gs_get.check _ _ _ _ _ _ _ _ hT5 (F.args_gs_get _ _ _) ?_)
 repeat (any_goals (first|assumption|with_reducible refine wpAny_loadPart_at hx ?_ |(rw [f8];refine L8.at ?_)|wp_step))
 refine⟨Code.quiet_builtin _ (by decide+kernel),codeAny_builtin F.entry_object_class ?_⟩
 repeat (any_goals (first|assumption|with_reducible refine wpAny_loadPart_at hx ?_ |wp_step))
theorem zH {tk:Tok} {Q:Fin->Shared->Prop} (X:K.In h) (Z:gZ K C) (hx:h.get? a=some ⟨.ref C,some dx,.fields vs,sl⟩) (hq:Q (.done (.ret (.ref C))) ⟨h,g,d,t,os⟩):
  wpAny (model prog w) A (Builtin.«object.__getattribute__» ⟨[.ref a,.str "__class__" tk],[]⟩) Q E ⟨h,g,d,t,os⟩:=by
 have hT5:(⟨h,g,d,t,os⟩:Shared).TypeIs (.builtin "object.__class__") "getset_descriptor":=F.typeOf_object_class
 have f5:=F.typeOf_object_class
 have f6:=F.slot_gs_get.lookup
 have f7:=F.slot_gs_set.lookup
 have L4:Looks (model prog w) h (typeLookup (.ref C) "__class__") (some (.builtin "object.__class__")):=looks_findIn X Z.cl
 repeat (any_goals (first|assumption|with_reducible refine wpAny_loadPart_at hx ?_ |refine L4.at ?_ |wp_step))
 refine aC9 X Z hx ?_
 repeat (any_goals (first|assumption|wp_step))
end
section
open PySem.W
variable {prog:Program} {w:World} {A:Around} {E:Value->Shared->Prop} {h:Heap} {g:Array GenState} {d:Drawn} {t:Nat} {os:OsState} {a C dx:Addr} {vs:Array Value} {sl:Array (Option Value)} {K:PySem.W.Frag} {m:Str->Option Value}
theorem aL5 {f:Str} {v:Value} {tk:Tok} {fill expr:Bool} {Q:Value->Shared->Prop} (X:K.In h) (Z:gZ K C) (hx:h.get? a=some ⟨.ref C,some dx,.fields vs,sl⟩)
  (he:∀{A:Around} {E:Value->Shared->Prop} {Q:Fin->Shared->Prop},Q (.done (.ret v)) ⟨h,g,d,t,os⟩->wpAny (model prog w) A (Builtin.«object.__getattribute__» ⟨[.ref a,.str f tk],[]⟩) Q E ⟨h,g,d,t,os⟩) (ho:handedIn v=true)
  (hq:Q v ⟨h,g,d,t,os⟩):wpAny (model prog w) A (getAttrBy (.ref a) (.str f tk) fill expr) Q E ⟨h,g,d,t,os⟩:=by
 have FB:=PySem.F.attrBase_ValueError
 have f3:=FB.ga.bind (.ref a)
 have hx0:(expr && onTheHeap (Value.builtin "BaseException.__getattribute__"))=false:=by cases expr<;>rfl
 have hx2:(Value.builtin "BaseException.__getattribute__"==Value.builtin "object.__getattribute__")=false:=by decide+kernel
 have hx1:(onTheHeap (Value.ref C) && Value.builtin "BaseException.__getattribute__"==Value.builtin "object.__getattribute__")=false:=by rw [hx2];rfl
 have L1:Looks (model prog w) h (typeLookup (.ref C) "__getattribute__") (some (.builtin "BaseException.__getattribute__")):=looks_findIn X Z.ga
 have L2:Looks (model prog w) h (typeLookup (.ref C) "__getattr__") none:=looks_findIn X Z.gt
 have L0:Looks (model prog w) h (typeOf (.ref a)) (.ref C):=(Looks.ld hx).andThen .now
 have hc:∀{A:Around} {R:Result->Shared->Prop},R (.ok (.ret v)) ⟨h,g,d,t,os⟩->codeAny (model prog w) A (.call (.builtin "BaseException.__getattribute__") ⟨[.ref a,.str f tk],[]⟩) R ⟨h,g,d,t,os⟩:=fun hR=>
  codeAny_call_builtin FB.ga.plain PySem.F.entry_bexc_ga (aI0 X Z hx (he hR))
 unfold getAttrBy
 refine wpAny_holding (wpAny_bind (L0.at (wpAny_bind (L1.at ?_))))
 dsimp only
 rw [hx1]
 simp only [Bool.false_eq_true,if_false]
 unfold getAttrByItsOwn hookBefore
 repeat (any_goals (first|assumption|refine L2.at ?_ |wp_step))
 refine hc ?_
 repeat (any_goals (first|assumption|(rw [handedOut_of ho])|wp_step))
end
section
open PySem.W
variable {prog:Program} {w:World} {A:Around} {E:Value->Shared->Prop} {h:Heap} {g:Array GenState} {d:Drawn} {t:Nat} {os:OsState} {a C dx:Addr} {vs:Array Value} {sl:Array (Option Value)} {K:PySem.W.Frag} {m:Str->Option Value}
theorem aBx {Q:Option Value->Shared->Prop} (X:K.In h) (Z:gZ K C) (hx:h.get? a=some ⟨.ref C,some dx,.fields vs,sl⟩) (hq:Q (some (.ref C)) ⟨h,g,d,t+1,os⟩):wpAny (model prog w) A (getAttr? (.ref a) "__class__") Q E ⟨h,g,d,t,os⟩:=by
 unfold getAttr? getAttrBy?
 repeat (any_goals (first|assumption|(with_reducible refine aL5 X Z hx (v:= .ref C) (fun q=>zH X Z hx q) rfl ?_)|wp_step))
theorem aMt (Z:gZ K C):KitX K (.ref a) (.ref C) (fun h=>∃vs sl,h.get? a=some ⟨.ref C,some dx,.fields vs,sl⟩) where
 ty:=fun _ _ _ ⟨vs,sl,hx⟩=>(Looks.ld hx).andThen .now
 it:=fun _ _ X _=>by
  obtain⟨nm,qn,N,bs,bm,hdct,sn,sub,ab,col,dd,k0,k1,k2,k3,k5,hC,hb,hv,ha,hn⟩:=mK X Z.exc
  intro A' Q' E' s' k q
  unfold isType loadHead
  exact wpAny_bind (wpAny_loadPart (k _ _ hC) (wpAny_pure q))
 ne:=fun h tp dd its n sl X htp=>by
  obtain⟨nm,qn,N,bs,bm,hdct,sn,sub,ab,col,dd,k0,k1,k2,k3,k5,hC,hb,hv,ha,hn⟩:=mK X Z.exc
  refine Bool.eq_false_iff.mpr fun q=>?_
  have e:C=tp:=Value.ref.inj (beq_iff_eq.mp q)
  subst e
  have z:=congrArg Obj.data (Option.some.inj (hC.symm.trans htp))
  cases z
 ca:=fun{_ _ _ _ _ s} X ⟨vs,sl,hx⟩ k=>by
  obtain⟨h,g,d,t,os⟩:=s
  exact aBx X Z hx k
theorem aEf {f:Str} {v:Value} {tk:Tok} {Q:Fin->Shared->Prop} (X:K.In h) (Z:gZ K C) (hd:hasDictIn K C=true) (hf:findIn K (.ref C) f=some none) (hx:h.get? a=some ⟨.ref C,some dx,.fields vs,sl⟩) (hn:h.Ns dx m) (hm:m f=some v) (hq:Q (.done (.ret v)) ⟨h,g,d,t,os⟩):
  wpAny (model prog w) A (Builtin.«object.__getattribute__» ⟨[.ref a,.str f tk],[]⟩) Q E ⟨h,g,d,t,os⟩:=by
 obtain⟨nm,qn,N,bs,bm,hdct,sn,sub,ab,col,dd,k0,k1,k2,k3,k5,hC,hb,hv,ha,hna⟩:=mK X Z.exc
 have hdct':hdct=true:=by
  unfold hasDictIn at hd
  cases q:clsIn K C with
  |none=>rw [q]at hd;cases hd
  |some cd=>
   rw [q]at hd
   unfold clsIn at q
   split at q
   ·rename_i c' d' cd' sl' ho
    cases q
    have z:=congrArg Obj.data (Option.some.inj (hC.symm.trans (X _ _ ho)))
    cases z
    exact hd
   ·cases q
 subst hdct'
 have L4:Looks (model prog w) h (typeLookup (.ref C) f) none:=looks_findIn X hf
 repeat (any_goals (first|assumption|with_reducible refine wpAny_loadPart_at hx ?_ |with_reducible refine wpAny_loadPart_at hC ?_ |refine L4.at ?_ |with_reducible refine wpAny_nsGet hn ?_ |rw [hm]|wp_step))
theorem aF4 {f:Str} {v:Value} {expr:Bool} {Q:Value->Shared->Prop} (X:K.In h) (Z:gZ K C) (hd:hasDictIn K C=true) (hf:findIn K (.ref C) f=some none) (hx:h.get? a=some ⟨.ref C,some dx,.fields vs,sl⟩) (hn:h.Ns dx m) (hm:m f=some v) (ho:handedIn v=true) (hq:Q v ⟨h,g,d,t+1,os⟩):
  wpAny (model prog w) A (getAttr (.ref a) f expr) Q E ⟨h,g,d,t,os⟩:=by
 unfold getAttr
 repeat (any_goals (first|assumption|(with_reducible refine aL5 X Z hx (v:=v) (fun q=>aEf X Z hd hf hx hn hm q) ho ?_)|wp_step))
end
section
variable {X:Cx}
theorem aOg:fX X (.builtin "isinstance") (fun xs H Q=>∃e C dx c u b,xs=[.ref e,c]/\H e=some (zO e C dx)/\gZ X.K C/\(c= .ref u/\PySem.W.kitOne X.K (.ref C) (.ref u)=some b∨∃n,c= .ty n/\PySem.W.kitOne X.K (.ref C) (.type n)=some b)/\Q (.bl b) H):=by
 intro pins s σ H xs us Q I r h
 obtain⟨e,C,dx,c,D,b,rfl,hH,Z,k,q⟩:=h
 obtain⟨u,w',rfl,ru,rw'⟩:=vals2 r
 cases (show u=Value.ref e from ru)
 obtain⟨⟨vs,sl,hx,hs⟩,_,_⟩:=I.hok e _ hH
 have hk:∃w0,w'=w0/\PySem.W.kitOne X.K (.ref C) w0=some b:=by
  rcases k with ⟨rfl,k⟩|⟨n,rfl,k⟩
  ·cases (show w'=Value.ref D from rw');exact⟨_,rfl,k⟩
  ·cases (show w'=Value.type n from rw');exact⟨_,rfl,k⟩
 obtain⟨_,rfl,k⟩:=hk
 exact PySem.W.kia_one (aMt (dx:=dx) Z) I.kIn ⟨vs,sl,hx⟩ k (fun z=>nomatch z) fun tk=>⟨.bl b,H,I.tok tk,rfl,q⟩
def aLo (K:PySem.W.Frag) (ta:TE) (f:Str):TE:=fun σ H Q=>ta σ H fun x H1=>∃e C dx fs v,x= .ref e/\H1 e=some (zO e C dx)/\H1 dx=some (.xd fs)/\gZ K C/\PySem.W.hasDictIn K C=true/\PySem.W.findIn K (.ref C) f=some none/\fs.lookup f=some v/\Q v H1
theorem aM8 {e:Expr} {f:Str} {ta:TE} {pos:Pos} (he:PE X e ta) (hb:attributeBase e f X.env (eval e X.env)=eval e X.env):PE X (.Attribute e f pos) (aLo X.K ta f):=by
 intro pins s σ H Q I h
 refine aIh hb (thn (he pins s σ H _ I h) fun u s1 ⟨x,H1,I1,rx,a,C,dx,fs,v,ex,ea,ed,Z,hd,hf,l,q⟩=>?_)
 subst ex
 obtain rfl:u=Value.ref a:=rx
 obtain⟨⟨vs,sl,hx,hs⟩,_,_⟩:=I1.hok a _ ea
 obtain⟨mA,hn,hr⟩:=(show cY X.prog X.w H1 s1.heap dx (.xd fs)from I1.hok dx _ ed)
 have hrf:=hr f
 rw [l]at hrf
 obtain⟨h0,g0,d0,t0,o0⟩:=s1
 cases hm:mA f with
 |none=>rw [hm]at hrf;exact False.elim hrf
 |some y=>
  rw [hm]at hrf
  exact aF4 I1.kIn Z hd hf hx hn.ns hm (zZ hrf) ⟨v,H1,I1.tok (t0+1),hrf,q⟩
end
section
variable {P:Program} {w:World} {K:PySem.W.Frag} {mg:Str->Option Value} {base:Heap}
theorem Fun.okE {x qual:Str} {st:Stmt} {f:Addr} {fd:FuncData} {N ps:List Str} {k:Nat} {sp:Sp} (F:Fun K x qual st f fd) (S:aM N ps (aH st)) (len:∀vs H Q E,sp vs H Q E->vs.length=ps.length)
  (hbody:∀(X:Cx) (cdv:Value) (A:Around) (outer:List Env) (s:Shared) (H:Hp) (vs:List V) (Q:VK) (E:XK),X=aBs (CXe P w) P w K mg base N qual (aH st) f cdv A outer s H E->aQn X E->PassesOwn (model X.prog X.w) X.A X.env X.xe->eU k X.A->sp vs H Q E->
   ∃t,PSs (aBs (CXe P w) P w K mg base N qual (aH st) f cdv A outer s H E) (gF st) t/\t {nx:=fun _ H'=>Q .non H',rt:=Q} (start N vs) H):bC P w K mg base (CXe P w) (k+1) f fd ps sp:=by
 obtain⟨oc,od,kV,doc,pm,an,cdv,ct,osl,rfl,lk,hcd⟩:=F.ex
 refine aSh lk hcd S len fun A outer s H vs Q E hr hsp=>?_
 exact hbody _ cdv A outer s H vs Q E rfl aO5 PassesOwn.leaving hr hsp
end
def aU3 (K:PySem.W.Frag):List V->Hp->VK->Prop:=fun xs H Q=>∃e C dx c u b,xs=[.ref e,c]/\H e=some (zO e C dx)/\gZ K C/\(c= .ref u/\PySem.W.kitOne K (.ref C) (.ref u)=some b∨∃n,c= .ty n/\PySem.W.kitOne K (.ref C) (.type n)=some b)/\Q (.bl b) H
theorem aKm {X:Cx} {K:PySem.W.Frag} (h:X.K=K):fX X (.builtin "isinstance") (aU3 K):=by
 subst h
 exact aOg
theorem aK2 {X:Cx} {K:PySem.W.Frag} {e:Expr} {f:Str} {ta:TE} {pos:Pos} (h:X.K=K) (he:PE X e ta) (hb:attributeBase e f X.env (eval e X.env)=eval e X.env):PE X (.Attribute e f pos) (aLo K ta f):=by
 subst h
 exact aM8 he hb
section
variable {X:Cx} {pins:List (Addr×Obj)} {σ:St} {H H1:Hp} {s s1:Shared} {e C dx:Addr}
theorem Inv.forget1 {h':Heap} {m:Str->Option Value} {n:Str} {i:Nat} {w':Option Value} {t':Nat} (I:Inv X pins σ H s) (hN:X.N.Nodup) (hi:X.N[i]? =some n)
  (hl:∀(j:Nat) (x:Str) (v:V),X.N[j]? =some x->σ[j]? =some (some v)->Vis X.env.scope x->∃u,RelV v u/\Look X.env s.heap m x u) (hn:h'.Ns X.env.locals (fun x=>if x=n then w' else m x)) (hs:Heap.SameBut X.env.locals s.heap h'):
  Inv X pins (σ.set i none) H {s with heap:=h',toks:=t'}:=by
 have neL:∀b o,X.s₀.heap.get? b=some o->b≠X.env.locals:=fun b o e=>Nat.ne_of_lt (Nat.lt_of_lt_of_le (Heap.lt_size e) I.ok.above)
 refine⟨I.ok,I.os,I.bare,⟨fun b o e n hb hx=>(hs.2 b (neL b o e)).trans (I.base.keep b o e n hb hx),fun b o e n hb hx=>?_,I.base.free,fun b o e hx=>?_,I.base.tups,I.base.frzs,I.base.tbls⟩,⟨_,hn,fun j y v e1 e2 e3=>?_⟩,fun y c e=>?_,I.free,I.freeC,fun p hp=>?_,fun b u q=>?_,by rw [List.length_set];exact I.len⟩
 ·obtain⟨sl,e1⟩:=I.base.slot b o e n hb hx
  exact⟨sl,(hs.2 b (neL b o e)).trans e1⟩
 ·obtain⟨o',e1⟩:=I.base.there b o e hx
  exact⟨o',(hs.2 b (neL b o e)).trans e1⟩
 ·have hji:j≠i:=fun z=>by
   subst z
   rw [List.getElem?_set]at e2
   simp only [if_true]at e2
   split at e2<;>cases e2
  rw [List.getElem?_set_ne (Ne.symm hji)]at e2
  have hy:y≠n:=fun z=>hji (zA hN e1 (z▸hi))
  obtain⟨u,r,l⟩:=hl j y v e1 e2 e3
  refine⟨u,r,?_⟩
  rcases l with ⟨k,q⟩|⟨k,c,q,z⟩
  ·exact .inl ⟨k,by show(if y=n then _ else m y)=_;rw [if_neg hy];exact q⟩
  ·exact .inr ⟨k,c,q,z.sameBut hs (I.cne y c q)⟩
 ·obtain⟨w',z⟩:=I.cell y c e
  exact⟨w',z.sameBut hs (I.cne y c e)⟩
 ·obtain⟨e,n,ne,nf,d⟩:=I.pin p hp
  exact⟨(hs.2 p.1 ne).trans e,n,ne,nf,d⟩
 ·refine(I.hok b u q).stay (fun c v hc y=>(hs.2 c ?_).trans y) (fun _ y=>y) fun _ _ y=>y
  rintro rfl
  rcases hc with rfl|hc
  ·rw [I.free]at q;cases q
  ·rw [I.free]at hc;cases hc
def Ends.gone1 (i:Nat) (D:Ends):Ends:=⟨fun σ H=>D.nx (σ.set i none) H,D.rt,fun σ H=>D.bk (σ.set i none) H,fun σ H=>D.ct (σ.set i none) H⟩
end
def aBw (CX:CXT) (X:Cx) (E:St->XK):Prop:=∀(pins:List (Addr×Obj)) (σ:St) (H:Hp) (s:Shared) (e:Value) (s':Shared),Inv X pins σ H s->CX X.stack H s (E σ) e s'->X.xe e s'
def aT4 (sp:Sp) (E:St->XK) (t:TA):TE:=fun σ H Q=>t σ H fun vs H1=>sp (vs++[]) H1 Q (E σ)
section
variable {X:Cx} {CX:CXT} {k:Nat} {f C:Addr} {fd:FuncData} {ps:List Str} {sp:Sp} {E:St->XK} {x:Str} {p pos:Pos} {e:Expr} {es:List Expr} {t:TA}
theorem aPh {pins:List (Addr×Obj)} {σ:St} {H:Hp} {s:Shared} {Q:VK} {us:List Value} {vs:List V} (F:bC X.prog X.w X.K X.mg X.base CX k f fd ps sp) (hr:eU k X.A) (hb:Binds X.K fd ps []) (hx:aBw CX X E)
  (I:Inv X pins σ H s) (r:Vals vs us) (h:sp (vs++[]) H Q (E σ)):wpAny (model X.prog X.w) X.A (call (.ref f) us) (EP X pins σ Q) X.xe s:=by
 have r2:Vals (vs++[]) (us++[]):=r.append .nil
 have hl:(us++[]).length=ps.length:=by rw [<-r2.length];exact F.len _ _ _ _ h
 refine wpAny_call (codeAny_mono (F.run X.A X.stack s H ⟨us,[]⟩ (us++[]) (vs++[]) Q (E σ) hr I.env0 (hb s us I.kIn hl) r2 h) fun r s' hq=>?_)
 cases r with
 |error e=>exact hx pins σ H s e s' I hq
 |ok fl=>
  cases fl with
  |ret u=>exact I.after hq
  |next=>exact False.elim hq
  |brk=>exact False.elim hq
  |cont=>exact False.elim hq
theorem aUj (C:Cal X.prog X.w X.K X.mg X.base CX k x ps sp) (hr:eU k X.A) (hg:Gl X x) (hx:aBw CX X E)
  (ha:PA X (e::es) t) (hdb:(x==("__debug__":Str))=false:=by decide) (he:starEach (e::es) X.env=(false,eval e X.env)::starEach es X.env:=by rfl) (hpl:(backTo pos (starEach es X.env)).any (·.1)=false:=by rfl):
  PE X (.Call (.Name x p) (e::es) [] pos) (aT4 sp E t):=by
 obtain⟨f,fd,F,hm,hk,hb⟩:=C.ex
 intro pins s σ H Q I h
 refine wpAny_Call_Name_kw (mJ I hg hm ?_ hdb)
 refine PySem.W.callWith_K (h₀:=X.base) I.ok.mod.kin hk (thn (ha pos pins s σ H _ I h) fun us s1 ⟨vs,H1,I1,r,q⟩=>⟨I1.kIn,?_⟩) he hpl
 exact aPh F hr hb hx I1 r q
def aSb (X:Cx) (E:St->XK):Prop:=∀pins σ H s H1 s1 e C dx,Inv X pins σ H s->Inv X pins σ H1 s1->uF s.heap H1 s1.heap e C dx->E σ (.ref C) (some dx) H1->X.xe (.ref e) s1
theorem aVk (hW:aSb X E):aBw (CXe X.prog X.w) X E:=by
 intro pins σ H s ev s' I h
 obtain⟨e,C,dx,H',rfl,os,bare,un,hok,fl,hE⟩:=h
 exact hW pins σ H s H' s' e C dx I (I.call' (ch:=[]) os un hok bare (fun b z=>absurd z (by simp))) fl hE
end
section
variable {X:Cx} {pins:List (Addr×Obj)} {σ:St} {H H1:Hp} {s s1:Shared} {e C dx:Addr}
end
def lH (P:Program) (w:World) (a:Addr) (xs:List ((Int×List Int)×Addr)) (h:Heap):Prop:=∃o es ep t,h.get? a=some o/\o.ExactSet/\o.data= .set es ep t/\es.toList=xs.map (fun x=>((jQ (gW P w)).hash x.1,Value.ref x.2))/\t.Good/\t.place.size=es.size/\(xs.map (·.1)).Nodup/\
 (∀(i j:Nat) (x:(Int×List Int)×Addr),t.place[i]? =some j->xs[i]? =some x->SetTable.oO t ((jQ (gW P w)).hash x.1) j)/\t.Small/\t.plain=true/\t.led= !w.params.followText "set-order"
inductive Nb where
 |i (n:Int)
 |b (c:Bool)
def Nb.v:Nb->V
 | .i n=> .int n
 | .b c=> .bl c
def Nb.k:Nb->Int
 | .i n=>n
 | .b c=>bI c
abbrev Rt:Type:=Nb×List Nb
def kyT (r:Rt):Int×List Int:=(r.1.k,r.2.map Nb.k)
def TKy (H:Hp) (x:List Nb×Addr):Prop:=H x.2=some (.tup (x.1.map Nb.v))
def PKy (H:Hp) (x:(Int×List Int)×Addr):Prop:=∃(r:Rt) (q:Addr),kyT r=x.1/\H x.2=some (.tup [r.1.v,.ref q])/\TKy H (r.2,q)
section
variable {P:Program} {w:World} {H:Hp} {h:Heap} {a:Addr} {s:Shared} {xs:List ((Int×List Int)×Addr)}
theorem lH.stay (h1 h2:Heap) (p:lH P w a xs h1) (k:∀o,h1.get? a=some o->h2.get? a=some o):lH P w a xs h2:=let⟨o,es,ep,t,e,c⟩:=p;⟨o,es,ep,t,k _ e,c⟩
theorem lH.of (I:jA (jQ (gW P w)) s a (!w.params.followText "set-order") xs):lH P w a xs s.heap:=by
 obtain⟨o,es,ep,t,S,r1,r2,r3⟩:=I
 exact⟨o,es,ep,t,S.ho,S.hex,S.hd,S.he,S.good,S.size,S.nd,S.way,r1,r2,r3⟩
theorem lH.is (I:lH P w a xs s.heap) (keys:∀x∈xs,bL (gW P w) s.heap x.1 x.2):jA (jQ (gW P w)) s a (!w.params.followText "set-order") xs:=by
 obtain⟨o,es,ep,t,a1,a2,a3,a4,a5,a6,a7,a8,r1,r2,r3⟩:=I
 exact⟨o,es,ep,t,⟨a1,a2,a3,a4,a5,a6,keys,a7,a8⟩,r1,r2,r3⟩
theorem aRq {b:Nb} {u:Value} (r:RelV b.v u):Value.isNb b.k u=true:=by
 cases b with
 |i n=>obtain⟨tk,rfl⟩:=r;exact beq_self_eq_true _
 |b c=>cases r;exact beq_self_eq_true _
theorem aKw {ns:List Nb}:∀{us:List Value},Vals (ns.map Nb.v) us->ItemsAre (gW P w) (ns.map Nb.k) us:=by
 induction ns with
 |nil=>intro us r;rw [List.map_nil]at r;cases r;exact .nil
 |cons n ns ih=>
  intro us r
  rw [List.map_cons]at r
  cases r with
  |@cons _ v _ _ r1 t=>exact .cons (aRq r1) (ih t)
theorem aQb {x:List Nb×Addr} (ok:HOk P w H h) (e:TKy H x):IsTupleKey (gW P w) h (x.1.map Nb.k) x.2:=by
 obtain⟨_,its,r,o,h1,h2,n,h3⟩:=(show cY P w H h x.2 (.tup (x.1.map Nb.v))from ok _ _ e)
 exact⟨o,its.toArray,n,h1,h2,h3,aKw r⟩
theorem aIs {x:(Int×List Int)×Addr} (ok:HOk P w H h) (e:PKy H x):bL (gW P w) h x.1 x.2:=by
 obtain⟨r0,q,ek,e1,e2⟩:=e
 obtain⟨_,its,r,o,h1,h2,n,h3⟩:=(show cY P w H h x.2 (.tup [r0.1.v,.ref q])from ok _ _ e1)
 obtain⟨u,v,rfl,ru,rv⟩:=vals2 r
 obtain rfl:v=Value.ref q:=rv
 rw [<-ek]
 exact⟨o,_,q,n,h1,h2,h3,aRq ru,aQb ok e2⟩
end
theorem wK:∀{ps:List ((Int×List Int)×Addr)} {us:List Value},Vals (ps.map fun x=>V.ref x.2) us->us=ps.map fun x=>Value.ref x.2
 | [],_,.nil=>rfl
 |_::_,_,.cons (r1:_=Value.ref _) t=>by subst r1;rw [List.map_cons,wK t]
theorem xO:∀{ps:List ((Int×List Int)×Addr)},Vals (ps.map fun x=>V.ref x.2) (ps.map fun x=>Value.ref x.2)
 | []=> .nil
 |_::_=> .cons rfl xO
inductive aN1 (P:Program) (w:World) (K:PySem.W.Frag) (xs:List V) (H:Hp) (Q:VK):Prop
 |mk (p:Addr) (ps:List ((Int×List Int)×Addr)) (q0_:xs=[.ref p]) (q1_:SqL K H p (ps.map fun x=>V.ref x.2)) (q2_:(∀x∈ps,PKy H x)) (q3_:ps.length<=1000) (q4_:(∃ks:List (Int×List Int),ks.length<18/\∀x∈ps,x.1∈ks)) (q5_:∀(l:Addr) (zs:List ((Int×List Int)×Addr)),H l=none->(zs.map (·.1)).Nodup->(∀x∈zs,x∈ps)->(∀x∈ps,∃z∈zs,z.1=x.1)->zs.length<=ps.length->Q (.ref l) (upd H l (.ext (lH P w l zs)))):aN1 P w K xs H Q
def aUb (P:Program) (w:World) (K:PySem.W.Frag):List V->Hp->VK->Prop:=fun xs H Q=>aN1 P w K xs H Q
inductive zX (P:Program) (w:World) (xs:List V) (H:Hp) (Q:VK):Prop
 |mk (p:Addr) (ps:List ((Int×List Int)×Addr)) (q0_:xs=[.ref p]) (q1_:H p=some (.ext (lH P w p ps))) (q2_:(∀x∈ps,PKy H x)) (q3_:ps.length<64) (q4_:∀(l:Addr) (ys:List ((Int×List Int)×Addr)),H l=none->ys.Perm ps->ys.Pairwise (fun x y=>wA x.1 y.1=true)->Q (.ref l) (upd H l (.lst (ys.map fun x=>V.ref x.2)))):zX P w xs H Q
def aM0 (P:Program) (w:World):List V->Hp->VK->Prop:=fun xs H Q=>zX P w xs H Q
section
variable {X:Cx}
theorem aJg (hu:X.A.units+20<cLine) (hc:X.calm=true):fX X (.type "set") (aUb X.prog X.w X.K):=by
 intro pins s σ H xs us Q I r h
 obtain⟨p,ps,rfl,hq,hk,hln,⟨ks,kl,km⟩,q⟩:=h
 obtain⟨u,rfl,ru⟩:=vals1 r
 cases ru
 obtain⟨its,rv,pl,hz⟩:=I.list hq
 have ei:=wK rv
 have hlen:its.length=ps.length:=by rw [ei,List.length_map]
 have at_:∀i,i<ps.length->ps.getD i ((0,[]),0)∈ps:=fun i hi=>by simp [List.getD,hi]
 refine wG (knd:=jQ (gW X.prog X.w)) (items:=its.toArray) (val:=fun i=>(ps.getD i ((0,[]),0)).1) (adr:=fun i=>(ps.getD i ((0,[]),0)).2) (aH8 fun k v hv=>HbV.nb hv) (fun A' hA=>?_) (I.ok.hd hc) pl.isList (fun i v hv=>?_) (fun j hj=>?_) (fun i xs hi M nd=>?_) fun h' tk zs S M hk'=>?_
 ·show A'.units+1<cLine
  omega
 ·have hi:i<its.toArray.size:=(Array.getElem?_eq_some_iff.mp hv).1
  rw [List.size_toArray,hlen]at hi
  rw [List.getElem?_toArray,ei]at hv
  simp [hi]at hv
  rw [<-hv]
  simp [List.getD,hi]
 ·rw [List.size_toArray,hlen]at hj
  exact aIs I.hok (hk _ (at_ j hj))
 ·rw [List.size_toArray,hlen]at hi
  have:=nd.length_le_of_subset (l₂:=ks) fun k hk=>by
   obtain⟨x,hx,rfl⟩:=List.mem_map.mp hk
   obtain⟨j,hj,e⟩:=M.from' x hx
   rw [e]
   exact km _ (at_ j (by omega))
  rw [List.length_map]at this
  omega
 ·have kp:∀b o,s.heap.get? b=some o->h'.get? b=some o:=fun b o e=>hk' b o (Heap.lt_size e) e
  have so:=lH.of S
  have nd:(zs.map (·.1)).Nodup:=by obtain⟨_,_,_,_,S,_⟩:=S;exact S.nd
  refine⟨.ref s.heap.objs.size,_,I.laid (t':=tk) (o:= .ext (lH X.prog X.w s.heap.objs.size zs)) kp (Nat.le_refl _) ⟨so,?_,fun h1 h2 p k=>lH.stay h1 h2 p k⟩,rfl,q _ zs (I.hok.fresh (Nat.le_refl _)) nd (fun x hx=>?_) (fun x hx=>?_) ?_⟩
  ·obtain⟨o,_,_,_,e,_⟩:=so
   exact⟨o,e⟩
  ·obtain⟨j,hj,e⟩:=M.from' x hx
   rw [List.size_toArray,hlen]at hj
   rw [e]
   exact at_ j hj
  ·obtain⟨j,hj,e⟩:=List.getElem_of_mem hx
   obtain⟨z,hz,ez⟩:=M.all j (by rw [List.size_toArray,hlen];exact hj)
   refine⟨z,hz,?_⟩
   rw [ez, <-e]
   simp [List.getD,hj]
  ·have:=M.len
   rw [List.size_toArray,hlen]at this
   exact this
theorem aBg (hu:X.A.units+40<cLine) (hc:X.calm=true):fX X (.builtin "sorted") (aM0 X.prog X.w):=by
 intro pins s σ H xs us Q I r h
 obtain⟨p,ps,rfl,hp,hk,h64,q⟩:=h
 obtain⟨u,rfl,ru⟩:=vals1 r
 cases ru
 obtain⟨so,_,_⟩:=(show cY X.prog X.w H s.heap p (.ext (lH X.prog X.w p ps))from I.hok p _ hp)
 refine aFl aP9 (by omega) (I.ok.hd hc) (so.is fun x hx=>aIs I.hok (hk x hx)) (fun _ _=>trivial) h64 fun h' tk l e ys py hy hl hg kp=>?_
 refine⟨.ref l,_,I.laid (t':=tk) (o:= .lst (ys.map fun x=>V.ref x.2)) kp hl ⟨?_,_,e,xO,hg⟩,rfl,q l ys (I.hok.fresh hl) py hy⟩
 rw [List.length_map,py.length_eq,sizeLine_eq]
 omega
end
def aDd (w:World) (a:Addr) (zs:List Nat) (h:Heap):Prop:=∃o ep tk,h.get? a=some o/\o.ExactSet/\o.data= .set (fH zs tk) ep (tX (!w.params.followText "set-order") zs)/\zs∈fJ
def fG (l:List Nat):List V:=l.map fun k:Nat=> .int (k:Int)
inductive aNs (w:World) (K:PySem.W.Frag) (xs:List V) (H:Hp) (Q:VK):Prop
 |mk (p:Addr) (ns:List Nat) (q0_:xs=[.ref p]) (q1_:SqL K H p (fG ns)) (q2_:(∀n∈ns,n∈[1,2,3])) (q3_:∀(l:Addr) (zs:List Nat),H l=none->zs∈fJ->(∀z,z∈zs↔z∈ns)->Q (.ref l) (upd H l (.ext (aDd w l zs)))):aNs w K xs H Q
def aVm (w:World) (K:PySem.W.Frag):List V->Hp->VK->Prop:=fun xs H Q=>aNs w K xs H Q
inductive aBa (w:World) (xs:List V) (H:Hp) (Q:VK):Prop
 |mk (p:Addr) (zs:List Nat) (q0_:xs=[.ref p]) (q1_:H p=some (.ext (aDd w p zs))) (q2_:∀l,H l=none->Q (.ref l) (upd H l (.lst (fG zs)))):aBa w xs H Q
def aM4 (w:World):List V->Hp->VK->Prop:=fun xs H Q=>aBa w xs H Q
theorem aA5:∀{ns:List Nat} {us:List Value},Vals (fG ns) us->∀(i:Nat) (v:Value),us[i]? =some v->∃t,v= .int (ns.getD i 0:Nat) t
 | [],_,.nil,i,v,h=>by simp at h
 |n::ns,u::us,.cons r t,0,v,h=>by
  obtain⟨tk,e⟩:=r
  have:u=v:=by simpa using h
  exact⟨tk,by rw [<-this,e];rfl⟩
 |n::ns,u::us,.cons r t,i+1,v,h=>by
  have:=aA5 t i v (by simpa using h)
  simpa [List.getD]using this
theorem aDo {α β:Type} {f:α->β} {l:List β} {xs:List α} (hp:l.Perm (xs.map f)):∃zs:List α,zs.Perm xs/\l=zs.map f:=by
 generalize hm:xs.map f=m at hp
 induction hp generalizing xs with
 |nil=>exact⟨xs,List.Perm.refl _,hm.symm⟩
 |cons a p ih=>
  match xs,hm with
  |x::xs,hm=>
   obtain⟨e1,e2⟩:=List.cons.inj hm
   obtain⟨zs,z1,z2⟩:=ih e2
   exact⟨x::zs,z1.cons x,by rw [z2, <-e1];rfl⟩
 |swap a b l=>
  match xs,hm with
  |x::y::xs,hm=>
   obtain⟨e1,e2⟩:=List.cons.inj hm
   obtain⟨e2,e3⟩:=List.cons.inj e2
   exact⟨y::x::xs,List.Perm.swap _ _ _,by rw [<-e1, <-e2, <-e3];rfl⟩
 |trans p1 p2 ih1 ih2=>
  obtain⟨zs,z1,z2⟩:=ih2 hm
  obtain⟨ys,y1,y2⟩:=ih1 z2.symm
  exact⟨ys,y1.trans z1,y2⟩
theorem uK:∀{l m:List Int},l.Perm m->l.Pairwise (·<=·)->m.Pairwise (·<=·)->l=m
 | [],m,h,_,_=>h.nil_eq
 |a::l,[],h,_,_=>absurd h.length_eq (by simp)
 |a::l,b::m,h,h1,h2=>by
  have ha:=(List.pairwise_cons.mp h1)
  have hb:=(List.pairwise_cons.mp h2)
  have e:a=b:=by
   have m1:a∈b::m:=h.mem_iff.mp List.mem_cons_self
   have m2:b∈a::l:=h.mem_iff.mpr List.mem_cons_self
   rcases List.mem_cons.mp m1 with z|z
   ·exact z
   ·rcases List.mem_cons.mp m2 with y|y
    ·exact y.symm
    ·have:=ha.1 b y
     have:=hb.1 a z
     omega
  subst e
  rw [uK ((List.perm_cons a).mp h) ha.2 hb.2]
section
variable {X:Cx}
theorem aKa (hc:X.calm=true):fX X (.type "set") (aVm X.w X.K):=by
 intro pins s σ H xs us Q I r h
 obtain⟨p,ns,rfl,hq,h3,q⟩:=h
 obtain⟨u,rfl,ru⟩:=vals1 r
 cases ru
 obtain⟨its,rv,pl,hz⟩:=I.list hq
 have hlen:its.length=ns.length:=by rw [<-Vals.length rv];unfold fG;rw [List.length_map]
 have v3:∀j,j<its.toArray.size->ns.getD j 0∈[1,2,3]:=fun j hj=>by
  rw [List.size_toArray,hlen]at hj
  have:ns.getD j 0=ns[j]:=by simp [List.getD,hj]
  rw [this]
  exact h3 _ (List.getElem_mem hj)
 refine wH (items:=its.toArray) (val:=fun i=>ns.getD i 0) (I.ok.hd hc) pl.isList (fun i v hv=>aA5 rv i v (by simpa using hv)) v3 fun h' tk S kp'=>?_
 have kp:∀b o,s.heap.get? b=some o->h'.get? b=some o:=fun b o e=>kp' b o (Heap.lt_size e) e
 have so:aDd X.w s.heap.objs.size (sJ (fun i=>ns.getD i 0) its.toArray.size) h':=S
 refine⟨.ref s.heap.objs.size,_,I.laid (t':=tk) (o:= .ext (aDd X.w s.heap.objs.size _)) kp (Nat.le_refl _) ⟨so,?_,fun h1 h2 p k=>?_⟩,rfl,q _ _ (I.hok.fresh (Nat.le_refl _)) (aEe _ _) fun z=>?_⟩
 ·obtain⟨o,_,_,e,_⟩:=so
  exact⟨o,e⟩
 ·obtain⟨o,ep,tk,e,c⟩:=p
  exact⟨o,ep,tk,k _ e,c⟩
 ·rw [aEh v3 _ (Nat.le_refl _) z,List.size_toArray,hlen]
  constructor
  ·rintro⟨j,hj,rfl⟩
   have:ns.getD j 0=ns[j]:=by simp [List.getD,hj]
   show ns.getD j 0∈ns
   rw [this]
   exact List.getElem_mem hj
  ·intro hz
   obtain⟨j,hj,e⟩:=List.getElem_of_mem hz
   exact⟨j,hj,by show ns.getD j 0=z;rw [<-e];simp [List.getD,hj]⟩
theorem aCy (hc:X.calm=true):fX X (.builtin "sorted") (aM4 X.w):=by
 intro pins s σ H xs us Q I r h
 obtain⟨p,zs,rfl,hp,q⟩:=h
 obtain⟨u,rfl,ru⟩:=vals1 r
 cases ru
 obtain⟨so,_,_⟩:=(show cY X.prog X.w H s.heap p (.ext (aDd X.w p zs))from I.hok p _ hp)
 obtain⟨o,ep,tk,ho,hex,hd,hz⟩:=so
 have l3:=aJ8 zs hz
 refine Calls.call_function_entry kind_sorted plain_sorted entry_sorted (args_sorted1 _) ?_
 unfold Builtin.«sorted»
 refine wpAny_bind (m:=checkCount "sorted" 1 1 _) (wpAny_pure ?_)
 have rise:SetTable.pY (tX (!X.w.params.followText "set-order") zs).place:=by
  simp only [fJ,List.mem_cons,List.not_mem_nil,or_false]at hz
  rcases hz with rfl|rfl|rfl|rfl|rfl|rfl|rfl|rfl<;>intro i j h1 h2<;>simp [tX]at h1 h2<;>(obtain rfl|rfl|rfl:j=0∨j=1∨j=2:=by omega)<;>(obtain rfl|rfl|rfl:i=0∨i=1∨i=2:=by omega)<;>first|(exfalso;omega)|(show(_:Nat)<_;simp [tX])
 refine wpAny_bind (jY (by simpa using I.ok.hd hc) ho hex hd (aOo hz) rise rfl rfl (by rw [aMw,sizeLine_eq];omega) fun h' tk' s1 hk=>?_)
 obtain⟨ys,py,ey⟩:=aDo (f:=fun z:Nat=>Value.int (z:Int) (tk z)) (l:=fM X.w p (fH zs tk) ep) (xs:=zs) (by
  have:=iK X.w p (fH zs tk) ep
  have e:(fH zs tk).toList.map (·.2)=zs.map fun z:Nat=>Value.int (z:Int) (tk z):=by simp [fH]
  rw [e]at this
  exact this)
 rw [ey]
 have hi:IntsAre (ys.map fun z:Nat=>Value.int (z:Int) (tk z)) (ys.map fun z:Nat=>(z:Int)):=by
  clear py ey
  induction ys with
  |nil=>exact .nil
  |cons a l ih=>exact .cons _ _ ih
 generalize (ys.map fun z:Nat=>Value.int (z:Int) (tk z))=vs at hi
 have hal:vs.length=ys.length:=by rw [hi.length,List.length_map]
 have yl:=py.length_eq
 refine wpAny_bind (wpAny_newList ?_ (by rw [sizeLine_eq];omega))
 have hoL:(h'.push (seqObj "list" vs.toArray 0)).get? h'.objs.size=some (seqObj "list" vs.toArray 0):=Heap.get?_push_size _ rfl
 refine wpAny_bind (wpAny_holding (wpAny_call_entry slot_list_sort ⟨_,hoL,rfl⟩ entry_list_sort (list_sort_tree hoL hi (by omega) fun out ms a1 a2 a3=>⟨_,rfl,?_⟩) (args_list_sort _)))
 refine wpAny_pure ⟨_,rfl,?_⟩
 obtain⟨e,he⟩:=sortedHeap_at (vs:=vs) (out:=out) hoL
 have hsz:h'.objs.size<(h'.push (seqObj "list" vs.toArray 0)).objs.size:=by rw [Heap.size_push];exact Nat.lt_succ_self _
 have keep:∀b o,s.heap.get? b=some o->(sortedHeap (h'.push (seqObj "list" vs.toArray 0)) h'.objs.size vs out).get? b=some o:=fun b o eb=>by
  have e1:=hk b o eb
  have hlt:=Heap.lt_size e1
  rw [sortedHeap_old (Nat.ne_of_lt hlt) (Nat.lt_trans hlt hsz)]
  exact Heap.get?_push_of_some _ e1
 have hge:s.heap.objs.size<=h'.objs.size:=Nat.le_of_lt s1
 have es:ms=zs.map fun z:Nat=>(z:Int):=uK (a2.trans (py.map _)) a3 (by
  simp only [fJ,List.mem_cons,List.not_mem_nil,or_false]at hz
  rcases hz with rfl|rfl|rfl|rfl|rfl|rfl|rfl|rfl<;>decide)
 have en:ms.map V.int=fG zs:=by rw [es,List.map_map];rfl
 refine⟨.ref h'.objs.size,_,I.laid (t':=tk') (o:= .lst (ms.map V.int)) keep hge ⟨?_,out.toList,e,xM a1,by simpa using he⟩,rfl,by rw [en];exact q _ (I.hok.fresh hge)⟩
 rw [List.length_map,a2.length_eq,List.length_map,sizeLine_eq]
 omega
end
structure Dis (P:Program) (w:World) (K:PySem.W.Frag) (mg:Str->Option Value) (base:Heap) (CX:CXT) (k:Nat) (Cs:Addr->Prop) (m:Str) (ps:List Str) (sp:Addr->Sp):Prop where
 ex:∀C,Cs C->Cls K C/\∃f fd,Meth K C m f/\bC P w K mg base CX k f fd ps (sp C)/\Binds K fd ps []
def aNm (Cs:Addr->Prop) (m:Str) (sp:Addr->Sp) (E:XK) (ta:TE) (t:TA):TE:=fun σ H Q=>ta σ H fun x H1=>∃a C dx fs,x= .ref a/\H1 a=some (.ins C dx fs)/\Cs C/\fs.lookup m=none/\t σ H1 fun vs H2=>sp C (.ref a::vs) H2 Q E
section
variable {X:Cx} {CX:CXT} {k:Nat} {Cs:Addr->Prop} {m:Str} {ps:List Str} {sp:Addr->Sp} {E:XK} {o e:Expr} {es:List Expr} {ta:TE} {t:TA} {apos pos:Pos}
theorem bH {pl:Sem Bool} (he:PE X o ta) (D:Dis X.prog X.w X.K X.mg X.base CX k Cs m ps sp) (hr:eU k X.A) (hx:kO CX X E) (ha:PA X (e::es) t)
  (hst:starEach (e::es) X.env=(false,eval e X.env)::starEach es X.env:=by rfl) (hpl:(backTo pos (starEach es X.env)).any (·.1)=false:=by rfl)
  (ht:eval (.Call (.Attribute o m apos) (e::es) [] pos) X.env=(do
   let ov<-eval o X.env
   standAt apos.atName
   let(f,first)<-holding [ov] (getMethod ov m pl)
   callWith pos f first (backTo pos (starEach (e::es) X.env)) (backToKw pos (keywordEach [] X.env))):=by rfl):
  PE X (.Call (.Attribute o m apos) (e::es) [] pos) (aNm Cs m sp E ta t):=by
 intro pins s σ H Q I h
 refine PySem.W.methodCall_KW (pl:=pl) (thn (he pins s σ H _ I h) fun u s1 ⟨x,H1,I1,rx,a,C,dx,fs,ex,ea,hC,l,q⟩=>?_) ht
 subst ex
 obtain rfl:u=Value.ref a:=rx
 obtain⟨c,f,fd,hm,F,hb⟩:=D.ex C hC
 refine yW I1 ea c hm l ?_
 refine PySem.W.callWith_K (first:=[.ref a]) (h₀:=X.base) I.ok.mod.kin hm.kp (thn (ha pos pins s1 σ H1 _ I1 q) fun us s2 ⟨vs,H2,I2,r,q2⟩=>⟨I2.kIn,?_⟩) hst hpl
 exact aGs (us:= .ref a::us) (vs:= .ref a::vs) F hr hb .nil hx I2 (.cons rfl r) (by rw [List.append_nil];exact q2)
theorem aO {pl:Sem Bool} (he:PE X o ta) (D:Dis X.prog X.w X.K X.mg X.base CX k Cs m ps sp) (hr:eU k X.A) (hx:kO CX X E)
  (ht:eval (.Call (.Attribute o m apos) [] [] pos) X.env=(do
   let ov<-eval o X.env
   standAt apos.atName
   let(f,first)<-holding [ov] (getMethod ov m pl)
   callWith pos f first (backTo pos (starEach [] X.env)) (backToKw pos (keywordEach [] X.env))):=by rfl):
  PE X (.Call (.Attribute o m apos) [] [] pos) (aNm Cs m sp E ta aMf):=by
 intro pins s σ H Q I h
 refine PySem.W.methodCall_KW (pl:=pl) (thn (he pins s σ H _ I h) fun u s1 ⟨x,H1,I1,rx,a,C,dx,fs,ex,ea,hC,l,q⟩=>?_) ht
 subst ex
 obtain rfl:u=Value.ref a:=rx
 obtain⟨c,f,fd,hm,F,hb⟩:=D.ex C hC
 refine yW I1 ea c hm l ?_
 exact PySem.W.callWith_K0 (first:=[.ref a]) I1.kIn hm.kp (aGs (us:=[.ref a]) (vs:=[.ref a]) F hr hb .nil hx I1 (.cons rfl .nil) q)
end
def aC4:Expr->Option V
 | .Constant (.int i) _ _=>some (.int i)
 | .Constant (.bool b) _ _=>some (.bl b)
 | .Constant (.str x) _ _=>some (.str x)
 | .Constant .none _ _=>some .non
 | .UnaryOp .USub (.Constant (.int i) _ _) _=>some (.int (-i))
 |_=>none
def qP:List Expr->Option (List V)
 | []=>some []
 |e::es=>match aC4 e with
  |none=>none
  |some v=>match qP es with
   |none=>none
   |some vs=>some (v::vs)
def tKL (vs:List V):TE:=fun _ H Q=>vs.length<=sizeLine/\∀p,H p=none->Q (.ref p) (upd H p (.lst vs))
section
variable {X:Cx}
theorem aMj {e:Expr} {v:V} (h:aC4 e=some v):PE X e (tC v)/\∀es,starEach (e::es) X.env=(false,eval e X.env)::starEach es X.env:=by
 unfold aC4 at h
 split at h
 ·cases h;exact⟨aG,fun _=>rfl⟩
 ·cases h;exact⟨lJ,fun _=>rfl⟩
 ·cases h;exact⟨aJ,fun _=>rfl⟩
 ·cases h;exact⟨jK,fun _=>rfl⟩
 ·cases h
  refine⟨fun pins s σ H Q I q=>aIu aBi aG pins s σ H Q I ⟨_,rfl,q⟩,fun _=>rfl⟩
 ·cases h
theorem aA2:∀{es:List Expr} {vs:List V},qP es=some vs->PA X es (fun _ H Q=>Q vs H)
 | [],vs,h=>by
  cases h
  exact aC
 |e::es,vs,h=>by
  unfold qP at h
  cases g:aC4 e with
  |none=>rw [g]at h;cases h
  |some v=>
   cases g2:qP es with
   |none=>rw [g,g2]at h;cases h
   |some us=>
    rw [g,g2]at h
    cases h
    obtain⟨h1,h2⟩:=aMj (X:=X) g
    exact aA h1 (aA2 g2) (h2 es)
theorem aQ5 {es:List Expr} {vs:List V} {pos:Pos} (h:qP es=some vs):PE X (.List es pos) (tKL vs):=cO (aA2 h)
end
section
variable {X:Cx}
theorem aMa:fX X (.builtin "any") (fun xs H Q=>∃(p:Addr) (bs:List Bool),xs=[.ref p]/\SqL X.K H p (bs.map V.bl)/\X.calm=true/\Q (.bl (bs.any id)) H):=by
 intro pins s σ H xs us Q I r h
 obtain⟨p,bs,rfl,hq,hc,q⟩:=h
 obtain⟨u,rfl,ru⟩:=vals1 r
 cases ru
 obtain⟨its,rv,pl,hz⟩:=I.list hq
 have hl:=rv.length
 rw [List.length_map]at hl
 refine call_any_walk (wpAny_pyIter_list pl.isList ?_)
 have hlt:p<s.heap.objs.size:=by obtain⟨o,e,_⟩:=pl.isList;exact Heap.lt_size e
 have hne:p≠s.heap.objs.size:=Nat.ne_of_lt hlt
 have hd:X.A.in1.handled=none:=I.ok.hd hc
 refine⟨s.heap.objs.size,_,_,_,_,_,fun i=>bs.getD i false,rfl,Walks.list hd s.heap.objs.size p hne its.toArray,⟨⟨_,Heap.get?_push_size _ rfl,rfl,rfl⟩,pl.isList.push _⟩,fun i v s' Q' E' hv hQ=>?_,fun h' tk hk=>?_⟩
 ·have hv':its[i]? =some v:=by simpa using hv
  have hi:i<its.length:=(List.getElem?_eq_some_iff.mp hv').1
  have hi':i<bs.length:=by omega
  have e1:(bs.map V.bl)[i]? =some (V.bl bs[i]):=by simp [hi']
  obtain⟨u,hu,ru⟩:=rv.get e1
  rw [hv']at hu
  cases hu
  have ru':v=Value.bool bs[i]:=ru
  subst ru'
  have e2:bs.getD i false=bs[i]:=by simp [hi']
  have hQ':Q' (bs.getD i false) s':=hQ
  rw [e2]at hQ'
  exact wpAny_truthy_bool hQ'
 ·refine⟨.bl (bs.any id),H,?_,?_,q⟩
  ·exact I.kept (t':=tk) fun b o e=>hk b o (by simp;exact Nat.ne_of_lt (Heap.lt_size e)) (Heap.get?_push_of_some _ e)
  ·show Value.bool _=Value.bool _
   congr 1
   have e:its.toArray.size=bs.length:=by rw [List.size_toArray];omega
   rw [e]
   have:∀l:List Bool,(List.range l.length).any (fun i=>l.getD i false)=l.any id:=by
    intro l
    induction l with
    |nil=>rfl
    |cons b l ih=>
     rw [List.length_cons,List.range_succ_eq_map,List.any_cons,List.any_cons,List.any_map, <-ih]
     congr 1
   exact this bs
end
def tx (l:List Nat):Str:=⟨l.toArray⟩
theorem iY (l:List Nat):(tx l).cps.toList=l:=List.toList_toArray
theorem cJ (l:List Nat):(tx l).length=l.length:=by show l.toArray.size=_;rw [List.size_toArray]
theorem cZ {l m:List Nat} (h:tx l=tx m):l=m:=by rw [<-iY l,h,iY]
theorem aA8 (z:Str):z=tx z.cps.toList:=by cases z;unfold tx;rw [Array.toArray_toList]
theorem tV (l m:List Nat):tx l++tx m=tx (l++m):=by
 rw [aA8 (tx l++tx m)]
 congr 1
 show((tx l).cps++(tx m).cps).toList=_
 rw [Array.toList_append,iY,iY]
section
variable {X:Cx}
inductive aSc (x:V) (lo:Option Int) (hi:Option Int) (H:Hp) (Q:VK):Prop
 |mk (z:List Nat) (a b:Nat) (q0_:x= .str (tx z)) (q1_:lo=some (a:Int)) (q2_:hi=some (b:Int)) (q3_:a<=b) (q4_:z.length<=sizeLine) (q5_:Q (.str (tx ((z.drop a).take (b-a)))) H):aSc x lo hi H Q
def aWq:V->Option Int->Option Int->Hp->VK->Prop:=fun x lo hi H Q=>aSc x lo hi H Q
end
def Its (z:List Nat):It:=⟨fun i _=>i<z.length,fun i H x H'=>H'=H/\∃c,z[i]? =some c/\x= .str (tx [c]),fun i _=>z.length<=i⟩
theorem aN5 {P:Program} {w:World} {K:PySem.W.Frag} {tg:Expr} (it:Addr) (z:List Nat) (t:Tok):Turn P w K tg (Its z) [it] it (fun i h=>h.IsStrIter it "str_ascii_iterator" (tx z) t i) where
 mem:=by simp
 obj:=fun i h st b hb=>by
  have e:b=it:=by simpa using hb
  subst e
  obtain⟨o,e,c,d⟩:=st
  exact⟨o,e,fun v z=>by rw [d]at z;cases z⟩
 keep:=fun i h h' st k=>let⟨o,ho,r⟩:=st;⟨o,k it (by simp) o ho,r⟩
 item:=by
  intro X hP hw hK hc i pins s σ H E I hf st hg
  subst hP hw hK
  obtain⟨f0,f1,f2,f3,f4,f5⟩:=hf it (by simp)
  have hx:(tx z).cps[i]? =some (z[i]'hg):=by
   show z.toArray[i]? =_
   rw [List.getElem?_toArray,List.getElem?_eq_getElem hg]
  refine wpAny_pyNext_ascii_item st hx fun h' st' sb=>?_
  have I1:Inv X pins σ H {s with heap:=h',toks:=s.toks+1}:=I.turned (fun b o hb e=>(sb.2 b hb).trans e) f0 f1 f3 f4 f5
  obtain⟨o,e,c,d⟩:=id st'
  exact⟨_,rfl,aHd (s:={s with heap:=h',toks:=s.toks+1}) e c d (by decide) ⟨.str (tx [z[i]'hg]),H,I1,⟨_,rfl⟩,⟨rfl,_,List.getElem?_eq_getElem hg,rfl⟩,st',fun b hb=>(hf b hb).1⟩⟩
 done:=by
  intro X hP hw hK hc i pins s σ H E I hf st hg
  subst hP hw hK
  obtain⟨f0,f1,f2,f3,f4,f5⟩:=hf it (by simp)
  have hx:(tx z).cps[i]? =none:=by
   show z.toArray[i]? =_
   rw [List.getElem?_toArray,List.getElem?_eq_none hg]
  exact wpAny_pyNext_ascii_end (I.ok.hd hc) st hx fun h' eb=>⟨rfl,I.turned (t':=s.toks) (fun b o hb e=>eb b o hb e) f0 f1 f3 f4 f5⟩
 self:=fun _ _ _ _ _ st h=>wpAny_pyIter_striter_ascii st h
section
variable {X:Cx} {tg:Expr}
def aV0 (te:TE):TI:=fun σ H R=>te σ H fun x H1=>∃z:List Nat,x= .str (tx z)/\(∀c∈z,c<128)/\R (Its z) H1
theorem aTk {l:Expr} {tl:TE} (hl:PE X l tl):PI X tg l (aV0 tl):=by
 intro pins s σ H R I h
 refine thn (hl pins s σ H _ I h) fun v s1 ⟨x,H1,I1,r1,q1⟩=>?_
 obtain⟨z,rfl,ha,q⟩:=q1
 obtain⟨t,rfl⟩:=r1
 refine wpAny_pyIter_ascii (by
  show z.toArray.all (·<128)=true
  rw [List.all_toArray,List.all_eq_true]
  exact fun c hc=>decide_eq_true (ha c hc)) ?_
 refine⟨s1.heap.objs.size,[s1.heap.objs.size],_,_,H1,rfl,I1.kept (t':=s1.toks) fun b o e=>Heap.get?_push_of_some _ e,aN5 _ z t,⟨_,Heap.get?_push_size _ rfl,rfl,rfl⟩,fun b hb=>?_,q⟩
 have e:b=s1.heap.objs.size:=by simpa using hb
 subst e
 exact I1.fpOk (Nat.le_refl _) (I1.hok.fresh (Nat.le_refl _))
theorem aPt {z:List Nat} {g:TG} {tb:TS} {D:Ends} {σ:St} {H:Hp} (Pv:Nat->St->Hp->Prop) (h0:Pv 0 σ H)
  (hs:∀i c σ H,z[i]? =some c->Pv i σ H->g (.str (tx [c])) σ H fun σ2 H2=>tb {D with nx:=Pv (i+1),ct:=Pv (i+1),bk:=D.nx} σ2 H2) (hd:∀σ H,Pv z.length σ H->D.nx σ H):
  ∃W:Nat->Nat->St->Hp->Prop,(∃m,W 0 m σ H)/\∀i m σ H,W i m σ H->
   ((Its z).stop i H/\D.nx σ H)∨((Its z).go i H/\∃N:St->Hp->Prop,(∀σ' H',N σ' H'->∃m',m'<m/\W (i+1) m' σ' H')/\∀x H',(Its z).yld i H x H'->g x σ H' fun σ2 H2=>tb {D with nx:=N,ct:=N,bk:=D.nx} σ2 H2):=by
 refine⟨fun i m σ H=>m=z.length-i/\i<=z.length/\Pv i σ H,⟨z.length,by simp,Nat.zero_le _,h0⟩,?_⟩
 rintro i m σ H ⟨rfl,hi,p⟩
 by_cases hlt:i<z.length
 ·refine .inr ⟨hlt,Pv (i+1),fun σ' H' p'=>⟨z.length-(i+1),by omega,rfl,hlt,p'⟩,fun x H' y=>?_⟩
  obtain⟨e,c,hc,ex⟩:=y
  subst e ex
  exact hs i c σ _ hc p
 ·have e:i=z.length:=by omega
  subst e
  exact .inl ⟨Nat.le_refl _,hd σ H p⟩
def glu (sep:List Nat):List (List Nat)->List Nat
 | []=>[]
 | [x]=>x
 |x::y::r=>x++(sep++glu sep (y::r))
theorem aEk (sep:List Nat):∀ls:List (List Nat),Str.join (tx sep) (ls.map tx)=tx (glu sep ls)
 | []=>rfl
 | [x]=>rfl
 |x::y::r=>by
  show tx x++tx sep++Str.join (tx sep) ((y::r).map tx)=_
  rw [aEk sep (y::r),tV,tV,glu,List.append_assoc]
theorem aEj (n:Nat):∀(ls:List (List Nat)) (a:Nat),(ls.map tx).foldl (fun acc s=>acc+s.length+n) a=a+((ls.map List.length).sum+ls.length*n)
 | [],a=>by simp
 |x::r,a=>by
  rw [List.map_cons,List.foldl_cons,aEj n r,cJ,List.map_cons,List.sum_cons,List.length_cons,Nat.succ_mul]
  omega
theorem aBe:∀{ls:List (List Nat)} {us:List Value},Vals (ls.map fun l=>V.str (tx l)) us->∃l:List (Str×Tok),strValues l=us/\l.map (·.1)=ls.map tx
 | [],_,.nil=>⟨[],rfl,rfl⟩
 |x::ls,_,.cons r1 t=>by
  obtain⟨l,e1,e2⟩:=aBe t
  obtain⟨tk,rfl⟩:=r1
  exact⟨(tx x,tk)::l,by rw [<-e1];rfl,by rw [List.map_cons,e2];rfl⟩
inductive aNl (x:V) (xs:List V) (H:Hp) (Q:VK):Prop
 |mk (sep:List Nat) (p:Addr) (ls:List (List Nat)) (q0_:x= .str (tx sep)) (q1_:xs=[.ref p]) (q2_:H p=some (.lst (ls.map fun l=>V.str (tx l)))) (q3_:(ls.map List.length).sum+ls.length*sep.length<=100000) (q4_:Q (.str (tx (glu sep ls))) H):aNl x xs H Q
def rJoin:V->List V->Hp->VK->Prop:=fun x xs H Q=>aNl x xs H Q
theorem uW:MtR X "str.join" rJoin:=by
 intro pins s σ H x xs v us Q I rx rv h
 obtain⟨sep,p,ls,rfl,rfl,hp,hz,q⟩:=h
 obtain⟨t,rfl⟩:=rx
 obtain⟨u,rfl,ru⟩:=vals1 rv
 cases ru
 obtain⟨its,r,pl,_⟩:=I.list (SqL.of hp)
 obtain⟨l,e1,e2⟩:=aBe r
 have ok:JoinOk (tx sep) (ls.map tx)=true:=by
  have:Builtin.Str.tooLong ((ls.map tx).toArray.foldl (fun acc s=>acc+s.length+(tx sep).length) 0)=false:=by
   rw [List.foldl_toArray,aEj,cJ]
   unfold Builtin.Str.tooLong
   rw [decide_eq_false_iff_not,sizeLine_eq]
   omega
  unfold JoinOk
  rw [this]
  rfl
 refine SC.join (l:=l) (texts:=ls.map tx) (by rw [e1];exact pl.isList) e2 ok fun t' k=>⟨.str (tx (glu sep ls)),H,I.tok k,⟨t',?_⟩,q⟩
 show Value.str (Builtin.Str.glued (tx sep) (ls.map tx)) t'=_
 rw [StrLaws.glued_eq_join,aEk]
inductive aE9 (x:V) (xs:List V) (H:Hp) (Q:VK):Prop
 |mk (z y:List Nat) (q0_:x= .str (tx z)) (q1_:xs=[.str (tx y)]) (q2_:Q (.bl (decide (z.take y.length=y))) H):aE9 x xs H Q
def aQu:V->List V->Hp->VK->Prop:=fun x xs H Q=>aE9 x xs H Q
theorem aJt:MtR X "str.startswith" aQu:=by
 intro pins s σ H x xs v us Q I rx rv h
 obtain⟨z,y,rfl,rfl,q⟩:=h
 obtain⟨t,rfl⟩:=rx
 obtain⟨u,rfl,tk,rfl⟩:=vals1 rv
 have e:Txt.startswith (tx z) (tx y)=decide (z.take y.length=y):=by
  unfold Txt.startswith
  rw [StrLaws.subAt_eq,cJ,cJ,iY,iY,List.drop_zero,Bool.eq_iff_iff,Bool.and_eq_true,decide_eq_true_iff,beq_iff_eq,decide_eq_true_iff]
  constructor
  ·exact fun h=>h.2
  ·intro h
   refine⟨?_,h⟩
   have:=congrArg List.length h
   rw [List.length_take]at this
   omega
 refine SC.startswith ⟨.bl _,H,I,rfl,?_⟩
 rw [e]
 exact q
inductive aLl (xs:List V) (H:Hp) (Q:VK):Prop
 |mk (z:List Nat) (q0_:xs=[.str (tx z)]) (q1_:z≠[]) (q2_:NumText.AllDigits z) (q3_:z.length<=640) (q4_:Q (.int ((NumText.digitsVal z:Nat):Int)) H):aLl xs H Q
def aVo:List V->Hp->VK->Prop:=fun xs H Q=>aLl xs H Q
theorem aA6:fX X (.type "int") aVo:=by
 intro pins s σ H xs us Q I r h
 obtain⟨z,rfl,h1,h2,h3,q⟩:=h
 obtain⟨u,rfl,tk,rfl⟩:=vals1 r
 have e:intText? (tx z)=some ((NumText.digitsVal z:Nat):Int):=by
  have:=intText_digits (x:=tx z) (by rw [iY];exact h2) (by rw [iY];exact h1) (by rw [cJ];omega)
  rw [iY]at this
  exact this
 exact W.KIN.call_text e (by rw [cJ];exact h3) ⟨.int _,H,I.tok _,⟨_,rfl⟩,q⟩
end
def itx (i:Int):List Nat:=(Str.ofString (toString i)).cps.toList
theorem aLk (i:Int):Str.ofString (toString i)=tx (itx i):=aA8 _
abbrev TF1:=St->Hp->(List Nat->Hp->Prop)->Prop
abbrev TFp:=St->Hp->List Nat->(List Nat->Hp->Prop)->Prop
def tpC (z:List Nat):TF1:=fun _ H Q=>Q z H
def tpV (te:TE):TF1:=fun σ H Q=>te σ H fun x H1=>(∃z,x= .str (tx z)/\z.length<=sizeLine/\Q z H1)∨∃i:Int,x= .int i/\i.natAbs.log2<1920/\Q (itx i) H1
def aUu:TFp:=fun _ H acc Q=>Q acc H
def aS2 (tp:TF1) (ts:TFp):TFp:=fun σ H acc Q=>tp σ H fun z H1=>acc.length+z.length<=sizeLine/\ts σ H1 (acc++z) Q
def PF1 (X:Cx) (e:Expr) (t:TF1):Prop:=∀(pins:List (Addr×Obj)) (s:Shared) (σ:St) (H:Hp) (Q:List Nat->Hp->Prop),Inv X pins σ H s->t σ H Q->wpAny (model X.prog X.w) X.A (eval e X.env) (fun v s1=>∃z tk H1,v= .str (tx z) tk/\Inv X pins σ H1 s1/\Q z H1) X.xe s
def PFs (X:Cx) (es:List Expr) (t:TFp):Prop:=∀(pins:List (Addr×Obj)) (s:Shared) (σ:St) (H:Hp) (acc:List Nat) (Q:List Nat->Hp->Prop) (R:Str->Shared->Prop),Inv X pins σ H s->acc.length<=sizeLine->t σ H acc Q->(∀z H1 s1,z.length<=sizeLine->Inv X pins σ H1 s1->Q z H1->R (tx z) s1)->Joins (model X.prog X.w) X.A X.xe (evalEach es X.env) (tx acc) R s
section
variable {X:Cx}
theorem sI {x:Str} {j:Nat} {pos:Pos}:PF1 X (.Constant (.str x) j pos) (tpC x.cps.toList):=fun pins s σ H Q I h=>Calls.Constant_str ⟨x.cps.toList,_,H,by rw [<-aA8],I.tok _,h⟩
theorem aCt {e:Expr} {te:TE} {pos:Pos} (he:PE X e te):PF1 X (.FormattedValue e (-1) none pos) (tpV te):=by
 intro pins s σ H Q I h
 refine wpAny_FormattedValue_plain (thn (he pins s σ H _ I h) fun v s1 ⟨x,H1,I1,r1,q1⟩=>?_)
 rcases q1 with ⟨z,rfl,hz,q⟩|⟨i,rfl,hi,q⟩
 ·obtain⟨t,rfl⟩:=r1
  exact wpAny_formatField_str ⟨z,_,H1,rfl,I1,q⟩ ⟨z,_,H1,rfl,I1.tok _,q⟩ (by rw [cJ];exact hz)
 ·obtain⟨t,rfl⟩:=r1
  exact wpAny_formatField_int hi ⟨itx i,_,H1,by rw [<-aLk],I1.tok _,q⟩
theorem vB:PFs X [] aUu:=fun pins s σ H acc Q R I ha h k=>k acc H s ha I h
theorem bV {e:Expr} {es:List Expr} {t:TF1} {ts:TFp} (h1:PF1 X e t) (h2:PFs X es ts) (he:evalEach (e::es) X.env=eval e X.env::evalEach es X.env:=by rfl):PFs X (e::es) (aS2 t ts):=by
 intro pins s σ H acc Q R I ha h k
 rw [he]
 refine wpAny_mono (h1 pins s σ H _ I h) (fun v s1 ⟨z,tk,H1,ev,I1,hz,q⟩=>?_) fun _ _ x=>x
 refine⟨tx z,tk,ev,?_,?_⟩
 ·rw [tV,cJ,List.length_append];exact hz
 ·rw [tV]
  exact h2 pins s1 σ H1 (acc++z) Q R I1 (by rw [List.length_append];exact hz) q k
def aWl (ts:TFp):TE:=fun σ H Q=>ts σ H [] fun z H1=>Q (.str (tx z)) H1
theorem aCi {a b:Expr} {es:List Expr} {ts:TFp} {pos:Pos} (h:PFs X (a::b::es) ts):PE X (.JoinedStr (a::b::es) pos) (aWl ts):=by
 intro pins s σ H Q I hq
 refine wpAny_JoinedStr (h pins s σ H [] _ _ I (Nat.zero_le _) hq fun z H1 s1 hz I1 q=>?_)
 exact⟨by rw [cJ];exact hz,.str (tx z),H1,I1.tok _,⟨_,rfl⟩,q⟩
inductive aLe (xs:List V) (H:Hp) (Q:VK):Prop
 |mk (i:Int) (q0_:xs=[.int i]) (q1_:i.natAbs.log2<1920) (q2_:Q (.str (tx (itx i))) H):aLe xs H Q
def aVa:List V->Hp->VK->Prop:=fun xs H Q=>aLe xs H Q
theorem jG:fX X (.type "str") aVa:=by
 intro pins s σ H xs us Q I r h
 obtain⟨i,rfl,hi,q⟩:=h
 exact aCd pins s σ H _ us Q I r ⟨i,rfl,hi,by show Q (.str (Str.ofString (toString i))) H;rw [aLk];exact q⟩
end
def aO0:R2:=fun x y H Q=>∃i j,x= .str i/\y= .str j/\i.length+j.length<=sizeLine/\Q (.str (i++j)) H
theorem dH {X:Cx}:OpR X (binaryOp .Add) aO0:=aFy
def cH (v:Option Int) (d n:Nat):Nat:=match v with
 |none=>d
 |some i=>(max 0 (min (if i<0 then i+(n:Int)else i) (n:Int))).toNat
theorem vC {v:Option Int} {d n:Nat} (h:d<=n):cH v d n<=n:=by
 unfold cH
 cases v with
 |none=>exact h
 |some i=>dsimp only;split<;>omega
theorem aD1 (v:Option Int) (d n:Nat):((cH v d n:Nat):Int)=match v with|none=>(d:Int)|some i=>max 0 (min (if i<0 then i+(n:Int)else i) (n:Int)):=by
 cases v with
 |none=>rfl
 |some i=>show((max 0 (min (if i<0 then i+(n:Int)else i) (n:Int))).toNat:Int)=_;dsimp only;split<;>omega
theorem yU {a b:Int} (h:b<=a):sliceRange a b 1=[]:=by
 unfold sliceRange
 rw [if_pos (by decide)]
 simp [show¬a<b by omega]
theorem aPd (lo hi:Option Int) (n:Nat):Builtin.Str.strSliceIndices lo hi 1 n=Builtin.Str.strSliceIndices (some ((cH lo 0 n:Nat):Int)) (some ((max (cH lo 0 n) (cH hi n n):Nat):Int)) 1 n:=by
 have l1:cH lo 0 n<=n:=vC (Nat.zero_le _)
 have l2:cH hi n n<=n:=vC (Nat.le_refl _)
 have h0:Builtin.Str.strSliceIndices lo hi 1 n=sliceRange ((cH lo 0 n:Nat):Int) ((cH hi n n:Nat):Int) 1:=by
  rw [aD1,aD1]
  rfl
 have h1:Builtin.Str.strSliceIndices (some ((cH lo 0 n:Nat):Int)) (some ((max (cH lo 0 n) (cH hi n n):Nat):Int)) 1 n=sliceRange ((cH lo 0 n:Nat):Int) ((max (cH lo 0 n) (cH hi n n):Nat):Int) 1:=by
  have e1:max (0:Int) (min ((cH lo 0 n:Nat):Int) (n:Int))=((cH lo 0 n:Nat):Int):=by omega
  have e2:max (0:Int) (min ((max (cH lo 0 n) (cH hi n n):Nat):Int) (n:Int))=((max (cH lo 0 n) (cH hi n n):Nat):Int):=by omega
  simp only [Builtin.Str.strSliceIndices,show¬(((cH lo 0 n:Nat):Int)<0) by omega,show¬(((max (cH lo 0 n) (cH hi n n):Nat):Int)<0) by omega,if_false,e1,e2,show((1:Int)>0)=True from by simp,if_true]
 rw [h0,h1]
 rcases Nat.le_total (cH lo 0 n) (cH hi n n)with g|g
 ·rw [Nat.max_eq_right g]
 ·rw [Nat.max_eq_left g,yU (by omega),yU (by omega)]
section
variable {X:Cx}
inductive aSd (x:V) (lo:Option Int) (hi:Option Int) (H:Hp) (Q:VK):Prop
 |mk (z:List Nat) (q0_:x= .str (tx z)) (q1_:z.length<=sizeLine) (q2_:Q (.str (tx ((z.drop (cH lo 0 z.length)).take (cH hi z.length z.length-cH lo 0 z.length)))) H):aSd x lo hi H Q
def aJe:V->Option Int->Option Int->Hp->VK->Prop:=fun x lo hi H Q=>aSd x lo hi H Q
theorem uT {pins:List (Addr×Obj)} {s:Shared} {σ:St} {H:Hp} {z:List Nat} {t:Tok} {l u:Option (Int×Tok)} {sl:Addr} {Q:VK} (I:Inv X pins σ H s) (hs:s.heap.IsSlice sl l u none) (hz:z.length<=sizeLine)
  (q:Q (.str (tx ((z.drop (cH (l.map (·.1)) 0 z.length)).take (cH (u.map (·.1)) z.length z.length-cH (l.map (·.1)) 0 z.length)))) H):wpAny (model X.prog X.w) X.A (getItem (.str (tx z) t) (.ref sl)) (EP X pins σ Q) X.xe s:=by
 refine wpAny_getItem_str_slice hs rfl ?_
 have hl:=cJ z
 generalize ea:cH (l.map (·.1)) 0 z.length=a at q
 generalize eb:cH (u.map (·.1)) z.length z.length=b at q
 have la:a<=z.length:=by rw [<-ea];exact vC (Nat.zero_le _)
 have lb:b<=z.length:=by rw [<-eb];exact vC (Nat.le_refl _)
 have pk0:slicePicked (tx z) l u none=Builtin.Str.strSliceIndices (some (a:Int)) (some ((max a b:Nat):Int)) 1 z.length:=by
  show Builtin.Str.strSliceIndices _ _ 1 (tx z).length=_
  rw [hl,aPd,ea,eb]
 have pk:(slicePicked (tx z) l u none).filterMap ((tx z).cps[·]?)=(z.drop a).take (b-a):=by
  have h:=StrLaws.sliced_plain (tx z) (a:=a) (b:=max a b) (by omega) (by omega)
  rw [hl,iY,show max a b-a=b-a by omega]at h
  rw [pk0]
  exact h
 unfold sliceMade
 split
 ·rename_i hw
  simp only [Option.map_none,Option.getD_none,beq_self_eq_true,Bool.true_and,beq_iff_eq]at hw
  rw [pk0,StrLaws.strSliceIndices_plain (by omega) (by omega),List.length_map,List.length_range,hl]at hw
  have e:(z.drop a).take (b-a)=z:=by
   rcases Nat.eq_zero_or_pos z.length with g|g
   ·rw [List.length_eq_zero_iff.mp g];simp
   ·have:a=0:=by omega
    subst this
    rw [List.drop_zero]
    exact List.take_of_length_le (by omega)
  rw [e]at q
  exact⟨.str (tx z),H,I,⟨t,rfl⟩,q⟩
 ·rw [pk]
  exact⟨by show(tx ((z.drop a).take (b-a))).length<=sizeLine;rw [cJ,List.length_take,List.length_drop];omega,.str (tx ((z.drop a).take (b-a))),H,I.tok _,⟨_,rfl⟩,q⟩
theorem fK:SlR X aJe:=by
 intro pins s σ H x v vl vu lo hi sl Q I rx hs pl pu h
 obtain⟨z,rfl,hz,q⟩:=h
 obtain⟨t,rfl⟩:=rx
 refine⟨"str",_,F.slot_str_getitem.lookup,typeIs_str _ _ _,?_⟩
 cases pl with
 |int i ti=>
  cases pu with
  |int j tj=>exact uT (l:=some (i,ti)) (u:=some (j,tj)) I hs hz q
  |none=>exact uT (l:=some (i,ti)) (u:=none) I hs hz q
 |none=>
  cases pu with
  |int j tj=>exact uT (l:=none) (u:=some (j,tj)) I hs hz q
  |none=>exact uT (l:=none) (u:=none) I hs hz q
theorem iJ (k d n:Nat):cH (some (k:Int)) d n=min k n:=by
 unfold cH
 dsimp only
 rw [if_neg (by omega)]
 omega
theorem aO3:SlR X aWq:=fun pins s σ H x v vl vu lo hi sl Q I rx hs pl pu h=>fK pins s σ H x v vl vu lo hi sl Q I rx hs pl pu (by
 obtain⟨z,a,b,rfl,rfl,rfl,hab,hz,q⟩:=h
 refine⟨z,rfl,hz,?_⟩
 rw [iJ,iJ]
 have e:(z.drop (min a z.length)).take (min b z.length-min a z.length)=(z.drop a).take (b-a):=by
  rcases Nat.lt_or_ge a z.length with g|g
  ·rw [Nat.min_eq_left (Nat.le_of_lt g)]
   rcases Nat.lt_or_ge b z.length with g2|g2
   ·rw [Nat.min_eq_left (Nat.le_of_lt g2)]
   ·rw [Nat.min_eq_right g2,List.take_of_length_le (by rw [List.length_drop];omega),List.take_of_length_le (by rw [List.length_drop];omega)]
  ·rw [Nat.min_eq_right g,List.drop_of_length_le (Nat.le_refl _),List.drop_of_length_le g,List.take_nil,List.take_nil]
 rw [e]
 exact q)
end
section
variable {X:Cx}
end
theorem xW:∀{ls:List Str} {us:List Value},Vals (ls.map V.str) us->PyProof.Rows.StrsAre us ls
 | [],_,h=>by cases h;exact .nil
 |x::ls,_,h=>by
  cases h with
  |cons r rr=>
   obtain⟨t,rfl⟩:=r
   exact .cons x t (xW rr)
theorem countIn_strs (k:Str):∀ls:List Str,countIn (.str k) (ls.map PyData.str)=((ls.count k:Nat):Int)
 | []=>rfl
 |x::ls=>by
  rw [List.map_cons,countIn,countIn_strs k ls,List.count_cons]
  simp only [same]
  rcases Bool.eq_false_or_eq_true (x==k)with hb|hb<;>simp only [hb,Bool.false_eq_true,if_true,if_false]<;>push_cast<;>omega
inductive aE0 (x:V) (vs:List V) (H:Hp) (Q:VK):Prop
 |mk (l:Addr) (ls:List Str) (k:Str) (q0_:x= .ref l) (q1_:vs=[.str k]) (q2_:H l=some (.lst (ls.map V.str))) (q3_:Q (.int (ls.count k:Nat)) H):aE0 x vs H Q
def aPp:V->List V->Hp->VK->Prop:=fun x vs H Q=>aE0 x vs H Q
theorem aOs {X:Cx}:MtM X "list.count" aPp:=by
 intro pins s σ H x vs v us Q I rx rv h
 obtain⟨l,ls,k,rfl,rfl,hH,q⟩:=h
 cases rx
 obtain⟨u,rfl,t,rfl⟩:=rv.one
 obtain⟨its,rv',pl,hz⟩:=I.list (SqL.of hH)
 refine PyProof.Rows.count_list_strs pl.isList (xW rv') ?_
 rw [countIn_strs]
 exact⟨.int _,H,I.tok _,⟨_,rfl⟩,q⟩
section
variable {X:Cx} {pins:List (Addr×Obj)} {σ:St} {H H1:Hp} {s s1:Shared} {e C dx:Addr}
def aSf (K:PySem.W.Frag) (CA CB:Addr) (i:Nat) (σ:St) (ta tb:TS) (D:Ends):XK:=fun cls od H1=>∃C dx,cls= .ref C/\od=some dx/\
  ((PySem.W.exmOne K (.ref C) (.ref CA)=some true/\∀e,H1 e=none->ta (D.gone1 i) (σ.set i (some (.ref e))) (upd H1 e (zO e C dx)))∨
   (PySem.W.exmOne K (.ref C) (.ref CA)=some false/\PySem.W.exmOne K (.ref C) (.ref CB)=some true/\∀e,H1 e=none->tb (D.gone1 i) (σ.set i (some (.ref e))) (upd H1 e (zO e C dx))))
theorem aP6 {D:Ends} {ta tb:TS} {xa xb n:Str} {CA CB:Addr} {i:Nat} {pa pb posa posb:Pos} {a₀ b₀:Stmt} {ra rb:List Stmt} (hst:X.stack=X.env::X.outer) (hf:X.env.frame=some X.env.locals) (hga:Gl X xa) (hma:X.mg xa=some (.ref CA)) (hgb:Gl X xb) (hmb:X.mg xb=some (.ref CB)) (hN:X.N.Nodup) (hi:X.N[i]? =some n)
  (hloc:X.env.kindOf n=some .local) (hlx:X.env.scope.names.lookup n=some .local) (hsa:∀e,PSs (X.suite e) (a₀::ra) ta) (hsb:∀e,PSs (X.suite e) (b₀::rb) tb) (hda:(xa==("__debug__":Str))=false) (hdb:(xb==("__debug__":Str))=false)
  (I:Inv X pins σ H s) (I1:Inv X pins σ H1 s1) (f:uF s.heap H1 s1.heap e C dx) (hE:aSf X.K CA CB i σ ta tb D (.ref C) (some dx) H1):
  wpAny (model X.prog X.w) X.A (noteFrame (.ref e) X.env) (fun _ s₂=>wpAny (model X.prog X.w) X.A (setFlight (.ref e) none) (fun _ s₃=>wpAny (model X.prog X.w) X.A (handleBy (.ref e) X.env [.ExceptHandler (some (.Name xa pa)) (some n) (a₀::ra) posa,.ExceptHandler (some (.Name xb pb)) (some n) (b₀::rb) posb]) (SP X pins D) X.xe s₃) X.xe s₂) X.xe s1:=by
 obtain⟨⟨vs,sl,he,hsz,hz,hT⟩,free,new⟩:=f
 have hfr:X.A.frames=some (X.env::X.outer):=by rw [<-hst];exact I.ok.frames
 have hfun:s1.heap.FunFrames X.base (X.env::X.outer):=by have:=I1.stack;rw [hst]at this;exact this
 have hne:e∉frs (X.env::X.outer):=fun hm=>by
  obtain⟨_,o,ho,hnf⟩:=hfun.mem hm
  rw [he]at ho
  cases ho
  exact hnf vs rfl
 refine yP hfr hfun hf he rfl hsz hz fun h1 old hold nt=>?_
 refine uC (s:={s1 with heap:=h1}) hne nt fun h2 l=>?_
 have hl2:Left X.stack e ⟨.ref C,some dx,.fields vs,sl⟩ s1.heap h2 old:=by rw [hst];exact l
 have I2:=landed I I1 new free (fun T z=>hT T (hold T z)) hl2
 obtain⟨vs',T',oT',ts',a1,a2,a3,a4,a5,a6,a7,a8⟩:=l.at_
 obtain⟨b1,b2,b3,b4⟩:=I.older new
 obtain⟨c1,c2,c3,c4⟩:=I1.older a5
 have I2s:=I2.suite (e:=e)
 have LT:PySem.W.Looks (model X.prog X.w) h2 (typeOf (.ref e)) (.ref C):=(PySem.W.Looks.ld a1).andThen .now
 have one:∀{x:Str} {CT:Addr} {p pos:Pos} {s₀:Stmt} {rest:List Stmt} {hs:List ExceptHandler} {ts:TS},Gl X x->X.mg x=some (.ref CT)->(∀e,PSs (X.suite e) (s₀::rest) ts)->(x==("__debug__":Str))=false->PySem.W.exmOne X.K (.ref C) (.ref CT)=some true->(∀e,H1 e=none->ts (D.gone1 i) (σ.set i (some (.ref e))) (upd H1 e (zO e C dx)))->
   wpAny (model X.prog X.w) X.A (handleBy (.ref e) X.env (.ExceptHandler (some (.Name x p)) (some n) (s₀::rest) pos::hs)) (SP X pins D) X.xe {s1 with heap:=h2}:=fun{x CT p pos s₀ rest hs ts} hg hm hsu hdb hx hq=>by
  refine wpAny_handleBy_cons (codeAny_handlers_test (mJ I2s hg hm ?_ hdb)) (by intro q;cases q)
  refine(PySem.W.exm_one (M:=model X.prog X.w) I2.kIn LT hx).here ?_
  refine codeAny_handlers_suite_as ?_
  refine flight_again (s:={s1 with heap:=h2}) a1 rfl a3 a6 a7 a8 fun h3 hk3=>?_
  have hHT:H1 T'=none:=I1.hok.fresh a5
  have I3:Inv X pins σ H1 {s1 with heap:=h3}:=I2.turned (s:={s1 with heap:=h2}) (t':=s1.toks) (it:=T') (fun b o hb eb=>(hk3 b hb).trans eb) hHT c2 (.inr c1) c3 c4
  have he3:h3.get? e=some ⟨.ref C,some dx,.fields vs',sl⟩:=(hk3 e (Ne.symm a4)).trans a1
  have I4:=I3.take (o:=zO e C dx) free b1 b2 b3 b4 (aPu he3 a2)
  refine xV (X:=X.suite e) (s:={s1 with heap:=h3}) (v:= .ref e) I4.suite hN hi (.inl hlx) rfl (fun s5 I5=>?_) (.inr hlx)
  refine wpAny_mono (hsu e pins s5 _ _ (D.gone1 i) I5 (hq e free)) (fun fl s6 h6=>?_) fun _ _ z=>False.elim z
  have goes:∀{σ':St} {H':Hp} {R:Shared->Prop},Inv (X.suite e) pins σ' H' s6->(∀s7,Inv X pins (σ'.set i none) H' s7->R s7)->wpAny (model X.prog X.w) X.A (do bindName X.env n .none;unbindBehindTheSuite X.env n pos) (fun _ s7=>R s7) X.xe s6:=fun{σ' H' R} J k=>by
   obtain⟨m,hn,hl⟩:=J.loc
   refine wpAny_nameGoes_keeps hloc hn (by rw [I.ok.kind];rfl) fun h' v' hn' hsb=>k _ ((J.unsuite I.ok.hd).forget1 (t':=s6.toks+1) hN hi hl hn' hsb)
  show wpAny (model X.prog X.w) X.A (do bindName X.env n .none;unbindBehindTheSuite X.env n pos) (fun _ s7=>SP X pins D fl s7) X.xe s6
  cases fl with
  |next=>obtain⟨σ',H',J,q⟩:=h6;exact goes J fun s7 J7=>⟨_,H',J7,q⟩
  |brk=>obtain⟨σ',H',J,q⟩:=h6;exact goes J fun s7 J7=>⟨_,H',J7,q⟩
  |cont=>obtain⟨σ',H',J,q⟩:=h6;exact goes J fun s7 J7=>⟨_,H',J7,q⟩
  |ret u=>obtain⟨v,σ',H',J,r,q⟩:=h6;exact goes J fun s7 J7=>⟨v,_,H',J7,r,q⟩
 obtain⟨C',dx',eC,ed,hE⟩:=hE
 cases eC
 cases ed
 rcases hE with ⟨x1,q1⟩|⟨x1,x2,q2⟩
 ·exact one hga hma hsa hda x1 q1
 ·refine wpAny_handleBy_cons (codeAny_handlers_test (mJ I2s hga hma ?_ hda)) (by intro q;cases q)
  refine(PySem.W.exm_one (M:=model X.prog X.w) I2.kIn LT x1).here ?_
  exact one hgb hmb hsb hdb x2 q2
def aU8 (K:PySem.W.Frag) (CA CB:Addr) (i:Nat) (tt:(St->XK)->TS) (ta tb:TS):TS:=fun D σ H=>tt (fun σ'=>aSf K CA CB i σ' ta tb D) D σ H
theorem aPr {body:List Stmt} {tt:(St->XK)->TS} {ta tb:TS} {xa xb n:Str} {CA CB:Addr} {i:Nat} {pa pb posa posb pos':Pos} {a₀ b₀:Stmt} {ra rb:List Stmt} (hst:X.stack=X.env::X.outer) (hf:X.env.frame=some X.env.locals) (hga:Gl X xa) (hma:X.mg xa=some (.ref CA)) (hgb:Gl X xb) (hmb:X.mg xb=some (.ref CB)) (hN:X.N.Nodup) (hi:X.N[i]? =some n)
  (hloc:X.env.kindOf n=some .local) (hlx:X.env.scope.names.lookup n=some .local) (hb:∀pins W E,aSb (X.tried pins W) E->PSs (X.tried pins W) body (tt E)) (hsa:∀e,PSs (X.suite e) (a₀::ra) ta) (hsb:∀e,PSs (X.suite e) (b₀::rb) tb) (hda:(xa==("__debug__":Str))=false:=by decide) (hdb:(xb==("__debug__":Str))=false:=by decide):
  PS X (.Try body [.ExceptHandler (some (.Name xa pa)) (some n) (a₀::ra) posa,.ExceptHandler (some (.Name xb pb)) (some n) (b₀::rb) posb] [] [] pos') (aU8 X.K CA CB i tt ta tb):=by
 intro pins s σ H D I h
 refine wpAny_Try_except ?_
 refine wpAny_mono (hb pins _ _ (fun pins' σ' H s H1 s1 e C dx J J1 f hE=>?_) [] s σ H D I.tried h) (fun fl s2 h2=>?_) fun _ _ z=>z
 ·exact aP6 hst hf hga hma hgb hmb hN hi hloc hlx hsa hsb hda hdb J.untried J1.untried f hE
 ·cases fl with
  |next=>exact wpAny_execs_nil h2.untried
  |brk=>exact h2.untried
  |cont=>exact h2.untried
  |ret u=>exact h2.untried
end
def fO (c:Nat):Bool:=decide (48<=c/\c<=57)
def wls:List (List Nat):=[[43],[45],[42],[109,105,110],[109,97,120],[114,101,115,116],[63]]
def pas:List Nat->List Nat->Nat->Except Nat Nat
 | [],_,g=> .ok g
 |c::w,z,g=>if z[g]? =some c then pas w z (g+1)else .error g
def dX:Nat->List Nat->Nat
 |0,_=>0
 |_,[]=>0
 |k+1,c::r=>if fO c=true then dX k r+1 else 0
def cC (z:List Nat) (g:Nat):Except Nat (Nat×Nat):=match z[g]? with
 |none=> .error g
 |some c=>if fO c=true then(if c=48 then .ok (0,g+1)else .ok (NumText.digitsVal ((z.drop g).take (dX 13 (z.drop g))),g+dX 13 (z.drop g)))else .error g
def dW (z:List Nat) (g:Nat):Except Nat (Int×Nat):=if z[g]? =some 45 then(if z[g+1]? =some 48 then .error (g+1)else match cC z (g+1)with| .error p=> .error p| .ok (m,g')=> .ok (-(m:Int),g'))else match cC z g with| .error p=> .error p| .ok (m,g')=> .ok ((m:Int),g')
def dR:Nat->List Nat->Nat->Except Nat (List Int×Nat)
 |0,_,g=> .ok ([],g)
 |k+1,z,g=>if z[g]? =some 32 then(match dW z (g+1)with| .error p=> .error p| .ok (n,g1)=>match dR k z g1 with| .error p=> .error p| .ok (l,g2)=> .ok (n::l,g2))else .ok ([],g)
def fZ (z:List Nat) (g:Nat):Except Nat ((Int×List Int)×Nat):=match pas [91] z g with
 | .error p=> .error p
 | .ok g1=>match dW z g1 with
  | .error p=> .error p
  | .ok (b,g2)=>match pas [32] z g2 with
   | .error p=> .error p
   | .ok g3=>match dW z g3 with
    | .error p=> .error p
    | .ok (s,g4)=>match dR 2 z g4 with
     | .error p=> .error p
     | .ok (l,g5)=>match pas [93] z g5 with
      | .error p=> .error p
      | .ok g6=> .ok ((b,s::l),g6)
def cW:Nat->List Nat->List Nat->Nat->Except Nat (List Nat×Nat)
 |0,b,_,g=>if b∈wls then .ok (b,g)else .error g
 |k+1,b,z,g=>if b∈wls then .ok (b,g)else match z[g]? with
  |none=> .error g
  |some c=>if(wls.any fun w=>decide (w.take (b.length+1)=b++[c]))=true then cW k (b++[c]) z (g+1)else .error g
inductive Wn where
 |tm (d:Nat)
 |num
 |neg
 |by_
 |digs (k:Nat)
 |more (k:Nat)
 |made (d:Nat)
 |mm (d:Nat)
 |sg (l:List Nat)
def nxt:List Wn->Nat->Option (List Wn)
 | [],_=>none
 | .tm d::S,c=>if c=40 then(match d with|0=>none|d+1=>some (.tm d:: .sg [32]:: .made d:: .sg [41]::S))else if c=91 then some (.num:: .sg [32]:: .num:: .more 2::S)else if c=45 then some (.neg::S)else if c=48 then some S else if fO c=true then some (.digs 1::S)else none
 | .num::S,c=>if c=45 then some (.neg::S)else if c=48 then some S else if fO c=true then some (.digs 1::S)else none
 | .neg::S,c=>if c=48 then none else if fO c=true then some (.digs 1::S)else none
 | .by_::S,c=>if c=48 then some S else if fO c=true then some (.digs 1::S)else none
 | .digs k::S,c=>if fO c=true/\k<13 then some (.digs (k+1)::S)else nxt S c
 | .more k::S,c=>if c=32/\k≠0 then some (.num:: .more (k-1)::S)else if c=93 then some S else none
 | .made d::S,c=>if c=43∨c=45∨c=42 then some (.sg [32]:: .tm d::S)else if c=63 then some (.sg [32]:: .tm d:: .sg [32,58,32]:: .tm d::S)else if c=114 then some (.sg [101,115,116,32]:: .by_::S)else if c=109 then some (.mm d::S)else none
 | .mm d::S,c=>if c=105 then some (.sg [110,32]:: .tm d::S)else if c=97 then some (.sg [120,32]:: .tm d::S)else none
 | .sg []::S,c=>nxt S c
 | .sg [x]::S,c=>if c=x then some S else none
 | .sg (x::y::l)::S,c=>if c=x then some (.sg (y::l)::S)else none
def aFo:List Wn->Bool
 | []=>true
 | .digs _::S=>aFo S
 | .sg []::S=>aFo S
 |_=>false
def bB:List Wn->List Nat->Nat->Except Nat Nat
 |S,[],p=>if aFo S=true then .ok p else .error p
 |S,c::r,p=>match nxt S c with|none=> .error p|some S'=>bB S' r (p+1)
theorem cX {z:List Nat} {g:Nat} (h:z[g]? =none):z.drop g=[]:=List.drop_eq_nil_iff.mpr (List.getElem?_eq_none_iff.mp h)
theorem aQ {z:List Nat} {g c:Nat} (h:z[g]? =some c):z.drop g=c::z.drop (g+1):=by
 obtain⟨hl,e⟩:=List.getElem?_eq_some_iff.mp h
 rw [List.drop_eq_getElem_cons hl,e]
theorem aM1 {S:List Wn} {r:List Nat} {p:Nat}:bB (.sg []::S) r p=bB S r p:=by
 cases r with
 |nil=>rfl
 |cons c r=>simp [bB,nxt]
theorem tO {S:List Wn} {r:List Nat} {k p:Nat} (h:k≥13∨∀c s,r=c::s->fO c=false):bB (.digs k::S) r p=bB S r p:=by
 cases r with
 |nil=>rfl
 |cons c r=>
  have:¬(fO c=true/\k<13):=by
   rcases h with h|h
   ·omega
   ·rw [h c r rfl];simp
  simp only [bB,nxt,if_neg this]
theorem dN {S:List Wn} {z:List Nat}:∀{w:List Nat} {g:Nat},bB (.sg w::S) (z.drop g) g=match pas w z g with| .error p=> .error p| .ok g'=>bB S (z.drop g') g'
 | [],g=>by simp only [pas];exact aM1
 | [c],g=>by
  simp only [pas]
  by_cases h:z[g]? =some c
  ·rw [if_pos h,aQ h]
   simp only [bB,nxt,if_pos]
  ·rw [if_neg h]
   cases hg:z[g]? with
   |none=>rw [cX hg];simp [bB,aFo]
   |some x=>
    rw [aQ hg]
    have:¬x=c:=fun e=>h (by rw [hg,e])
    simp only [bB,nxt,if_neg this]
 |c::d::w,g=>by
  rw [pas]
  by_cases h:z[g]? =some c
  ·rw [if_pos h,aQ h]
   simp only [bB,nxt,if_pos]
   exact dN
  ·rw [if_neg h]
   cases hg:z[g]? with
   |none=>rw [cX hg];simp [bB,aFo]
   |some x=>
    rw [aQ hg]
    have:¬x=c:=fun e=>h (by rw [hg,e])
    simp only [bB,nxt,if_neg this]
theorem aDg {S:List Wn}:∀{k:Nat} {r:List Nat} {p:Nat},k<=13->bB (.digs (13-k)::S) r p=bB S (r.drop (dX k r)) (p+dX k r)
 |0,r,p,_=>by simp only [dX,List.drop_zero];exact tO (.inl (by omega))
 |k+1,[],p,_=>by simp only [dX,List.drop_zero];exact tO (.inr (fun _ _ e=>by cases e))
 |k+1,c::r,p,h=>by
  simp only [dX]
  by_cases hc:fO c=true
  ·rw [if_pos hc]
   simp only [bB,nxt,if_pos (show fO c=true/\13-(k+1)<13 from⟨hc,by omega⟩)]
   rw [show 13-(k+1)+1=13-k by omega,aDg (k:=k) (by omega),List.drop_succ_cons,show p+1+dX k r=p+(dX k r+1) by omega]
  ·rw [if_neg hc]
   exact tO (.inr (fun x s e=>by cases e;simpa using hc))
theorem oM {k c:Nat} {r:List Nat} (h:fO c=true):dX (k+1) (c::r)=dX k r+1:=by simp only [dX,if_pos h]
theorem aKy {A S:List Wn} {z:List Nat} {g:Nat} (hA:∀c,nxt A c=if c=48 then some S else if fO c=true then some (.digs 1::S)else none) (fA:aFo A=false):
  bB A (z.drop g) g=match cC z g with| .error p=> .error p| .ok (_,g')=>bB S (z.drop g') g':=by
 unfold cC
 cases hg:z[g]? with
 |none=>rw [cX hg];simp [bB,fA]
 |some c=>
  rw [aQ hg]
  simp only [bB,hA]
  by_cases hd:fO c=true
  ·rw [if_pos hd,if_pos hd]
   by_cases h0:c=48
   ·rw [if_pos h0,if_pos h0]
   ·rw [if_neg h0,if_neg h0]
    show bB (.digs 1::S) (z.drop (g+1)) (g+1)=bB S (z.drop (g+dX 13 (c::z.drop (g+1)))) (g+dX 13 (c::z.drop (g+1)))
    rw [oM (k:=12) hd,aDg (k:=12) (by omega),List.drop_drop]
    rw [show g+1+dX 12 (z.drop (g+1))=g+(dX 12 (z.drop (g+1))+1) by omega]
  ·have h0:¬c=48:=fun e=>hd (by rw [e];rfl)
   rw [if_neg hd,if_neg hd,if_neg h0]
theorem uU {S:List Wn} {z:List Nat} {g:Nat}:bB (.by_::S) (z.drop g) g=match cC z g with| .error p=> .error p| .ok (_,g')=>bB S (z.drop g') g':=aKy (fun c=>by rw [nxt]) rfl
theorem aM2 {S:List Wn} {z:List Nat} {g:Nat} (h:z[g]? ≠some 48):bB (.neg::S) (z.drop g) g=match cC z g with| .error p=> .error p| .ok (_,g')=>bB S (z.drop g') g':=by
 rw [<-uU]
 cases hg:z[g]? with
 |none=>rw [cX hg];rfl
 |some c=>
  have h0:¬c=48:=fun e=>h (by rw [hg,e])
  rw [aQ hg]
  simp only [bB,nxt,if_neg h0]
theorem aAr {A S:List Wn} {z:List Nat} {g:Nat} (hA:z[g]? =none∨∃c,z[g]? =some c/\nxt A c=nxt (.num::S) c) (fA:aFo A=false):
  bB A (z.drop g) g=match dW z g with| .error p=> .error p| .ok (_,g')=>bB S (z.drop g') g':=by
 have e1:bB A (z.drop g) g=bB (.num::S) (z.drop g) g:=by
  rcases hA with h|⟨c,h,e⟩
  ·rw [cX h]
   simp only [bB,fA]
   rfl
  ·rw [aQ h]
   simp only [bB,e]
 rw [e1]
 unfold dW
 by_cases hm:z[g]? =some 45
 ·rw [if_pos hm,aQ hm]
  show bB (.neg::S) (z.drop (g+1)) (g+1)=_
  by_cases h0:z[g+1]? =some 48
  ·rw [if_pos h0,aQ h0]
   rfl
  ·rw [if_neg h0,aM2 h0]
   cases cC z (g+1)with
   |error p=>rfl
   |ok v=>rfl
 ·rw [if_neg hm]
  have e2:bB (.num::S) (z.drop g) g=bB (.by_::S) (z.drop g) g:=by
   cases hg:z[g]? with
   |none=>rw [cX hg];rfl
   |some c=>
    have h0:¬c=45:=fun e=>hm (by rw [hg,e])
    rw [aQ hg]
    simp only [bB,nxt,if_neg h0]
  rw [e2,uU]
  cases cC z g with
  |error p=>rfl
  |ok v=>rfl
theorem qL {S:List Wn} {z:List Nat} {g:Nat}:bB (.num::S) (z.drop g) g=match dW z g with| .error p=> .error p| .ok (_,g')=>bB S (z.drop g') g':=aAr (by cases h:z[g]? with|none=>exact .inl rfl|some c=>exact .inr ⟨c,rfl,rfl⟩) rfl
theorem tU {S:List Wn} {z:List Nat}:∀{k g:Nat},bB (.more k::S) (z.drop g) g=match dR k z g with| .error p=> .error p| .ok (_,g')=>(match pas [93] z g' with| .error p=> .error p| .ok g2=>bB S (z.drop g2) g2)
 |0,g=>by
  simp only [dR,pas]
  cases hg:z[g]? with
  |none=>rw [cX hg];rfl
  |some c=>
   rw [aQ hg]
   by_cases h:c=93
   ·subst h;rfl
   ·rw [if_neg (fun e=>h (Option.some.inj e))]
    simp only [bB,nxt,if_neg h,ne_eq,not_true,and_false,if_false]
 |k+1,g=>by
  simp only [dR]
  by_cases hb:z[g]? =some 32
  ·rw [if_pos hb,aQ hb]
   show bB (.num:: .more k::S) (z.drop (g+1)) (g+1)=_
   rw [qL]
   cases dW z (g+1)with
   |error p=>rfl
   |ok v=>
    obtain⟨n,g1⟩:=v
    show bB (.more k::S) (z.drop g1) g1=_
    rw [tU (k:=k)]
    dsimp only
    cases dR k z g1 with
    |error p=>rfl
    |ok v=>rfl
  ·rw [if_neg hb]
   simp only [pas]
   cases hg:z[g]? with
   |none=>rw [cX hg];rfl
   |some c=>
    rw [aQ hg]
    have h32:¬c=32:=fun e=>hb (by rw [hg,e])
    by_cases h:c=93
    ·subst h;rfl
    ·rw [if_neg (fun e=>h (Option.some.inj e))]
     simp only [bB,nxt,if_neg h,h32,false_and,if_false]
theorem aJo {S:List Wn} {z:List Nat} {g:Nat} (h:z[g]? =some 91):bB (.num:: .sg [32]:: .num:: .more 2::S) (z.drop (g+1)) (g+1)=match fZ z g with| .error p=> .error p| .ok (_,g')=>bB S (z.drop g') g':=by
 unfold fZ
 rw [show pas [91] z g= .ok (g+1) by simp [pas,h],qL]
 dsimp only
 cases dW z (g+1)with
 |error p=>rfl
 |ok v=>
  obtain⟨b,g2⟩:=v
  dsimp only
  rw [dN]
  cases pas [32] z g2 with
  |error p=>rfl
  |ok g3=>
   dsimp only
   rw [qL]
   cases dW z g3 with
   |error p=>rfl
   |ok v=>
    obtain⟨s,g4⟩:=v
    dsimp only
    rw [tU]
    cases dR 2 z g4 with
    |error p=>rfl
    |ok v=>
     obtain⟨l,g5⟩:=v
     dsimp only
     cases pas [93] z g5 with
     |error p=>rfl
     |ok g6=>rfl
theorem iR {k c g:Nat} {b z:List Nat} (hn:b∉wls) (hg:z[g]? =some c) (ha:(wls.any fun w=>decide (w.take (b.length+1)=b++[c]))=true):cW (k+1) b z g=cW k (b++[c]) z (g+1):=by
 rw [cW,if_neg hn,hg]
 dsimp only
 rw [if_pos ha]
theorem lK {k g:Nat} {b z:List Nat} (h:b∈wls):cW k b z g= .ok (b,g):=by cases k<;>rw [cW,if_pos h]
theorem lO {k x g:Nat} {b z:List Nat} (hn:b∉wls) (ha:∀c,(wls.any fun w=>decide (w.take (b.length+1)=b++[c]))=true↔c=x):cW (k+1) b z g=match pas [x] z g with| .error p=> .error p| .ok g'=>cW k (b++[x]) z g':=by
 simp only [pas]
 by_cases h:z[g]? =some x
 ·rw [if_pos h,iR hn h ((ha x).mpr rfl)]
 ·rw [if_neg h,cW,if_neg hn]
  cases hg:z[g]? with
  |none=>rfl
  |some c=>
   dsimp only
   rw [if_neg fun z'=>h (by rw [hg,(ha c).mp z'])]
def aTe (d:Nat) (x:List Nat):List Wn:=if x=[114,101,115,116]then [.by_]else if x=[63]then [.tm d,.sg [32,58,32],.tm d]else [.tm d]
theorem oH {x:Nat} {w z:List Nat} {g:Nat}:pas (x::w) z g=match pas [x] z g with| .error p=> .error p| .ok g'=>pas w z g':=by
 simp only [pas]
 split<;>rfl
theorem aKu {S:List Wn} {z:List Nat} {d g:Nat}:bB (.made d::S) (z.drop g) g=match cW 4 [] z g with| .error p=> .error p| .ok (x,g')=>bB (.sg [32]::(aTe d x++S)) (z.drop g') g':=by
 cases hg:z[g]? with
 |none=>rw [cX hg,cW,if_neg (by decide),hg];rfl
 |some c=>
  rw [aQ hg]
  by_cases h1:c=43∨c=45∨c=42
  ·have hi:[c]∈wls:=by rcases h1 with rfl|rfl|rfl<;>decide
   rw [iR (by decide) hg (by rcases h1 with rfl|rfl|rfl<;>decide),List.nil_append,lK hi]
   rcases h1 with rfl|rfl|rfl<;>rfl
  ·by_cases h2:c=63
   ·subst h2
    rw [iR (by decide) hg (by decide),List.nil_append,lK (by decide)]
    rfl
   ·by_cases h3:c=114
    ·subst h3
     rw [iR (by decide) hg (by decide),List.nil_append]
     show bB (.sg [101,115,116,32]:: .by_::S) (z.drop (g+1)) (g+1)=_
     rw [dN,oH,lO (x:=101) (by decide) (fun c=>by simp [wls];exact eq_comm)]
     cases pas [101] z (g+1)with
     |error p=>rfl
     |ok g1=>
      dsimp only
      rw [oH,lO (x:=115) (by decide) (fun c=>by simp [wls];exact eq_comm)]
      cases pas [115] z g1 with
      |error p=>rfl
      |ok g2=>
       dsimp only
       rw [oH,lO (x:=116) (by decide) (fun c=>by simp [wls];exact eq_comm)]
       cases pas [116] z g2 with
       |error p=>rfl
       |ok g3=>
        dsimp only
        rw [lK (by decide)]
        dsimp only
        rw [dN (w:=[32])]
        rfl
    ·by_cases h4:c=109
     ·subst h4
      rw [iR (by decide) hg (by decide),List.nil_append]
      show bB (.mm d::S) (z.drop (g+1)) (g+1)=_
      cases hg1:z[g+1]? with
      |none=>rw [cX hg1,cW,if_neg (by decide),hg1];rfl
      |some c=>
       rw [aQ hg1]
       by_cases h5:c=105
       ·subst h5
        rw [iR (by decide) hg1 (by decide)]
        show bB (.sg [110,32]:: .tm d::S) (z.drop (g+1+1)) (g+1+1)=_
        rw [dN,oH,lO (x:=110) (by decide) (fun c=>by simp [wls];exact eq_comm)]
        cases pas [110] z (g+1+1)with
        |error p=>rfl
        |ok g1=>
         dsimp only
         rw [lK (by decide)]
         dsimp only
         rw [dN (w:=[32])]
         rfl
       ·by_cases h6:c=97
        ·subst h6
         rw [iR (by decide) hg1 (by decide)]
         show bB (.sg [120,32]:: .tm d::S) (z.drop (g+1+1)) (g+1+1)=_
         rw [dN,oH,lO (x:=120) (by decide) (fun c=>by simp [wls];exact eq_comm)]
         cases pas [120] z (g+1+1)with
         |error p=>rfl
         |ok g1=>
          dsimp only
          rw [lK (by decide)]
          dsimp only
          rw [dN (w:=[32])]
          rfl
        ·have:nxt (.mm d::S) c=none:=by simp only [nxt,if_neg h5,if_neg h6]
         simp only [bB,this]
         rw [cW,if_neg (by decide),hg1]
         dsimp only
         rw [if_neg ?_]
         simp [wls]
         omega
     ·have:nxt (.made d::S) c=none:=by simp only [nxt,if_neg h1,if_neg h2,if_neg h3,if_neg h4]
      simp only [bB,this]
      rw [cW,if_neg (by decide),hg]
      dsimp only
      rw [if_neg ?_]
      simp [wls]
      omega
structure Mk_ (T:Type) where
 num:Int->T
 take:Int->List Int->T
 rest:T->Nat->T
 cho:T->T->T->T
 pair:List Nat->T->T->T
def lM {T:Type} (M:Mk_ T) (p:Nat->Except Nat (T×Nat)) (a:T) (x:List Nat) (z:List Nat) (g:Nat):Except Nat (T×Nat):=
 if x=[114,101,115,116]then(match cC z g with| .error p=> .error p| .ok (m,g1)=> .ok (M.rest a m,g1))else match p g with
  | .error p=> .error p
  | .ok (b,g1)=>if x=[63]then(match pas [32,58,32] z g1 with
    | .error p=> .error p
    | .ok g2=>match p g2 with
     | .error p=> .error p
     | .ok (c,g3)=> .ok (M.cho a b c,g3))else .ok (M.pair x a b,g1)
def iZ {T:Type} (M:Mk_ T) (z:List Nat) (g:Nat):Except Nat (T×Nat):=if z[g]? =some 91 then(match fZ z g with| .error p=> .error p| .ok (y,g1)=> .ok (M.take y.1 y.2,g1))else match dW z g with| .error p=> .error p| .ok (n,g1)=> .ok (M.num n,g1)
def bQ {T:Type} (M:Mk_ T) (z:List Nat):Nat->Nat->Except Nat (T×Nat)
 |0,g=>if z[g]? =some 40 then .error g else iZ M z g
 |f+1,g=>if z[g]? =some 40 then(match bQ M z f (g+1)with
   | .error p=> .error p
   | .ok (a,g1)=>match pas [32] z g1 with
    | .error p=> .error p
    | .ok g2=>match cW 4 [] z g2 with
     | .error p=> .error p
     | .ok (x,g3)=>match pas [32] z g3 with
      | .error p=> .error p
      | .ok g4=>match lM M (bQ M z f) a x z g4 with
       | .error p=> .error p
       | .ok (t,g5)=>match pas [41] z g5 with
        | .error p=> .error p
        | .ok g6=> .ok (t,g6))else iZ M z g
theorem tW {T:Type} {M:Mk_ T} {S:List Wn} {z:List Nat} {d g:Nat} (h:z[g]? ≠some 40):bB (.tm d::S) (z.drop g) g=match iZ M z g with| .error p=> .error p| .ok (_,g')=>bB S (z.drop g') g':=by
 unfold iZ
 by_cases h1:z[g]? =some 91
 ·rw [if_pos h1,aQ h1]
  show bB (.num:: .sg [32]:: .num:: .more 2::S) (z.drop (g+1)) (g+1)=_
  rw [aJo h1]
  cases fZ z g with
  |error p=>rfl
  |ok v=>rfl
 ·rw [if_neg h1,aAr (A:= .tm d::S) (S:=S) ?_ rfl]
  ·cases dW z g with
   |error p=>rfl
   |ok v=>rfl
  ·cases hg:z[g]? with
   |none=>exact .inl rfl
   |some c=>
    refine .inr ⟨c,rfl,?_⟩
    have a1:¬c=40:=fun e=>h (by rw [hg,e])
    have a2:¬c=91:=fun e=>h1 (by rw [hg,e])
    simp only [nxt,if_neg a1,if_neg a2]
theorem aLv {T:Type} {M:Mk_ T} {p:Nat->Except Nat (T×Nat)} {a:T} {x z:List Nat} {d:Nat} (hp:∀S g,bB (.tm d::S) (z.drop g) g=match p g with| .error p=> .error p| .ok (_,g')=>bB S (z.drop g') g') {S:List Wn} {g:Nat}:
  bB (aTe d x++S) (z.drop g) g=match lM M p a x z g with| .error p=> .error p| .ok (_,g')=>bB S (z.drop g') g':=by
 unfold aTe lM
 by_cases h1:x=[114,101,115,116]
 ·rw [if_pos h1,if_pos h1]
  show bB (.by_::S) (z.drop g) g=_
  rw [uU]
  cases cC z g with
  |error p=>rfl
  |ok v=>rfl
 ·rw [if_neg h1,if_neg h1]
  by_cases h2:x=[63]
  ·rw [if_pos h2]
   show bB (.tm d:: .sg [32,58,32]:: .tm d::S) (z.drop g) g=_
   rw [hp]
   cases p g with
   |error p=>rfl
   |ok v=>
    obtain⟨b,g1⟩:=v
    dsimp only
    rw [if_pos h2,dN]
    cases pas [32,58,32] z g1 with
    |error p=>rfl
    |ok g2=>
     dsimp only
     rw [hp]
     cases p g2 with
     |error p=>rfl
     |ok v=>rfl
  ·rw [if_neg h2]
   show bB (.tm d::S) (z.drop g) g=_
   rw [hp]
   cases p g with
   |error p=>rfl
   |ok v=>
    dsimp only
    rw [if_neg h2]
theorem sV {T:Type} {M:Mk_ T} {z:List Nat}:∀{d:Nat} (S:List Wn) (g:Nat),bB (.tm d::S) (z.drop g) g=match bQ M z d g with| .error p=> .error p| .ok (_,g')=>bB S (z.drop g') g'
 |0,S,g=>by
  rw [bQ]
  by_cases h:z[g]? =some 40
  ·rw [if_pos h,aQ h]
   rfl
  ·rw [if_neg h]
   exact tW h
 |d+1,S,g=>by
  rw [bQ]
  by_cases h:z[g]? =some 40
  ·rw [if_pos h,aQ h]
   show bB (.tm d:: .sg [32]:: .made d:: .sg [41]::S) (z.drop (g+1)) (g+1)=_
   rw [sV (d:=d)]
   cases bQ M z d (g+1)with
   |error p=>rfl
   |ok v=>
    obtain⟨a,g1⟩:=v
    dsimp only
    rw [dN]
    cases pas [32] z g1 with
    |error p=>rfl
    |ok g2=>
     dsimp only
     rw [aKu]
     cases cW 4 [] z g2 with
     |error p=>rfl
     |ok v=>
      obtain⟨x,g3⟩:=v
      dsimp only
      rw [dN]
      cases pas [32] z g3 with
      |error p=>rfl
      |ok g4=>
       dsimp only
       rw [aLv (M:=M) (a:=a) (fun S g=>sV (d:=d) S g)]
       cases lM M (bQ M z d) a x z g4 with
       |error p=>rfl
       |ok v=>
        obtain⟨t,g5⟩:=v
        dsimp only
        rw [dN]
        cases pas [41] z g5 with
        |error p=>rfl
        |ok g6=>rfl
  ·rw [if_neg h]
   exact tW h
theorem aIf {z:List Nat} {g c:Nat} (h:z[g]? =some c):g+1<=z.length:=(List.getElem?_eq_some_iff.mp h).1
theorem tL {z:List Nat}:∀{w:List Nat} {g g':Nat},g<=z.length->pas w z g= .ok g'->g'<=z.length
 | [],g,g',hg,h=>by cases h;exact hg
 |c::w,g,g',hg,h=>by
  simp only [pas]at h
  split at h
  ·rename_i hc;exact tL (aIf hc) h
  ·cases h
theorem aHx:∀(k:Nat) (r:List Nat),dX k r<=r.length
 |0,r=>Nat.zero_le _
 |k+1,[]=>Nat.zero_le _
 |k+1,c::r=>by
  simp only [dX]
  split
  ·rw [List.length_cons];exact Nat.succ_le_succ (aHx k r)
  ·exact Nat.zero_le _
theorem vL {z:List Nat} {g g' m:Nat} (h:cC z g= .ok (m,g')):g'<=z.length:=by
 unfold cC at h
 cases hg:z[g]? with
 |none=>rw [hg]at h;cases h
 |some c=>
  rw [hg]at h
  dsimp only at h
  have l:=aIf hg
  split at h
  ·split at h
   ·cases h;exact l
   ·cases h
    have:=aHx 13 (z.drop g)
    rw [List.length_drop]at this
    omega
  ·cases h
theorem aF7 {z:List Nat} {g g':Nat} {n:Int} (h:dW z g= .ok (n,g')):g'<=z.length:=by
 unfold dW at h
 split at h
 ·split at h
  ·cases h
  ·cases hf:cC z (g+1)with
   |error p=>rw [hf]at h;cases h
   |ok v=>rw [hf]at h;cases h;exact vL hf
 ·cases hf:cC z g with
  |error p=>rw [hf]at h;cases h
  |ok v=>rw [hf]at h;cases h;exact vL hf
theorem more_le {z:List Nat}:∀{k g g':Nat} {l:List Int},g<=z.length->dR k z g= .ok (l,g')->g'<=z.length
 |0,g,g',l,hg,h=>by cases h;exact hg
 |k+1,g,g',l,hg,h=>by
  rw [dR]at h
  split at h
  ·cases hn:dW z (g+1)with
   |error p=>rw [hn]at h;cases h
   |ok v=>
    rw [hn]at h
    dsimp only at h
    cases hm:dR k z v.2 with
    |error p=>rw [hm]at h;cases h
    |ok y=>rw [hm]at h;cases h;exact more_le (aF7 hn) hm
  ·cases h;exact hg
theorem aP1 {z:List Nat} {g g':Nat} {y:Int×List Int} (hg:g<=z.length) (h:fZ z g= .ok (y,g')):g'<=z.length:=by
 unfold fZ at h
 cases h1:pas [91] z g with
 |error p=>rw [h1]at h;cases h
 |ok g1=>
  rw [h1]at h
  dsimp only at h
  cases h2:dW z g1 with
  |error p=>rw [h2]at h;cases h
  |ok v2=>
   rw [h2]at h
   dsimp only at h
   cases h3:pas [32] z v2.2 with
   |error p=>rw [h3]at h;cases h
   |ok g3=>
    rw [h3]at h
    dsimp only at h
    cases h4:dW z g3 with
    |error p=>rw [h4]at h;cases h
    |ok v4=>
     rw [h4]at h
     dsimp only at h
     cases h5:dR 2 z v4.2 with
     |error p=>rw [h5]at h;cases h
     |ok v5=>
      rw [h5]at h
      dsimp only at h
      cases h6:pas [93] z v5.2 with
      |error p=>rw [h6]at h;cases h
      |ok g6=>rw [h6]at h;cases h;exact tL (more_le (aF7 h4) h5) h6
theorem aG5 {z:List Nat}:∀{k g g':Nat} {b x:List Nat},g<=z.length->cW k b z g= .ok (x,g')->g'<=z.length
 |0,g,g',b,x,hg,h=>by
  rw [cW]at h
  split at h<;>cases h
  exact hg
 |k+1,g,g',b,x,hg,h=>by
  rw [cW]at h
  split at h
  ·cases h;exact hg
  ·cases hz:z[g]? with
   |none=>rw [hz]at h;cases h
   |some c=>
    rw [hz]at h
    dsimp only at h
    split at h
    ·exact aG5 (aIf hz) h
    ·cases h
theorem aHu {T:Type} {M:Mk_ T} {z:List Nat} {g g':Nat} {t:T} (hg:g<=z.length) (h:iZ M z g= .ok (t,g')):g'<=z.length:=by
 unfold iZ at h
 split at h
 ·cases h1:fZ z g with
  |error p=>rw [h1]at h;cases h
  |ok v=>rw [h1]at h;cases h;exact aP1 hg h1
 ·cases h1:dW z g with
  |error p=>rw [h1]at h;cases h
  |ok v=>rw [h1]at h;cases h;exact aF7 h1
theorem aT7 {T:Type} {M:Mk_ T} {p:Nat->Except Nat (T×Nat)} {a t:T} {x z:List Nat} {g g':Nat} (hp:∀g t g',g<=z.length->p g= .ok (t,g')->g'<=z.length) (hg:g<=z.length) (h:lM M p a x z g= .ok (t,g')):g'<=z.length:=by
 unfold lM at h
 split at h
 ·cases h1:cC z g with
  |error p=>rw [h1]at h;cases h
  |ok v=>rw [h1]at h;cases h;exact vL h1
 ·cases h1:p g with
  |error p=>rw [h1]at h;cases h
  |ok v=>
   rw [h1]at h
   dsimp only at h
   have l1:=hp _ v.1 v.2 hg h1
   split at h
   ·cases h2:pas [32,58,32] z v.2 with
    |error p=>rw [h2]at h;cases h
    |ok g2=>
     rw [h2]at h
     dsimp only at h
     cases h3:p g2 with
     |error p=>rw [h3]at h;cases h
     |ok v3=>rw [h3]at h;cases h;exact hp _ v3.1 v3.2 (tL l1 h2) h3
   ·cases h;exact l1
theorem aB3 {T:Type} {M:Mk_ T} {z:List Nat}:∀{d g g':Nat} {t:T},g<=z.length->bQ M z d g= .ok (t,g')->g'<=z.length
 |0,g,g',t,hg,h=>by
  rw [bQ]at h
  split at h
  ·cases h
  ·exact aHu hg h
 |d+1,g,g',t,hg,h=>by
  rw [bQ]at h
  split at h
  ·rename_i h40
   cases h1:bQ M z d (g+1)with
   |error p=>rw [h1]at h;cases h
   |ok v1=>
    rw [h1]at h
    dsimp only at h
    have l1:=aB3 (t:=v1.1) (g':=v1.2) (aIf h40) h1
    cases h2:pas [32] z v1.2 with
    |error p=>rw [h2]at h;cases h
    |ok g2=>
     rw [h2]at h
     dsimp only at h
     cases h3:cW 4 [] z g2 with
     |error p=>rw [h3]at h;cases h
     |ok v3=>
      rw [h3]at h
      dsimp only at h
      cases h4:pas [32] z v3.2 with
      |error p=>rw [h4]at h;cases h
      |ok g4=>
       rw [h4]at h
       dsimp only at h
       cases h5:lM M (bQ M z d) v1.1 v3.1 z g4 with
       |error p=>rw [h5]at h;cases h
       |ok v5=>
        rw [h5]at h
        dsimp only at h
        have l4:=tL (aG5 (tL l1 h2) h3) h4
        have l5:=aT7 (t:=v5.1) (g':=v5.2) (fun g t g' hg h=>aB3 (d:=d) hg h) l4 h5
        cases h6:pas [41] z v5.2 with
        |error p=>rw [h6]at h;cases h
        |ok g6=>rw [h6]at h;cases h;exact tL l5 h6
  ·exact aHu hg h
theorem wD {T:Type} {M:Mk_ T} {z:List Nat} {d:Nat}:bB [.tm d] z 0=match bQ M z d 0 with| .error p=> .error p| .ok (_,g')=>if g'=z.length then .ok g' else .error g':=by
 have h:=sV (M:=M) (z:=z) (d:=d) [] 0
 rw [List.drop_zero]at h
 rw [h]
 cases hp:bQ M z d 0 with
 |error p=>rfl
 |ok v=>
  dsimp only
  have l:=aB3 (t:=v.1) (g':=v.2) (Nat.zero_le _) hp
  by_cases e:v.2=z.length
  ·rw [if_pos e,e,List.drop_length]
   rfl
  ·rw [if_neg e,List.drop_eq_getElem_cons (by omega)]
   rfl
end L2
namespace L2
theorem eU.mo {j k:Nat} {A:PySem.Around} (r:eU k A) (h:j<=k:=by omega):eU j A:=r.mono h
end L2
namespace KZ
open PySem PyProof.Rows L2
section
variable {P:Program} {w:World} {K:PySem.W.Frag} {mg:Str->Option Value} {base:Heap} {CR CN CG CT C1 C2:Addr}
theorem bG {N P:List Str} {sc:Scope} (h1:sc.kind= .function:=by rfl) (h2:sc.isCoroutine=false:=by rfl) (h3:sc.isGenerator=false:=by rfl) (h4:N.Nodup:=by decide+kernel) (h5:N.take P.length=P:=by rfl) (h6:∀x∈P,sc.names.lookup x=some .local∨sc.names.lookup x=some .cell:=by decide+kernel) (h7:∀y∈sc.names,y.2≠ .free:=by decide+kernel):aM N P sc:=⟨h1,h2,h3,h4,h5,h6,h7⟩
theorem sz0:0<=sizeLine:=by decide
theorem sz1:1<=sizeLine:=by decide
theorem sz2:2<=sizeLine:=by decide
theorem sz3:3<=sizeLine:=by decide
theorem sz4:4<=sizeLine:=by decide
def top (i:Nat):Stmt:=PySem.Challenge.pw_slanttiles_k16_whole_any_text_of_a_term.main.body.getD i (.Pass ⟨0,0,0,0⟩)
abbrev aFx:Stmt:=top 6
abbrev aC6:Stmt:=top 7
abbrev pA:Stmt:=top 28
abbrev rF:Stmt:=top 29
abbrev aCu:Stmt:=top 30
abbrev aC3:Stmt:=top 31
abbrev aNq:Stmt:=top 39
abbrev wM:Stmt:=top 40
abbrev aNj:Stmt:=top 41
abbrev aMr:Stmt:=top 43
abbrev aO2:Stmt:=top 44
abbrev aL2:Stmt:=top 45
abbrev aB0:Stmt:=top 46
abbrev aIg:Stmt:=top 47
abbrev aC7:Stmt:=top 48
abbrev aHi:Stmt:=top 49
abbrev aD5:Stmt:=top 50
abbrev aC5:Stmt:=top 51
abbrev aBk:Stmt:=top 52
abbrev aCp:Stmt:=top 53
abbrev yE:Stmt:=top 54
abbrev aCv:Stmt:=top 55
abbrev aKx:Stmt:=top 56
abbrev aLn:Stmt:=inClass (top 2) 0
abbrev uZ:Stmt:=inClass (top 17) 0
abbrev vW:Stmt:=inClass (top 17) 1
abbrev vG:Stmt:=inClass (top 17) 4
abbrev qK:Stmt:=inClass (top 17) 5
abbrev rJ:Stmt:=inClass (top 17) 6
abbrev aGg:Stmt:=inClass (top 18) 0
abbrev uY:Stmt:=inClass (top 18) 1
abbrev aGj:Stmt:=inClass (top 19) 0
abbrev vM:Stmt:=inClass (top 19) 1
abbrev vY:Stmt:=inClass (top 19) 4
abbrev aGu:Stmt:=inClass (top 20) 0
abbrev vU:Stmt:=inClass (top 20) 1
abbrev aF3:Stmt:=inClass (top 26) 0
abbrev vD:Stmt:=inClass (top 26) 1
abbrev vH:Stmt:=inClass (top 26) 2
abbrev aF5:Stmt:=inClass (top 27) 0
abbrev vQ:Stmt:=inClass (top 27) 1
abbrev vK:Stmt:=inClass (top 20) 2
abbrev aC2:Stmt:=inClass (top 18) 3
abbrev vJ:Stmt:=inClass (top 19) 3
abbrev aC1:Stmt:=inClass (top 26) 4
abbrev aBn:Stmt:=inClass (top 27) 3
abbrev aBv:Stmt:=inClass (top 21) 1
abbrev aC8:Stmt:=inClass (top 22) 1
abbrev aCo:Stmt:=inClass (top 23) 1
abbrev aCh:Stmt:=inClass (top 24) 1
abbrev aBz:Stmt:=inClass (top 25) 1
abbrev aBm:Stmt:=inClass (top 38) 0
abbrev yN:Stmt:=inClass (top 38) 1
abbrev aBr:Stmt:=inClass (top 38) 2
abbrev aGc:Stmt:=inClass (top 38) 3
abbrev aCb:Stmt:=inClass (top 38) 4
abbrev aFk:Stmt:=inClass (top 38) 5
abbrev aCl:Stmt:=inClass (top 38) 6
abbrev vV:Stmt:=inClass (top 38) 7
abbrev nZ:Stmt:=inClass (top 38) 8
abbrev oZ:Stmt:=inClass (top 38) 9
abbrev vO:Stmt:=inClass (top 38) 10
abbrev cG (n:Nat):V:=V.int (n:Int)
def bW (H:Hp) (a:Addr):Prop:=∃x y z:Int,H a=some (.lst [.int x,.int y,.int z])
def Kp (a:Addr) (H H':Hp):Prop:=∀b o,H b=some o->b≠a->H' b=some o
theorem Kp.trans {a:Addr} {H H1 H2:Hp} (x:Kp a H H1) (y:Kp a H1 H2):Kp a H H2:=fun b o h n=>y b o (x b o h n) n
theorem Kp.same {a:Addr} {H H1 H2:Hp} (x:Kp a H H1) (y:bA H1 H2):Kp a H H2:=fun b o h n=>y b o (x b o h n)
theorem Kp.of {a:Addr} {H H':Hp} (x:bA H H'):Kp a H H':=fun b o h _=>x b o h
theorem sameNew {H:Hp} {p:Addr} {o:HO} (h:H p=none):bA H (upd H p o):=fun b u e=>by
 rw [aX (bR e h)]
 exact e
theorem cN {H H1:Hp} {p:Addr} {o:HO} (h:H p=none) (s:bA H H1):bA H (upd H1 p o):=fun b u e=>by
 rw [aX (bR e h)]
 exact s b u e
theorem aHa {H:Hp} {p:Addr} {o:HO}:Kp p H (upd H p o):=fun b u e n=>by
 rw [aX n]
 exact e
theorem Kp.tup {a b:Addr} {H H':Hp} {xs:List V} (k:Kp a H H') (w:bW H a) (h:H b=some (.tup xs)):H' b=some (.tup xs):=by
 obtain⟨x,y,z,e⟩:=w
 exact k b _ h (aR6 h e (by intro q;cases q))
theorem bW.new {H:Hp} {a p:Addr} {o:HO} (h:bW H a) (hp:H p=none):bW (upd H p o) a:=by
 obtain⟨x,y,z,e⟩:=h
 exact⟨x,y,z,by rw [aX (bR e hp)];exact e⟩
theorem bW.ne {H:Hp} {a p:Addr} (h:bW H a) (hp:H p=none):p≠a:=by
 obtain⟨x,y,z,e⟩:=h
 exact Ne.symm (bR e hp)
theorem small {n:Nat} (h:n<=10000):n<sizeLine:=by
 have:(10000:Nat)<sizeLine:=by decide
 omega
theorem aEz {X:Cx} {x:Str} {n:String} {pos:Pos} (hg:Gl X x) (hm:X.mg x=none) (hv:bootBuiltins x=some (.type n)) (hn:x≠"__name__":=by decide) (hd:(x==("__debug__":Str))=false:=by decide):PE X (.Name x pos) (tC (.ty n)):=aHg (v:= .ty n) hg hm hv rfl hn hd
structure Txt (K:W.Frag) (mg:Str->Option Value):Prop where
 isinstance:mg "isinstance"=none
 int:mg "int"=none
 list:mg "list"=none
 tuple:mg "tuple"=none
 len:mg "len"=none
 range:mg "range"=none
 max:mg "max"=none
 sorted:mg "sorted"=none
 sum:mg "sum"=none
 set:mg "set"=none
 bool:mg "bool"=none
 all:mg "all"=none
 any:mg "any"=none
 str:mg "str"=none
 enumerate:mg "enumerate"=none
 gn:∃t,mg "GREATEST_NUMBER"=some (.int 1000000000000 t)
 gd:∃t,mg "GREATEST_DIVISOR"=some (.int 1000000000 t)
 gb:∃t,mg "GREATEST_BACK"=some (.int 3 t)
 gst:∃t,mg "GREATEST_STEP"=some (.int 9 t)
 mst:∃t,mg "MOST_STEPS_terms"=some (.int 3 t)
 mdp:∃t,mg "MOST_DEPTH"=some (.int 12 t)
 mpa:∃t,mg "MOST_PARTS"=some (.int 60 t)
 mtk:∃t,mg "MOST_TAKES"=some (.int 6 t)
 mfi:∃t,mg "MOST_FIGURES"=some (.int 13 t)
 mst2:∃t,mg "MOST_STEPS_term_texts"=some (.int 3 t)
 mwi:∃t,mg "MOST_WITHIN"=some (.int 12 t)
inductive Tm where
 |num (n:Nb)
 |take (b:Nb) (ss:List Nb)
 |rest (t:Tm) (y:Nb)
 |cho (a b c:Tm)
 |bin (k:Fin 5) (a b:Tm)
abbrev Tk:Type:=Int×List Int
def opn (k:Fin 5):Str:=match k with|0=>"+"|1=>"-"|2=>"*"|3=>"min"|4=>"max"
def TupAt (H:Hp):Tm->V->Prop
 | .num n,v=>∃p,v= .ref p/\H p=some (.tup [.str "number",n.v])
 | .take b ss,v=>∃p q,v= .ref p/\H p=some (.tup [.str "take",b.v,.ref q])/\H q=some (.tup (ss.map Nb.v))
 | .rest t y,v=>∃p u,v= .ref p/\H p=some (.tup [.str "rest",u,y.v])/\TupAt H t u
 | .cho a b c,v=>∃p x y z,v= .ref p/\H p=some (.tup [.str "?",x,y,z])/\TupAt H a x/\TupAt H b y/\TupAt H c z
 | .bin k a b,v=>∃p x y,v= .ref p/\H p=some (.tup [.str (opn k),x,y])/\TupAt H a x/\TupAt H b y
theorem TupAt.mono {H H':Hp} (k:∀c zs,H c=some (.tup zs)->H' c=some (.tup zs)):∀{t:Tm} {v:V},TupAt H t v->TupAt H' t v
 | .num _,_,⟨p,e,h⟩=>⟨p,e,k _ _ h⟩
 | .take _ _,_,⟨p,q,e,h,h2⟩=>⟨p,q,e,k _ _ h,k _ _ h2⟩
 | .rest _ _,_,⟨p,u,e,h,h2⟩=>⟨p,u,e,k _ _ h,h2.mono k⟩
 | .cho _ _ _,_,⟨p,x,y,z,e,h,h1,h2,h3⟩=>⟨p,x,y,z,e,k _ _ h,h1.mono k,h2.mono k,h3.mono k⟩
 | .bin _ _ _,_,⟨p,x,y,e,h,h1,h2⟩=>⟨p,x,y,e,k _ _ h,h1.mono k,h2.mono k⟩
theorem TupAt.same {H H':Hp} (s:bA H H') {t:Tm} {v:V} (h:TupAt H t v):TupAt H' t v:=h.mono fun c _ e=>s c _ e
structure Cn where
 num:Addr
 take:Addr
 rest:Addr
 cho:Addr
 bin:Fin 5->Addr
variable {N:Cn}
def cls (N:Cn):Tm->Addr
 | .num _=>N.num
 | .take _ _=>N.take
 | .rest _ _=>N.rest
 | .cho _ _ _=>N.cho
 | .bin k _ _=>N.bin k
def IsC (N:Cn) (C:Addr):Prop:=C=N.num∨C=N.take∨C=N.rest∨C=N.cho∨∃k,C=N.bin k
theorem isC (N:Cn):∀t:Tm,IsC N (cls N t)
 | .num _=> .inl rfl
 | .take _ _=> .inr (.inl rfl)
 | .rest _ _=> .inr (.inr (.inl rfl))
 | .cho _ _ _=> .inr (.inr (.inr (.inl rfl)))
 | .bin k _ _=> .inr (.inr (.inr (.inr ⟨k,rfl⟩)))
def bZ (N:Cn) (H:Hp) (fs:List (Str×V)):Tm->Prop
 | .num n=>fs=[(("value":Str),n.v)]
 | .take b ss=>∃q,fs=[(("back":Str),b.v),(("steps":Str),V.ref q)]/\H q=some (.tup (ss.map Nb.v))
 | .rest t y=>∃p dx gs,fs=[(("one":Str),V.ref p),(("by":Str),y.v)]/\H p=some (.ins (cls N t) dx gs)/\bZ N H gs t
 | .cho a b c=>∃p dp ps q dq qs r dr rs,fs=[(("test":Str),V.ref p),(("one":Str),V.ref q),(("other":Str),V.ref r)]/\(H p=some (.ins (cls N a) dp ps)/\bZ N H ps a)/\(H q=some (.ins (cls N b) dq qs)/\bZ N H qs b)/\H r=some (.ins (cls N c) dr rs)/\bZ N H rs c
 | .bin _ a b=>∃p dp ps q dq qs,fs=[(("one":Str),V.ref p),(("other":Str),V.ref q)]/\(H p=some (.ins (cls N a) dp ps)/\bZ N H ps a)/\H q=some (.ins (cls N b) dq qs)/\bZ N H qs b
def KpN (H H':Hp):Prop:=∀c o,H c=some o->(∀xs,o≠ .lst xs)->H' c=some o
theorem KpN.of {H H':Hp} (s:bA H H'):KpN H H':=fun c o e _=>s c o e
theorem bZ.keep {N:Cn} {H H':Hp} (s:KpN H H'):∀{t:Tm} {fs:List (Str×V)},bZ N H fs t->bZ N H' fs t
 | .num _,_,h=>h
 | .take _ _,_,⟨q,e,h⟩=>⟨q,e,s _ _ h (by intro _ z;cases z)⟩
 | .rest _ _,_,⟨p,dx,gs,e,h,h2⟩=>⟨p,dx,gs,e,s _ _ h (by intro _ z;cases z),h2.keep s⟩
 | .cho _ _ _,_,⟨p,dp,ps,q,dq,qs,r,dr,rs,e,⟨h1,g1⟩,⟨h2,g2⟩,h3,g3⟩=>⟨p,dp,ps,q,dq,qs,r,dr,rs,e,⟨s _ _ h1 (by intro _ z;cases z),g1.keep s⟩,⟨s _ _ h2 (by intro _ z;cases z),g2.keep s⟩,s _ _ h3 (by intro _ z;cases z),g3.keep s⟩
 | .bin _ _ _,_,⟨p,dp,ps,q,dq,qs,e,⟨h1,g1⟩,h2,g2⟩=>⟨p,dp,ps,q,dq,qs,e,⟨s _ _ h1 (by intro _ z;cases z),g1.keep s⟩,s _ _ h2 (by intro _ z;cases z),g2.keep s⟩
theorem bZ.same {N:Cn} {H H':Hp} (s:bA H H') {t:Tm} {fs:List (Str×V)} (h:bZ N H fs t):bZ N H' fs t:=h.keep (KpN.of s)
def eO (N:Cn) (H:Hp) (t:Tm) (v:V):Prop:=∃p dx fs,v= .ref p/\H p=some (.ins (cls N t) dx fs)/\bZ N H fs t
theorem eO.same {N:Cn} {H H':Hp} (s:bA H H') {t:Tm} {v:V} (h:eO N H t v):eO N H' t v:=let⟨p,dx,fs,e,h1,h2⟩:=h;⟨p,dx,fs,e,s _ _ h1,h2.same s⟩
theorem eO.keep {N:Cn} {H H':Hp} (s:KpN H H') {t:Tm} {v:V} (h:eO N H t v):eO N H' t v:=let⟨p,dx,fs,e,h1,h2⟩:=h;⟨p,dx,fs,e,s _ _ h1 (by intro _ z;cases z),h2.keep s⟩
def kids:Tm->List Tm
 | .num _=>[]
 | .take _ _=>[]
 | .rest t _=>[t]
 | .cho a b c=>[a,b,c]
 | .bin _ a b=>[a,b]
def ht:Tm->Nat
 | .num _=>1
 | .take _ _=>1
 | .rest t _=>ht t+1
 | .cho a b c=>max (ht a) (max (ht b) (ht c))+1
 | .bin _ a b=>max (ht a) (ht b)+1
def dD:Tm->Nat
 | .num _=>1
 | .take _ _=>1
 | .rest t _=>1+dD t
 | .cho a b c=>1+(dD a+(dD b+dD c))
 | .bin _ a b=>1+(dD a+dD b)
def raw:Tm->List Tk
 | .num _=>[]
 | .take b ss=>[kyT (b,ss)]
 | .rest t _=>raw t
 | .cho a b c=>raw a++(raw b++raw c)
 | .bin _ a b=>raw a++raw b
theorem mV:∀t,0<ht t
 | .num _=>Nat.one_pos
 | .take _ _=>Nat.one_pos
 | .rest _ _=>Nat.succ_pos _
 | .cho _ _ _=>Nat.succ_pos _
 | .bin _ _ _=>Nat.succ_pos _
theorem aBy:∀{t k:Tm},k∈kids t->ht k<ht t
 | .rest t _,k,h=>by rw [List.mem_singleton.mp h,ht];omega
 | .cho a b c,k,h=>by
  simp only [kids,List.mem_cons,List.not_mem_nil,or_false]at h
  rw [ht]
  rcases h with rfl|rfl|rfl<;>omega
 | .bin _ a b,k,h=>by
  simp only [kids,List.mem_cons,List.not_mem_nil,or_false]at h
  rw [ht]
  rcases h with rfl|rfl<;>omega
theorem aBt (t:Tm):(kids t).length<=3:=by cases t<;>simp [kids]
theorem aHc:∀{t k:Tm},k∈kids t->∀x∈raw k,x∈raw t
 | .rest t _,k,h,x,hx=>by rw [List.mem_singleton.mp h]at hx;exact hx
 | .cho a b c,k,h,x,hx=>by
  simp only [kids,List.mem_cons,List.not_mem_nil,or_false]at h
  simp only [raw,List.mem_append]
  rcases h with rfl|rfl|rfl
  ·exact .inl hx
  ·exact .inr (.inl hx)
  ·exact .inr (.inr hx)
 | .bin _ a b,k,h,x,hx=>by
  simp only [kids,List.mem_cons,List.not_mem_nil,or_false]at h
  simp only [raw,List.mem_append]
  rcases h with rfl|rfl
  ·exact .inl hx
  ·exact .inr hx
def aR7 (t:Tm) (l:List Tk):Prop:=l.Pairwise (fun x y=>wA x y=true)/\∀x,x∈l↔x∈raw t
theorem aI8 {x y:Tk} (h:wA x y=true):wA y x=false:=by
 unfold wA at h⊢
 by_cases e:x.1=y.1
 ·rw [if_pos e]at h
  rw [if_pos e.symm]
  exact aA1 _ _ h
 ·rw [if_neg e,decide_eq_true_iff]at h
  rw [if_neg (Ne.symm e),decide_eq_false_iff_not]
  omega
theorem yL {t k:Tm} (h:k∈kids t):dD k<dD t:=by
 cases t with
 |num n=>cases h
 |take b ss=>cases h
 |rest a y=>rw [List.mem_singleton.mp h,dD];omega
 |cho a b c=>
  simp only [kids,List.mem_cons,List.not_mem_nil,or_false]at h
  rw [dD]
  rcases h with rfl|rfl|rfl<;>omega
 |bin j a b=>
  simp only [kids,List.mem_cons,List.not_mem_nil,or_false]at h
  rw [dD]
  rcases h with rfl|rfl<;>omega
theorem _root_.L2.PKy.ints {H:Hp} {x:Tk} {p q:Addr} (h1:H p=some (.tup [.int x.1,.ref q])) (h2:H q=some (.tup (x.2.map V.int))):PKy H (x,p):=by
 refine⟨(.i x.1,x.2.map Nb.i),q,?_,h1,?_⟩
 ·show(x.1,(x.2.map Nb.i).map Nb.k)=x
  rw [List.map_map,show Nb.k∘Nb.i=id from rfl,List.map_id]
 ·show H q=some (.tup ((x.2.map Nb.i).map Nb.v))
  rw [List.map_map]
  exact h2
def okN:Nb->Int->Int->Bool
 | .i x,lo,hi=>decide (lo<=x/\x<=hi)
 | .b _,_,_=>false
def isI:Nb->Bool
 | .i _=>true
 | .b _=>false
def rO (ss:List Nb):Bool:=decide (1<=ss.length/\ss.length<=3) && ss.all fun s=>okN s (-9) 9
def own:Tm->Option Str
 | .num n=>if okN n (-1000000000000) 1000000000000=true then none else some "number"
 | .take b ss=>if okN b 1 3=true then(if rO ss=true then none else some "steps")else some "back"
 | .rest _ y=>if okN y 1 1000000000=true then none else some "by"
 | .cho _ _ _=>none
 | .bin _ _ _=>none
def orS:Option Str->Option Str->Option Str
 |some x,_=>some x
 |none,y=>y
def ff:Tm->Option Str
 | .num n=>own (.num n)
 | .take b ss=>own (.take b ss)
 | .rest t y=>orS (ff t) (own (.rest t y))
 | .cho a b c=>orS (ff a) (orS (ff b) (ff c))
 | .bin _ a b=>orS (ff a) (ff b)
def aDj (x:Tk):Prop:=1<=x.1/\x.1<=3/\(∀s∈x.2, -9<=s/\s<=9)/\1<=x.2.length/\x.2.length<=3
theorem aP8 {x:Tk} (h:aDj x):ff (.take (.i x.1) (x.2.map .i))=none:=by
 obtain⟨h1,h2,h3,h4,h5⟩:=h
 have a:rO (x.2.map .i)=true:=by
  unfold rO
  rw [List.length_map,decide_eq_true ⟨h4,h5⟩,Bool.true_and,List.all_eq_true]
  intro n hn
  obtain⟨s,hs,rfl⟩:=List.mem_map.mp hn
  exact decide_eq_true (h3 s hs)
 rw [ff,own,if_pos (show okN (.i x.1) 1 3=true from decide_eq_true ⟨h1,h2⟩),if_pos a]
inductive aIq (K:W.Frag) (vs:List V) (H:Hp) (Q:VK) (z3_:XK):Prop
 |mk (e C:Addr) (y:V) (q0_:vs=[.ref e,y]) (q1_:H e=some (nM e C none)) (q2_:pU K C) (q3_:W.takerIn K C "at"=some none) (q4_:∀dx,H dx=none->dx≠e->Q .non (upd (upd H dx (.xd [("at",y)])) e (nM e C (some dx)))):aIq K vs H Q z3_
def iC (K:W.Frag):Sp:=fun vs H Q z3_=>aIq K vs H Q z3_
theorem aTi:aM ["self","at"] ["self","at"] (aH aLn):=bG
theorem aP5 {f:Addr} {fd:FuncData} (F:Fun K "__init__" "TileError.__init__" aLn f fd) (hV:mg "ValueError"=none):bC P w K mg base CX0 1 f fd ["self","at"] (iC K):=by
 refine F.ok aTi (fun vs H Q E h=>?_) (fun cdv A outer s H vs Q E hr h=>?_)
 ·obtain⟨e,C,y,rfl,_⟩:=h
  rfl
 ·obtain⟨e,C,y,rfl,he,c,tk,q⟩:=h
  refine⟨_,aB (bY (aVc rfl hV (aA (pv 0) (aA (pv 1) aC)))) (aD (aJd (pv 0) (pv 1) rfl)),?_⟩
  refine⟨_,rfl,_,rfl,e,C,y,none,rfl,he,c.kts,?_⟩
  exact⟨_,rfl,_,rfl,e,C,rfl,he,c,tk,fun dx h1 h2=>q dx h1 h2⟩
def zJ (H:Hp) (dx:Addr) (v:V):Prop:=H dx=some (.xd [("at",v)])
structure Ng (K:W.Frag) (mg:Str->Option Value) (CG fT:Addr):Prop where
 rs:Rs K CG fT
 cls:pU K CG
 tk:W.takerIn K CG "at"=some none
 mg:mg "NoTerm"=some (.ref CG)
theorem dF {CG:Addr} {H H1:Hp} {v:V} {E:XK} (N:pU K CG) (tk:W.takerIn K CG "at"=some none) (s:bA H H1) (k:∀H' dx,bA H H'->zJ H' dx v->E (.ref CG) (some dx) H') {e:Addr} (he:H1 e=none):
  iC K [.ref e,v] (upd H1 e (nM e CG none)) (fun z H2=>z= .non/\∃dx,H2 e=some (nM e CG (some dx))/\E (.ref CG) (some dx) (pI H2 e)) E0:=by
 refine⟨e,CG,v,rfl,aF,N,tk,fun dx h1 h2=>⟨rfl,dx,aF,k _ dx (fun b o hb=>?_) ?_⟩⟩
 ·have hb1:=s b o hb
  have n1:b≠e:=bR hb1 he
  have n2:b≠dx:=bR (o:=o) (by rw [aX n1];exact hb1) h1
  rw [gD n1,aX n1,aX n2,aX n1]
  exact hb1
 ·unfold zJ
  rw [gD h2,aX h2,aF]
theorem wU {A:Around} {k:Nat} (hr:eU k A):A.units+101<cLine:=by have:=hr.un;omega
theorem bD {c:Bool} {a b:Prop} (h:c=true) (x:a):if c=true then a else b:=by rw [if_pos h];exact x
theorem aZ {c:Bool} {a b:Prop} (h:c=false) (x:b):if c=true then a else b:=by rw [if_neg (by rw [h];exact Bool.false_ne_true)];exact x
theorem bW.same {a:Addr} {H H':Hp} (s:bA H H') (h:bW H a):bW H' a:=by
 obtain⟨x,y,z,e⟩:=h
 exact⟨x,y,z,s _ _ e⟩
inductive aIr (K:W.Frag) (vs:List V) (H:Hp) (Q:VK) (z3_:XK):Prop
 |mk (a:Addr) (ns:List Int) (k:Nat) (q0_:vs=[.ref a,cG k]) (q1_:SqL K H a (ns.map V.int)) (q2_:∀c:Int,Q (.int c) H):aIr K vs H Q z3_
def aNo (K:W.Frag):Sp:=fun vs H Q z3_=>aIr K vs H Q z3_
inductive aHt (K:W.Frag) (vs:List V) (H:Hp) (Q:VK) (z3_:XK):Prop
 |mk (a:Addr) (ns:List Int) (k:Nat) (q0_:vs=[.ref a,cG k]) (q1_:SqL K H a (ns.map V.int)) (q2_:∀(p:Addr) (H':Hp),bA H H'->H p=none->bW H' p->Q (.ref p) H'):aHt K vs H Q z3_
def aL8 (K:W.Frag):Sp:=fun vs H Q z3_=>aHt K vs H Q z3_
inductive aIv (vs:List V) (H:Hp) (Q:VK) (z3_:XK):Prop
 |mk (a:Addr) (m:Int) (q0_:vs=[.ref a,.int m]) (q1_:bW H a) (q2_:0<m) (q3_:m<2 ^ 62) (q4_:∀(n:Nat) (H':Hp),(n:Int)<m->Kp a H H'->bW H' a->Q (cG n) H'):aIv vs H Q z3_
def qG:Sp:=fun vs H Q z3_=>aIv vs H Q z3_
theorem aVh (x:Int): -(2 ^ 64)<x % 2147483647/\x % 2147483647<2 ^ 64:=by
 have h1:=Int.emod_nonneg x (show(2147483647:Int)≠0 by decide)
 have h2:=Int.emod_lt_of_pos x (show(0:Int)<2147483647 by decide)
 omega
theorem aVv (x:Int): -(2 ^ 64)<x % 2147483399/\x % 2147483399<2 ^ 64:=by
 have h1:=Int.emod_nonneg x (show(2147483399:Int)≠0 by decide)
 have h2:=Int.emod_lt_of_pos x (show(0:Int)<2147483399 by decide)
 omega
theorem aTf:aM ["_law_script","_law_k"] ["_law_script","_law_k"] (aH aMr):=bG
theorem aQl {f:Addr} {fd:FuncData} (F:Fun K "_law_cell_at" "_law_cell_at" aMr f fd) (T:Txt K mg):bC P w K mg base CX0 1 f fd ["_law_script","_law_k"] (aNo K):=by
 refine F.ok aTf (fun vs H Q E h=>?_) (fun cdv A outer s H vs Q E hr h=>?_)
 ·obtain⟨a,ns,k,rfl,_⟩:=h
  rfl
 ·obtain⟨a,ns,k,rfl,hS,q⟩:=h
  refine⟨_,(aB (bK (aN yR (pv 1) (bN dM (by rfl) T.len PySem.boot_len (aA (pv 0) aC)) (aV _)) (aD (aL (cU dU (pv 0) (pv 1) (fun _ _=>rfl)))) aR) (aD (aL aG))),?_⟩
  refine⟨_,rfl,_,rfl,a,_,rfl,.inl hS,_,_,rfl,rfl,_,rfl,?_⟩
  by_cases h:k<ns.length
  ·refine bD (decide_eq_true (by rw [List.length_map];omega)) ?_
   exact⟨_,rfl,_,rfl,a,_,_,_,rfl,rfl,hS,jZ (show(ns.map V.int)[k]? =some (.int ns[k]) by rw [List.getElem?_map,List.getElem?_eq_getElem h];rfl),q _⟩
  ·exact aZ (decide_eq_false (by rw [List.length_map];omega)) (q 0)
theorem aN8:aM ["_law_script","_law_k","_law_cell"] ["_law_script","_law_k"] (aH aO2):=bG
theorem aPf {f:Addr} {fd:FuncData} (F:Fun K "_law_well" "_law_well" aO2 f fd) (c_cell:Cal P w K mg base CX0 1 "_law_cell_at" ["_law_script","_law_k"] (aNo K)) (T:Txt K mg):bC P w K mg base CX0 2 f fd ["_law_script","_law_k"] (aL8 K):=by
 refine F.ok aN8 (fun vs H Q E h=>?_) (fun cdv A outer s H vs Q E hr h=>?_)
 ·obtain⟨a,ns,k,rfl,_⟩:=h
  rfl
 ·obtain⟨a,ns,k,rfl,hS,q⟩:=h
  refine⟨_,(aB (aY (i:=2) aN8.nd rfl (Or.inl rfl) (cV c_cell (hr.mo) rfl aP (aA (pv 0) (aA (pv 1) aC)))) (aD (aL (cO (aA (aU bJ (aU sU (pv 2) aG) (pv 1)) (aA (cU dU (cO (aA aG (aA (pv 2) aC))) (cP tY rfl T.int boot_int (aA (jC aUa (pv 2) (aU aFe aG aG) (aV _)) aC)) (fun _ _=>rfl)) (aA aG aC))))))),?_⟩
  refine⟨_,rfl,_,rfl,a,ns,k,rfl,hS,fun c=>?_⟩
  refine⟨_,rfl,_,_,rfl,rfl,(by show(0:Int)<2147483647;decide),_,rfl,_,_,rfl,rfl,?_⟩
  refine⟨_,rfl,sz2,fun l hl=>?_⟩
  generalize g:upd H l _=H1
  obtain⟨s1,e1⟩:=bF hl g
  refine⟨_,rfl,_,_,rfl,rfl,⟨by decide,by decide,by decide⟩,_,_,rfl,rfl,.inr ⟨_,rfl,?_⟩⟩
  obtain⟨y,hy⟩:∃y:Int,atI [V.int 0,V.int c] (if decide (10 ^ 18<=c)=true then 1 else 0)=some (.int y):=by
   by_cases h:(10:Int) ^ 18<=c
   ·rw [decide_eq_true h];exact⟨c,rfl⟩
   ·rw [decide_eq_false h];exact⟨0,rfl⟩
  refine⟨l,_,_,_,rfl,rfl,SqL.of e1,hy,?_⟩
  refine⟨sz3,fun p hp=>q p _ (s1.trans (sameNew hp)) (s1.free hp) ⟨_,_,_,aF⟩⟩
theorem xF:aM ["_law_well_here","_law_most","_law_number_here"] ["_law_well_here","_law_most"] (aH aL2):=bG
theorem aPk {f:Addr} {fd:FuncData} (F:Fun K "_law_draw" "_law_draw" aL2 f fd):bC P w K mg base CX0 1 f fd ["_law_well_here","_law_most"] qG:=by
 refine F.ok xF (fun vs H Q E h=>?_) (fun cdv A outer s H vs Q E hr h=>?_)
 ·obtain⟨a,m,rfl,_⟩:=h
  rfl
 ·obtain⟨a,m,rfl,⟨x,y,z,ha⟩,hm,hm2,k⟩:=h
  have fin:∀(t:Int) (H':Hp),Kp a H H'->bW H' a->Q (.int (t % m)) H':=fun t H' kp w'=>by
   have h1:=Int.emod_nonneg t (show m≠0 by omega)
   have h2:=Int.emod_lt_of_pos t hm
   have:=k (t % m).toNat H' (by omega) kp w'
   rw [show cG (t % m).toNat=V.int (t % m) by show V.int _=_;congr 1;omega]at this
   exact this
  refine⟨_,(aB (bK (aN aA0 (cU dU (pv 0) aG (fun _ _=>rfl)) aG (aV _)) (aB (aY (i:=2) xF.nd rfl (Or.inl rfl) (aU sU (cU dU (pv 0) aG (fun _ _=>rfl)) (pv 1))) (aB (aBq (aU qJ (cU dU (pv 0) aG (fun _ _=>rfl)) (pv 1)) (aNz (pv 0) aG set_list)) (aD (aL (pv 2))))) aR) (aB (aBq (aU bJ (cU dU (pv 0) aG (fun _ _=>rfl)) aG) (aNz (pv 0) aG set_list)) (aB (aY (i:=2) xF.nd rfl (Or.inl rfl) (aU sU (aU sX (aU bJ (aU bJ (cU dU (pv 0) aG (fun _ _=>rfl)) (aU sX aG (cU dU (pv 0) aG (fun _ _=>rfl)))) aG) aG) aG)) (aB (aY (i:=2) xF.nd rfl (Or.inl rfl) (aU sU (aU sX (pv 2) (aU bJ (aU qJ (pv 2) aG) aG)) aG)) (aB (aY (i:=2) xF.nd rfl (Or.inl rfl) (aU sU (aU sX (pv 2) (aU bJ (aU qJ (pv 2) aG) aG)) aG)) (aD (aL (aU sU (aU bJ (aU sX (pv 2) aG) (aU qJ (pv 2) aG)) (pv 1))))))))),?_⟩
  refine⟨_,rfl,a,_,_,_,rfl,rfl,SqL.of ha,rfl,_,_,rfl,rfl,_,rfl,?_⟩
  refine aWo (fun _=>?_) (fun _=>?_)
  ·refine⟨_,rfl,a,_,_,_,rfl,rfl,SqL.of ha,rfl,_,rfl,_,_,rfl,rfl,hm,?_⟩
   refine⟨_,rfl,a,_,_,_,rfl,rfl,SqL.of ha,rfl,_,rfl,_,_,rfl,rfl,⟨hm,hm2⟩,?_⟩
   refine⟨_,rfl,a,_,_,1,rfl,rfl,ha,rfl,?_⟩
   exact⟨_,rfl,fin _ _ aHa ⟨_,_,_,aF⟩⟩
  ·refine⟨_,rfl,a,_,_,_,rfl,rfl,SqL.of ha,rfl,_,_,rfl,rfl,?_⟩
   refine⟨_,rfl,a,_,_,2,rfl,rfl,ha,rfl,?_⟩
   have hb:(upd H a (.lst ([V.int x,V.int y,V.int z].set 2 (.int (z+1))))) a=some (.lst [.int x,.int y,.int (z+1)]):=aF
   refine⟨_,rfl,a,_,_,_,rfl,rfl,SqL.of hb,rfl,_,rfl,a,_,_,_,rfl,rfl,SqL.of hb,rfl,_,_,rfl,rfl,.inl ⟨by decide,by decide⟩,_,_,rfl,rfl,_,_,rfl,rfl,_,_,rfl,rfl,.inr ⟨by decide,by decide⟩,_,_,rfl,rfl,(by show(0:Int)<2147483647;decide),?_⟩
   refine⟨_,rfl,_,rfl,_,_,rfl,rfl,⟨by decide,by decide⟩,_,_,rfl,rfl,_,_,rfl,rfl,.inl (aVh _),_,_,rfl,rfl,(by show(0:Int)<2147483647;decide),?_⟩
   refine⟨_,rfl,_,rfl,_,_,rfl,rfl,⟨by decide,by decide⟩,_,_,rfl,rfl,_,_,rfl,rfl,.inl (aVh _),_,_,rfl,rfl,(by show(0:Int)<2147483399;decide),?_⟩
   refine⟨_,rfl,_,_,rfl,rfl,.inl (aVv _),_,rfl,_,_,rfl,rfl,⟨by decide,by decide⟩,_,_,rfl,rfl,_,rfl,_,_,rfl,rfl,hm,?_⟩
   exact fin _ _ aHa ⟨_,_,_,aF⟩
structure Cf (K:W.Frag) (C:Addr) (fs:List Str):Prop where
 cl:Cls K C
 na:∀f∈fs,jV K C f
inductive aR5 (K:W.Frag) (a:Str) (vs:List V) (H:Hp) (Q:VK) (z3_:XK):Prop
 |mk (p C dx:Addr) (x:V) (q0_:vs=[.ref p,x]) (q1_:H p=some (.ins C dx [])) (q2_:Cf K C [a]) (q3_:Q .non (upd H p (.ins C dx [(a,x)]))):aR5 K a vs H Q z3_
def aUy (K:W.Frag) (a:Str):Sp:=fun vs H Q z3_=>aR5 K a vs H Q z3_
inductive aRk (K:W.Frag) (a b:Str) (vs:List V) (H:Hp) (Q:VK) (z3_:XK):Prop
 |mk (p C dx:Addr) (x y:V) (q0_:vs=[.ref p,x,y]) (q1_:H p=some (.ins C dx [])) (q2_:Cf K C [a,b]) (q3_:Q .non (upd (upd H p (.ins C dx [(a,x)])) p (.ins C dx [(a,x),(b,y)]))):aRk K a b vs H Q z3_
def aCf (K:W.Frag) (a b:Str):Sp:=fun vs H Q z3_=>aRk K a b vs H Q z3_
inductive aRz (K:W.Frag) (a b c:Str) (vs:List V) (H:Hp) (Q:VK) (z3_:XK):Prop
 |mk (p C dx:Addr) (x y z:V) (q0_:vs=[.ref p,x,y,z]) (q1_:H p=some (.ins C dx [])) (q2_:Cf K C [a,b,c]) (q3_:Q .non (upd (upd (upd H p (.ins C dx [(a,x)])) p (.ins C dx [(a,x),(b,y)])) p (.ins C dx [(a,x),(b,y),(c,z)]))):aRz K a b c vs H Q z3_
def aU9 (K:W.Frag) (a b c:Str):Sp:=fun vs H Q z3_=>aRz K a b c vs H Q z3_
theorem aPs:aM ["self","value"] ["self","value"] (aH aGg):=bG
theorem aMv {f:Addr} {fd:FuncData} (F:Fun K "__init__" "Number.__init__" aGg f fd):bC P w K mg base CX0 1 f fd ["self","value"] (aUy K "value"):=by
 refine F.ok aPs (fun vs H Q E h=>?_) (fun cdv A outer s H vs Q E hr h=>?_)
 ·obtain⟨p,C,dx,x,rfl,_⟩:=h
  rfl
 ·obtain⟨p,C,dx,x,rfl,hp,c,q⟩:=h
  refine⟨_,(aD (gO (pv 0) (pv 1) rfl)),?_⟩
  exact⟨_,rfl,_,rfl,p,C,dx,_,rfl,hp,c.cl,c.na _ (by simp),by decide,q⟩
theorem aPq:aM ["self","back","steps"] ["self","back","steps"] (aH aGj):=bG
theorem aLh {f:Addr} {fd:FuncData} (F:Fun K "__init__" "Take.__init__" aGj f fd):bC P w K mg base CX0 1 f fd ["self","back","steps"] (aCf K "back" "steps"):=by
 refine F.ok aPq (fun vs H Q E h=>?_) (fun cdv A outer s H vs Q E hr h=>?_)
 ·obtain⟨p,C,dx,x,y,rfl,_⟩:=h
  rfl
 ·obtain⟨p,C,dx,x,y,rfl,hp,c,q⟩:=h
  refine⟨_,(aB (gO (pv 0) (pv 1) rfl) (aD (gO (pv 0) (pv 2) rfl))),?_⟩
  refine⟨_,rfl,_,rfl,p,C,dx,_,rfl,hp,c.cl,c.na _ (by simp),by decide,?_⟩
  exact⟨_,rfl,_,rfl,p,C,dx,_,rfl,aF,c.cl,c.na _ (by simp),by show(1:Nat)<1000;decide,q⟩
theorem aQk:aM ["self","one","other"] ["self","one","other"] (aH aGu):=bG
theorem oF {f:Addr} {fd:FuncData} (F:Fun K "__init__" "Paired.__init__" aGu f fd):bC P w K mg base CX0 1 f fd ["self","one","other"] (aCf K "one" "other"):=by
 refine F.ok aQk (fun vs H Q E h=>?_) (fun cdv A outer s H vs Q E hr h=>?_)
 ·obtain⟨p,C,dx,x,y,rfl,_⟩:=h
  rfl
 ·obtain⟨p,C,dx,x,y,rfl,hp,c,q⟩:=h
  refine⟨_,(aB (gO (pv 0) (pv 1) rfl) (aD (gO (pv 0) (pv 2) rfl))),?_⟩
  refine⟨_,rfl,_,rfl,p,C,dx,_,rfl,hp,c.cl,c.na _ (by simp),by decide,?_⟩
  exact⟨_,rfl,_,rfl,p,C,dx,_,rfl,aF,c.cl,c.na _ (by simp),by show(1:Nat)<1000;decide,q⟩
theorem aQj:aM ["self","one","by"] ["self","one","by"] (aH aF3):=bG
theorem aNy {f:Addr} {fd:FuncData} (F:Fun K "__init__" "Rest.__init__" aF3 f fd):bC P w K mg base CX0 1 f fd ["self","one","by"] (aCf K "one" "by"):=by
 refine F.ok aQj (fun vs H Q E h=>?_) (fun cdv A outer s H vs Q E hr h=>?_)
 ·obtain⟨p,C,dx,x,y,rfl,_⟩:=h
  rfl
 ·obtain⟨p,C,dx,x,y,rfl,hp,c,q⟩:=h
  refine⟨_,(aB (gO (pv 0) (pv 1) rfl) (aD (gO (pv 0) (pv 2) rfl))),?_⟩
  refine⟨_,rfl,_,rfl,p,C,dx,_,rfl,hp,c.cl,c.na _ (by simp),by decide,?_⟩
  exact⟨_,rfl,_,rfl,p,C,dx,_,rfl,aF,c.cl,c.na _ (by simp),by show(1:Nat)<1000;decide,q⟩
theorem aO8:aM ["self","test","one","other"] ["self","test","one","other"] (aH aF5):=bG
theorem aLm {f:Addr} {fd:FuncData} (F:Fun K "__init__" "Chosen.__init__" aF5 f fd):bC P w K mg base CX0 1 f fd ["self","test","one","other"] (aU9 K "test" "one" "other"):=by
 refine F.ok aO8 (fun vs H Q E h=>?_) (fun cdv A outer s H vs Q E hr h=>?_)
 ·obtain⟨p,C,dx,x,y,z,rfl,_⟩:=h
  rfl
 ·obtain⟨p,C,dx,x,y,z,rfl,hp,c,q⟩:=h
  refine⟨_,(aB (gO (pv 0) (pv 1) rfl) (aB (gO (pv 0) (pv 2) rfl) (aD (gO (pv 0) (pv 3) rfl)))),?_⟩
  refine⟨_,rfl,_,rfl,p,C,dx,_,rfl,hp,c.cl,c.na _ (by simp),by decide,?_⟩
  refine⟨_,rfl,_,rfl,p,C,dx,_,rfl,aF,c.cl,c.na _ (by simp),by show(1:Nat)<1000;decide,?_⟩
  exact⟨_,rfl,_,rfl,p,C,dx,_,rfl,aF,c.cl,c.na _ (by simp),by show(2:Nat)<1000;decide,q⟩
def tag:Tm->Nat
 | .num _=>0
 | .take _ _=>1
 | .rest _ _=>2
 | .cho _ _ _=>3
 | .bin k _ _=>4+k.val
def tE (N:Cn):List Addr:=[N.num,N.take,N.rest,N.cho,N.bin 0,N.bin 1,N.bin 2,N.bin 3,N.bin 4]
theorem aFm (N:Cn):∀t:Tm,(tE N)[tag t]? =some (cls N t)
 | .num _=>rfl
 | .take _ _=>rfl
 | .rest _ _=>rfl
 | .cho _ _ _=>rfl
 | .bin k _ _=>by
  match k with
  |0=>rfl
  |1=>rfl
  |2=>rfl
  |3=>rfl
  |4=>rfl
theorem pQ {N:Cn} (nd:(tE N).Nodup) {t u:Tm} (h:cls N t=cls N u):tag t=tag u:=by
 have h1:=aFm N t
 have h2:=aFm N u
 rw [h]at h1
 exact(List.getElem?_inj (List.getElem?_eq_some_iff.mp h1).1 nd).mp (h1.trans h2.symm)
theorem aT0 {N:Cn} (nd:(tE N).Nodup) {t:Tm} (h:cls N t=N.num):kids t=[]/\raw t=[]:=by
 have:=pQ nd (u:= .num (.i 0)) h
 cases t<;>simp [tag]at this<;>first|exact⟨rfl,rfl⟩|omega
theorem vA {N:Cn} (nd:(tE N).Nodup) {t:Tm} (h:cls N t=N.take):∃b ss,t= .take b ss:=by
 have:=pQ nd (u:= .take (.i 0) []) h
 cases t<;>simp [tag]at this<;>first|exact⟨_,_,rfl⟩|omega
theorem aCa {N:Cn} (nd:(tE N).Nodup) {t:Tm} (h:cls N t=N.rest):∃a y,t= .rest a y:=by
 have:=pQ nd (u:= .rest (.num (.i 0)) (.i 0)) h
 cases t<;>simp [tag]at this<;>first|exact⟨_,_,rfl⟩|omega
theorem aFs {N:Cn} (nd:(tE N).Nodup) {t:Tm} (h:cls N t=N.cho):∃a b c,t= .cho a b c:=by
 have:=pQ nd (u:= .cho (.num (.i 0)) (.num (.i 0)) (.num (.i 0))) h
 cases t<;>simp [tag]at this<;>first|exact⟨_,_,_,rfl⟩|omega
theorem aNp {N:Cn} (nd:(tE N).Nodup) {t:Tm} {k:Fin 5} (h:cls N t=N.bin k):∃j a b,t= .bin j a b:=by
 have:=pQ nd (u:= .bin k (.num (.i 0)) (.num (.i 0))) h
 cases t<;>simp [tag]at this<;>first|exact⟨_,_,_,rfl⟩|omega
inductive aEu (N:Cn) (C:Addr) (vs:List V) (H:Hp) (Q:VK) (z3_:XK):Prop
 |mk (p dx:Addr) (fs:List (Str×V)) (t:Tm) (q0_:vs=[.ref p]) (q1_:H p=some (.ins (cls N t) dx fs)) (q2_:bZ N H fs t) (q3_:cls N t=C) (q4_:∀(l:Addr) (xs:List V) (H':Hp),bA H H'->H l=none->H' l=some (.lst xs)->Paired (eO N H) (kids t) xs->Q (.ref l) H'):aEu N C vs H Q z3_
def eG (N:Cn) (C:Addr):Sp:=fun vs H Q z3_=>aEu N C vs H Q z3_
theorem aMy:aM ["self"] ["self"] (aH uZ):=bG
theorem aAj {f C:Addr} {fd:FuncData} (F:Fun K "inner" "Term.inner" uZ f fd) (hC:∀t,cls N t=C->kids t=[]):bC P w K mg base CX0 1 f fd ["self"] (eG N C):=by
 refine F.ok aMy (fun vs H Q E h=>?_) (fun cdv A outer s H vs Q E hr h=>?_)
 ·obtain⟨p,dx,fs,t,rfl,_⟩:=h
  rfl
 ·obtain⟨p,dx,fs,t,rfl,hp,hf,hc,q⟩:=h
  refine⟨_,(aD (aL (cO aC))),?_⟩
  refine⟨sz0,fun l hl=>q l [] _ (sameNew hl) hl aF ?_⟩
  rw [hC t hc]
  exact .nil
theorem aLz:aM ["self"] ["self"] (aH vU):=bG
theorem aK0 {f C:Addr} {fd:FuncData} (F:Fun K "inner" "Paired.inner" vU f fd) (c:Cf K C ["one","other"]) (hC:∀t,cls N t=C->∃k a b,t= .bin k a b):bC P w K mg base CX0 1 f fd ["self"] (eG N C):=by
 refine F.ok aLz (fun vs H Q E h=>?_) (fun cdv A outer s H vs Q E hr h=>?_)
 ·obtain⟨p,dx,fs,t,rfl,_⟩:=h
  rfl
 ·obtain⟨p,dx,fs,t,rfl,hp,hf,hc,q⟩:=h
  refine⟨_,(aD (aL (cO (aA (bM (pv 0) rfl) (aA (bM (pv 0) rfl) aC))))),?_⟩
  obtain⟨k,a,b,rfl⟩:=hC t hc
  rw [hc]at hp
  obtain⟨p1,d1,f1,p2,d2,f2,rfl,⟨h1,g1⟩,h2,g2⟩:=hf
  refine⟨_,rfl,p,C,dx,_,_,rfl,hp,c.cl,c.na _ (by simp),rfl,_,rfl,p,C,dx,_,_,rfl,hp,c.cl,c.na _ (by simp),rfl,sz2,fun l hl=>?_⟩
  generalize e:upd H l _=H1
  obtain⟨s1,e1⟩:=bF hl e
  exact q l _ H1 s1 hl e1 (.cons ⟨p1,d1,f1,rfl,h1,g1⟩ (.cons ⟨p2,d2,f2,rfl,h2,g2⟩ .nil))
theorem aNt:aM ["self"] ["self"] (aH vD):=bG
theorem aI2 {f C:Addr} {fd:FuncData} (F:Fun K "inner" "Rest.inner" vD f fd) (c:Cf K C ["one","by"]) (hC:∀t,cls N t=C->∃a y,t= .rest a y):bC P w K mg base CX0 1 f fd ["self"] (eG N C):=by
 refine F.ok aNt (fun vs H Q E h=>?_) (fun cdv A outer s H vs Q E hr h=>?_)
 ·obtain⟨p,dx,fs,t,rfl,_⟩:=h
  rfl
 ·obtain⟨p,dx,fs,t,rfl,hp,hf,hc,q⟩:=h
  refine⟨_,(aD (aL (cO (aA (bM (pv 0) rfl) aC)))),?_⟩
  obtain⟨a,y,rfl⟩:=hC t hc
  rw [hc]at hp
  obtain⟨p1,d1,f1,rfl,h1,g1⟩:=hf
  refine⟨_,rfl,p,C,dx,_,_,rfl,hp,c.cl,c.na _ (by simp),rfl,sz1,fun l hl=>?_⟩
  generalize e:upd H l _=H1
  obtain⟨s1,e1⟩:=bF hl e
  exact q l _ H1 s1 hl e1 (.cons ⟨p1,d1,f1,rfl,h1,g1⟩ .nil)
theorem aL4:aM ["self"] ["self"] (aH vQ):=bG
theorem aKs {f C:Addr} {fd:FuncData} (F:Fun K "inner" "Chosen.inner" vQ f fd) (c:Cf K C ["test","one","other"]) (hC:∀t,cls N t=C->∃a b d,t= .cho a b d):bC P w K mg base CX0 1 f fd ["self"] (eG N C):=by
 refine F.ok aL4 (fun vs H Q E h=>?_) (fun cdv A outer s H vs Q E hr h=>?_)
 ·obtain⟨p,dx,fs,t,rfl,_⟩:=h
  rfl
 ·obtain⟨p,dx,fs,t,rfl,hp,hf,hc,q⟩:=h
  refine⟨_,(aD (aL (cO (aA (bM (pv 0) rfl) (aA (bM (pv 0) rfl) (aA (bM (pv 0) rfl) aC)))))),?_⟩
  obtain⟨a,b,d,rfl⟩:=hC t hc
  rw [hc]at hp
  obtain⟨p1,d1,f1,p2,d2,f2,p3,d3,f3,rfl,⟨h1,g1⟩,⟨h2,g2⟩,h3,g3⟩:=hf
  refine⟨_,rfl,p,C,dx,_,_,rfl,hp,c.cl,c.na _ (by simp),rfl,_,rfl,p,C,dx,_,_,rfl,hp,c.cl,c.na _ (by simp),rfl,_,rfl,p,C,dx,_,_,rfl,hp,c.cl,c.na _ (by simp),rfl,sz3,fun l hl=>?_⟩
  generalize e:upd H l _=H1
  obtain⟨s1,e1⟩:=bF hl e
  exact q l _ H1 s1 hl e1 (.cons ⟨p1,d1,f1,rfl,h1,g1⟩ (.cons ⟨p2,d2,f2,rfl,h2,g2⟩ (.cons ⟨p3,d3,f3,rfl,h3,g3⟩ .nil)))
theorem aVn {A:Around} {k:Nat} (hr:eU k A):A.units+20<cLine:=by have:=hr.un;omega
theorem aUe {A:Around} {k:Nat} (hr:eU k A):A.units+40<cLine:=by have:=hr.un;omega
theorem wO {t:Tm} (h:∀b ss,t≠ .take b ss) (x:Tk):x∈(kids t).flatMap raw↔x∈raw t:=by
 cases t with
 |take b ss=>exact absurd rfl (h b ss)
 |num n=>simp [kids,raw]
 |rest a y=>simp [kids,raw]
 |cho a b c=>simp [kids,raw]
 |bin k a b=>simp [kids,raw]
theorem aPx {t:Tm} {b:Nat} (h1:b=0∨b∈(kids t).map ht) (h2:∀a∈(kids t).map ht,a<=b):1+b=ht t:=by
 cases t with
 |num n=>simp [kids]at h1;rw [h1];rfl
 |take n ss=>simp [kids]at h1;rw [h1];rfl
 |rest a y=>
  simp [kids]at h1 h2
  have:=mV a
  rw [ht];omega
 |cho x y z=>
  simp [kids]at h1 h2
  have:=mV x
  rw [ht];omega
 |bin k x y=>
  simp [kids]at h1 h2
  have:=mV x
  rw [ht];omega
theorem aJb (t:Tm):1+((kids t).map dD).sum=dD t:=by
 cases t<;>simp [kids,dD]<;>omega
theorem aOx {K:W.Frag} {H:Hp} {p:Addr} {l:List Nat} {Q:VK} (hq:SqL K H p (fG l)) (k:∀b:Nat,(b=0∨b∈l)->(∀a∈l,a<=b)->Q (cG b) H):aRo K [.ref p] [.int 0] H Q:=by
 rw [show fG l=(l.map fun k:Nat=>(k:Int)).map V.int by unfold fG;rw [List.map_map];rfl]at hq
 refine⟨p,_,.int 0,rfl,rfl,hq,fun e=>?_,fun m hm hx=>?_⟩
 ·have:l=[]:=by simpa using e
  exact k 0 (.inl rfl) fun a ha=>by rw [this]at ha;cases ha
 ·obtain⟨b,hb,rfl⟩:=List.mem_map.mp hm
  exact k b (.inr hb) fun a ha=>by have:=hx _ (List.mem_map.mpr ⟨a,ha,rfl⟩);omega
theorem aLd (l:List Nat):(l.map fun k:Nat=>(k:Int)).sum=((l.sum:Nat):Int):=by
 induction l with
 |nil=>rfl
 |cons a l ih=>rw [List.map_cons,List.sum_cons,List.sum_cons,ih];omega
theorem aSp {K:W.Frag} {la:Addr} {ls:List Nat} {H:Hp} {Q:VK} (h:H la=some (.lst (fG ls))) (hn:ls.length<=1000) (hk:∀k∈ls,k<=1000) (q:Q (cG ls.sum) H):aUn K [.ref la] H Q:=by
 rw [show fG ls=(ls.map fun k:Nat=>(k:Int)).map V.int by unfold fG;rw [List.map_map];rfl]at h
 refine⟨la,ls.map fun k:Nat=>(k:Int),rfl,SqL.of h,by rw [List.length_map];exact hn,fun x hx=>?_,by rw [aLd];exact q⟩
 obtain⟨k,hm,rfl⟩:=List.mem_map.mp hx
 have:=hk k hm
 exact⟨by omega,by omega⟩
abbrev TkR:Type:=Tk×Addr
inductive aEs (N:Cn) (d:Nat) (C:Addr) (vs:List V) (H:Hp) (Q:VK) (z3_:XK):Prop
 |mk (p dx:Addr) (fs:List (Str×V)) (t:Tm) (q0_:vs=[.ref p]) (q1_:H p=some (.ins (cls N t) dx fs)) (q2_:bZ N H fs t) (q3_:cls N t=C) (q4_:ht t<=d) (q5_:(∃ks:List Tk,ks.length<18/\∀x∈raw t,x∈ks)) (q6_:∀(l:Addr) (ps:List TkR) (H':Hp),bA H H'->H l=none->H' l=some (.lst (ps.map fun x=>V.ref x.2))->(∀x∈ps,PKy H' x)->aR7 t (ps.map (·.1))->Q (.ref l) H'):aEs N d C vs H Q z3_
def mL (N:Cn) (d:Nat) (C:Addr):Sp:=fun vs H Q z3_=>aEs N d C vs H Q z3_
inductive aK7 (N:Cn) (F:Tm->Nat) (d:Nat) (C:Addr) (vs:List V) (H:Hp) (Q:VK) (z3_:XK):Prop
 |mk (p dx:Addr) (fs:List (Str×V)) (t:Tm) (q0_:vs=[.ref p]) (q1_:H p=some (.ins (cls N t) dx fs)) (q2_:bZ N H fs t) (q3_:cls N t=C) (q4_:ht t<=d) (q5_:dD t<=1000) (q6_:∀H',bA H H'->Q (cG (F t)) H'):aK7 N F d C vs H Q z3_
def uL (N:Cn) (F:Tm->Nat) (d:Nat) (C:Addr):Sp:=fun vs H Q z3_=>aK7 N F d C vs H Q z3_
theorem _root_.L2.PKy.same {H H':Hp} (s:bA H H') {x:TkR} (h:PKy H x):PKy H' x:=let⟨r,q,e,h1,h2⟩:=h;⟨r,q,e,s _ _ h1,s _ _ h2⟩
theorem zT {l:List Tk} (h:l.Pairwise (fun x y=>wA x y=true)):l.Nodup:=h.imp fun{x y} hx e=>by
 subst e
 have:=aI8 hx
 rw [hx]at this
 cases this
theorem xJ:aM ["self","pairs","part"] ["self"] (aH vG):=bG
theorem aJr {f C:Addr} {fd:FuncData} {d:Nat} (F:Fun K "takes" "Term.takes" vG f fd) (D_inner:Dis P w K mg base CX0 1 (IsC N) "inner" ["self"] (eG N)) (D_takes:Dis P w K mg base CX0 (d+1) (IsC N) "takes" ["self"] (mL N d)) (T:Txt K mg)
  (hC:∀t,cls N t=C->∀b ss,t≠ .take b ss) (nT:∀(t:Tm) (fs:List (Str×V)) H,bZ N H fs t->fs.lookup ("takes":Str)=none/\fs.lookup ("inner":Str)=none):bC P w K mg base CX0 (d+2) f fd ["self"] (mL N (d+1) C):=by
 refine F.ok xJ (fun vs H Q E h=>?_) (fun cdv A outer s H vs Q E hr h=>?_)
 ·obtain⟨p,dx,fs,t,rfl,_⟩:=h
  rfl
 ·obtain⟨p,dx,fs,t,rfl,hp,hf,hc,hd,⟨ks,kl,km⟩,q⟩:=h
  refine⟨_,(aB (aY (i:=1) xJ.nd rfl (Or.inl rfl) (cO aC)) (aB (yH PassesOwn.never rfl (rW (aO (pv 0) D_inner (hr.mo) aP)) (dC (i:=2) xJ.nd rfl (Or.inl rfl)) (aD (bY (lU PySem.F.plainAttrs_list PySem.F.slot_list_extend PySem.F.type_list_extend lQ (pv 1) (aA (aO (pv 2) D_takes (hr.mo) aP) aC))))) (aD (aL (bN (aBg (aUe hr) rfl) rfl T.sorted boot_sorted (aA (cP (aJg (aVn hr) rfl) rfl T.set boot_set (aA (pv 1) aC)) aC)))))),?_⟩
  refine⟨sz0,fun pl hpl=>?_⟩
  have back:∀c o,upd H pl (.lst []) c=some o->c≠pl->H c=some o:=fun c o z n=>by rw [aX n]at z;exact z
  generalize e:upd H pl _=H1 at back
  obtain⟨s1,e1⟩:=bF hpl e
  refine⟨_,rfl,p,_,dx,fs,rfl,s1 _ _ hp,isC N t,(nT t fs H hf).2,p,dx,fs,t,rfl,s1 _ _ hp,hf.same s1,rfl,fun l xs H2 s2 hl e2 pk=>?_⟩
  have pl_l:l≠pl:=Ne.symm (bR e1 hl)
  have s02:=s1.trans s2
  have kl3:=aBt t
  have xl:=Paired.length pk
  refine⟨l,rfl,⟨_,SqL.of e2⟩,?_⟩
  refine aFd (K:=K) (a:=l) (xs:=xs) (fun i σ H3=>∃(v2:Option V) (ps:List TkR),σ=[some (.ref p),some (.ref pl),v2]/\bA H H3/\H3 l=some (.lst xs)/\H3 pl=some (.lst (ps.map fun x=>V.ref x.2))/\(∀x∈ps,PKy H3 x)/\ps.length<=17*i/\∀x,x∈ps.map (·.1)↔x∈((kids t).take i).flatMap raw)
   ⟨none,[],rfl,s02,e2,s2 _ _ e1,(fun _ h=>nomatch h),Nat.zero_le _,fun x=>by simp⟩ (fun i σ H3 _ ⟨_,_,_,_,h3,_⟩=>SqL.of h3) ?_ ?_
  ·rintro i x σ H3 hx ⟨v2,ps,rfl,s3,hl3,hp3,pk3,aJ8,mem3⟩
   obtain⟨k,hk,tr⟩:=L2.Paired.get2 pk hx
   have km':=List.mem_of_getElem? hk
   have kn:KpN H1 H3:=fun c o z n=>s3 c o (back c o z fun y=>by rw [y,e1]at z;cases z;exact n _ rfl)
   obtain⟨a,da,fa,rfl,ha,fla⟩:=tr.keep kn
   have hk':=aBy km'
   refine⟨_,rfl,.inl ⟨rfl,_,SqL.of hp3⟩,_,rfl,a,_,da,fa,rfl,ha,isC N k,(nT k fa H3 fla).1,a,da,fa,k,rfl,ha,fla,rfl,by omega,⟨ks,kl,fun x hx=>km x (aHc km' x hx)⟩,fun l2 ps2 H4 s4 hl2 e4 pk4 tk4=>?_⟩
   have l17:ps2.length<=17:=by
    have:=(zT tk4.1).length_le_of_subset (l₂:=ks) fun x hx=>km x (aHc km' x ((tk4.2 x).mp hx))
    rw [List.length_map]at this
    omega
   have il:i<xs.length:=(List.getElem?_eq_some_iff.mp hx).1
   refine⟨pl,l2,_,_,rfl,rfl,s4 _ _ hp3,e4,by rw [List.length_map,List.length_map,sizeLine_eq];omega,?_⟩
   have up:∀c o,H4 c=some o->(∀xs,o≠ .lst xs)->upd H4 pl (.lst (ps.map (fun x=>V.ref x.2)++ps2.map fun x=>V.ref x.2)) c=some o:=fun c o z n=>by
    rw [aX fun y=>by rw [y,s4 _ _ hp3]at z;cases z;exact n _ rfl];exact z
   have pkU:∀x:TkR,PKy H4 x->PKy (upd H4 pl (.lst (ps.map (fun x=>V.ref x.2)++ps2.map fun x=>V.ref x.2))) x:=fun x ⟨r,q,e,h1,h2⟩=>⟨r,q,e,up _ _ h1 (by intro _ z;cases z),up _ _ h2 (by intro _ z;cases z)⟩
   refine⟨_,ps++ps2,rfl,cN hpl (s3.trans s4),by rw [aX pl_l];exact s4 _ _ hl3,by rw [aF,List.map_append],fun x hx=>?_,by rw [List.length_append];omega,fun x=>?_⟩
   ·rcases List.mem_append.mp hx with m|m
    ·exact pkU x ((pk3 x m).same s4)
    ·exact pkU x (pk4 x m)
   ·rw [List.map_append,List.mem_append,mem3 x,tk4.2 x,List.take_succ,hk,List.flatMap_append,List.mem_append]
    simp
  ·rintro σ H3 ⟨v2,ps,rfl,s3,hl3,hp3,pk3,aJ8,mem3⟩
   rw [<-xl,List.take_length]at mem3
   refine⟨_,rfl,pl,ps,rfl,SqL.of hp3,pk3,by omega,⟨ks,kl,fun x hx=>km _ ((wO (hC t hc) _).mp ((mem3 _).mp (List.mem_map.mpr ⟨x,hx,rfl⟩)))⟩,fun l2 zs hl2 nd sub cov zl=>?_⟩
   generalize e:upd H3 l2 _=H4
   obtain⟨s4,e4⟩:=bF hl2 e
   refine⟨l2,zs,rfl,e4,fun x hx=>(pk3 x (sub x hx)).same s4,?_,fun l3 ys hl3' py sy=>?_⟩
   ·have:=nd.length_le_of_subset (l₂:=ks) fun x hx=>by
     obtain⟨z,hz,rfl⟩:=List.mem_map.mp hx
     exact km _ ((wO (hC t hc) _).mp ((mem3 _).mp (List.mem_map.mpr ⟨z,sub z hz,rfl⟩)))
    rw [List.length_map]at this
    omega
   generalize e:upd H4 l3 _=H5
   obtain⟨s5,e5⟩:=bF hl3' e
   refine q l3 ys H5 (s3.trans (s4.trans s5)) (s3.free (s4.free hl3')) e5 (fun x hx=>((pk3 x (sub x (py.mem_iff.mp hx))).same s4).same s5) ⟨List.pairwise_map.mpr sy,fun x=>?_⟩
   rw [<-wO (hC t hc) x, <-mem3 x,List.mem_map,List.mem_map]
   constructor
   ·rintro⟨y,hy,e⟩
    exact⟨y,sub y (py.mem_iff.mp hy),e⟩
   ·rintro⟨y,hy,e⟩
    obtain⟨z,hz,ez⟩:=cov y hy
    exact⟨z,py.mem_iff.mpr hz,ez.trans e⟩
theorem aLf:aM ["self"] ["self"] (aH vY):=bG
theorem aJj {f C:Addr} {fd:FuncData} {d:Nat} (F:Fun K "takes" "Take.takes" vY f fd) (c:Cf K C ["back","steps"]) (hC:∀t,cls N t=C->∃b ss,t= .take b ss):bC P w K mg base CX0 (d+1) f fd ["self"] (mL N d C):=by
 refine F.ok aLf (fun vs H Q E h=>?_) (fun cdv A outer s H vs Q E hr h=>?_)
 ·obtain⟨p,dx,fs,t,rfl,_⟩:=h
  rfl
 ·obtain⟨p,dx,fs,t,rfl,hp,hf,hc,hd,_,q⟩:=h
  refine⟨_,(aD (aL (cO (aA (cL (aA (bM (pv 0) rfl) (aA (bM (pv 0) rfl) aC))) aC)))),?_⟩
  obtain⟨b,ss,rfl⟩:=hC t hc
  rw [hc]at hp
  obtain⟨u,rfl,hu⟩:=hf
  refine⟨_,rfl,p,C,dx,_,_,rfl,hp,c.cl,c.na _ (by simp),rfl,_,rfl,p,C,dx,_,_,rfl,hp,c.cl,c.na _ (by simp),rfl,sz2,fun t1 n1=>?_⟩
  generalize e:upd H t1 _=H1
  obtain⟨s1,e1⟩:=bF n1 e
  refine⟨sz1,fun l n2=>?_⟩
  generalize e:upd H1 l _=H2
  obtain⟨s2,e2⟩:=bF n2 e
  refine q l [(kyT (b,ss),t1)] H2 (s1.trans s2) (s1.free n2) e2 (fun x hx=>?_) ⟨List.pairwise_singleton ..,fun x=>Iff.rfl⟩
  rw [List.mem_singleton.mp hx]
  exact⟨(b,ss),u,rfl,s2 _ _ e1,s2 _ _ (s1 _ _ hu)⟩
abbrev aQa:List Str:=["self"]
theorem aM7:aM ["self"] ["self"] (aH qK):=bG
theorem aJf {f C:Addr} {fd:FuncData} {d:Nat} (F:Fun K "depth" "Term.depth" qK f fd) (D_inner:Dis P w K mg base CX0 1 (IsC N) "inner" ["self"] (eG N)) (D_depth:Dis P w K mg base CX0 (d+1) (IsC N) "depth" ["self"] (uL N ht d)) (T:Txt K mg)
  (nI:∀(t:Tm) (fs:List (Str×V)) H,bZ N H fs t->fs.lookup ("inner":Str)=none) (nD:∀(t:Tm) (fs:List (Str×V)) H,bZ N H fs t->fs.lookup ("depth":Str)=none):bC P w K mg base CX0 (d+2) f fd ["self"] (uL N ht (d+1) C):=by
 refine F.ok aM7 (fun vs H Q E h=>?_) (fun cdv A outer s H vs Q E hr h=>?_)
 ·obtain⟨p,dx,fs,t,rfl,_⟩:=h
  rfl
 ·obtain⟨p,dx,fs,t,rfl,hp,hf,hc,hd,hp1,q⟩:=h
  refine⟨_,(aD (aL (aU bJ aG (aKr (aI4 rfl) rfl T.max boot_max (aA (pM (own:=["part"]) (cap:=[]) (g:=gR 0) (aH qK) aQa rfl rfl (fun x h=>dZ h) (by decide+kernel) rfl (rW (aO (pv 0) D_inner (hr.mo) aP)) (fun cl C s2 H2 fp=>(dC (i:=0) (show(["part"]:List Str).Nodup by decide+kernel) rfl (Or.inl rfl) (Or.inr rfl))) (fun cl C s2 H2 fp=>(aO (pv 0) D_depth (hr.mo) aP))) aC) (aO7 aG aTu))))),?_⟩
  refine⟨_,rfl,p,_,dx,fs,rfl,hp,isC N t,nI t fs H hf,p,dx,fs,t,rfl,hp,hf,rfl,fun l xs H2 s2 hl e2 pk=>?_⟩
  have kl3:=aBt t
  have xl:=Paired.length pk
  refine⟨l,rfl,⟨_,SqL.of e2⟩,fun D hD=>?_⟩
  refine tR (K:=K) (a:=l) (xs:=xs) (fun i acc σ H3=>(∃v0,σ=[v0])/\bA H2 H3/\H3 D=some (.lst acc)/\acc=fG (((kids t).take i).map ht)) ⟨⟨_,rfl⟩,sameNew hD,aF,rfl⟩ (fun i acc σ H3 _ ⟨_,s3,_⟩=>SqL.of (s3 _ _ e2)) ?_ ?_
  ·rintro i x acc σ H3 hi hx ⟨⟨v0,rfl⟩,s3,hD3,rfl⟩
   obtain⟨k,hk,tr⟩:=L2.Paired.get2 pk hx
   have km':=List.mem_of_getElem? hk
   obtain⟨a,da,fa,rfl,ha,fla⟩:=tr.same (s2.trans s3)
   have hk':=aBy km'
   refine⟨_,rfl,a,_,da,fa,rfl,ha,isC N k,nD k fa H3 fla,a,da,fa,k,rfl,ha,fla,rfl,by omega,by have:=yL km';omega,fun H4 s4=>?_⟩
   refine pH (s4 _ _ hD3) (small ?_) hi ⟨⟨_,rfl⟩,cN hD (s3.trans s4),aF,?_⟩
   ·unfold fG;rw [List.length_map,List.length_map,List.length_take];omega
   ·unfold fG;rw [List.take_succ,hk,List.map_append,List.map_append];rfl
  ·rintro acc σ H3 ⟨_,s3,hD3,rfl⟩
   rw [<-xl,List.take_length]at hD3
   dsimp only [aMf,aMl,tC]
   refine aOx (SqL.of hD3) fun b h1 h2=>?_
   refine⟨_,_,rfl,rfl,?_⟩
   have:=q H3 (s2.trans s3)
   rw [<-aPx h1 h2]at this
   exact this
abbrev aPz:List Str:=["self"]
theorem aOb:aM ["self"] ["self"] (aH rJ):=bG
theorem aKi {f C:Addr} {fd:FuncData} {d:Nat} (F:Fun K "parts" "Term.parts" rJ f fd) (D_inner:Dis P w K mg base CX0 1 (IsC N) "inner" ["self"] (eG N)) (D_parts:Dis P w K mg base CX0 (d+1) (IsC N) "parts" ["self"] (uL N dD d)) (T:Txt K mg)
  (nI:∀(t:Tm) (fs:List (Str×V)) H,bZ N H fs t->fs.lookup ("inner":Str)=none) (nD:∀(t:Tm) (fs:List (Str×V)) H,bZ N H fs t->fs.lookup ("parts":Str)=none):bC P w K mg base CX0 (d+2) f fd ["self"] (uL N dD (d+1) C):=by
 refine F.ok aOb (fun vs H Q E h=>?_) (fun cdv A outer s H vs Q E hr h=>?_)
 ·obtain⟨p,dx,fs,t,rfl,_⟩:=h
  rfl
 ·obtain⟨p,dx,fs,t,rfl,hp,hf,hc,hd,hp1,q⟩:=h
  refine⟨_,(aD (aL (aU bJ aG (bN (aLb rfl) rfl T.sum boot_sum (aA (pM (own:=["part"]) (cap:=[]) (g:=gR 0) (aH rJ) aPz rfl rfl (fun x h=>dZ h) (by decide+kernel) rfl (rW (aO (pv 0) D_inner (hr.mo) aP)) (fun cl C s2 H2 fp=>(dC (i:=0) (show(["part"]:List Str).Nodup by decide+kernel) rfl (Or.inl rfl) (Or.inr rfl))) (fun cl C s2 H2 fp=>(aO (pv 0) D_parts (hr.mo) aP))) aC))))),?_⟩
  refine⟨_,rfl,p,_,dx,fs,rfl,hp,isC N t,nI t fs H hf,p,dx,fs,t,rfl,hp,hf,rfl,fun l xs H2 s2 hl e2 pk=>?_⟩
  have kl3:=aBt t
  have xl:=Paired.length pk
  refine⟨l,rfl,⟨_,SqL.of e2⟩,fun D hD=>?_⟩
  refine tR (K:=K) (a:=l) (xs:=xs) (fun i acc σ H3=>(∃v0,σ=[v0])/\bA H2 H3/\H3 D=some (.lst acc)/\acc=fG (((kids t).take i).map dD)) ⟨⟨_,rfl⟩,sameNew hD,aF,rfl⟩ (fun i acc σ H3 _ ⟨_,s3,_⟩=>SqL.of (s3 _ _ e2)) ?_ ?_
  ·rintro i x acc σ H3 hi hx ⟨⟨v0,rfl⟩,s3,hD3,rfl⟩
   obtain⟨k,hk,tr⟩:=L2.Paired.get2 pk hx
   have km':=List.mem_of_getElem? hk
   obtain⟨a,da,fa,rfl,ha,fla⟩:=tr.same (s2.trans s3)
   have hk':=aBy km'
   refine⟨_,rfl,a,_,da,fa,rfl,ha,isC N k,nD k fa H3 fla,a,da,fa,k,rfl,ha,fla,rfl,by omega,by have:=yL km';omega,fun H4 s4=>?_⟩
   refine pH (s4 _ _ hD3) (small ?_) hi ⟨⟨_,rfl⟩,cN hD (s3.trans s4),aF,?_⟩
   ·unfold fG;rw [List.length_map,List.length_map,List.length_take];omega
   ·unfold fG;rw [List.take_succ,hk,List.map_append,List.map_append];rfl
  ·rintro acc σ H3 ⟨_,s3,hD3,rfl⟩
   rw [<-xl,List.take_length]at hD3
   dsimp only [aMf]
   refine aSp hD3 (by rw [List.length_map];omega) (fun k hk=>?_) ?_
   ·obtain⟨u,hu,rfl⟩:=List.mem_map.mp hk
    have:=yL hu
    omega
   refine⟨_,_,rfl,rfl,?_⟩
   have:=q H3 (s2.trans s3)
   rw [<-aJb t]at this
   exact this
inductive aMi (K:W.Frag) (xs:List V) (H:Hp) (Q:VK):Prop
 |mk (p ys:_) (q0_:xs=[.ref p]) (q1_:SqT K H p ys) (q2_:Q (.int ys.length) H):aMi K xs H Q
def aR3 (K:W.Frag):List V->Hp->VK->Prop:=fun xs H Q=>aMi K xs H Q
theorem aFg {X:Cx} {K:W.Frag} (h:X.K=K):fX X (.builtin "len") (aR3 K):=by
 subst h
 intro pins s σ H xs us Q I r hq
 obtain⟨p,ys,rfl,h1,q⟩:=hq
 exact dM pins s σ H _ us Q I r ⟨p,ys,rfl,.inr h1,q⟩
def aI5 (l:List Tk) (zs:List Nat):Prop:=zs∈fJ/\∀z,z∈zs↔ ∃x∈l,x.2.length=z
inductive aAw (N:Cn) (CG:Addr) (d:Nat) (vs:List V) (H:Hp) (Q:VK) (E:XK):Prop
 |mk (p dx:Addr) (fs:List (Str×V)) (t:Tm) (q0_:vs=[.ref p]) (q1_:H p=some (.ins (cls N t) dx fs)) (q2_:bZ N H fs t) (q3_:ht t<=d) (q4_:(∃ks:List Tk,ks.length<18/\∀x∈raw t,x∈ks)) (q5_:(∀x∈raw t,x.2.length∈[1,2,3])) (q6_:(∀zs,aI5 (raw t) zs->1<zs.length->∀H' dx,bA H H'->zJ H' dx (.str "lines")->E (.ref CG) (some dx) H')) (q7_:(∀H',aI5 (raw t) []->bA H H'->Q .non H')) (q8_:∀z H',aI5 (raw t) [z]->bA H H'->Q (cG z) H'):aAw N CG d vs H Q E
def aDy (N:Cn) (CG:Addr) (d:Nat):Sp:=fun vs H Q E=>aAw N CG d vs H Q E
abbrev aOt:List Str:=["term","counts"]
theorem aAf:aM ["term","counts"] ["term"] (aH rF):=bG
theorem aKz {f CG fT:Addr} {fd fdT:FuncData} {d:Nat} (F:Fun K "lines_of" "lines_of" rF f fd) (D_takes:Dis P w K mg base CX0 (d+1) (IsC N) "takes" ["self"] (mL N d)) (T:Txt K mg)
  (nT:∀(t:Tm) (fs:List (Str×V)) H,bZ N H fs t->fs.lookup ("takes":Str)=none/\fs.lookup ("inner":Str)=none)
  (NG:Ng K mg CG fT) (GT:bC P w K mg base CX0 1 fT fdT ["self","at"] (iC K)) (bT:Binds K fdT ["self","at"] []):bC P w K mg base (CXe P w) (d+3) f fd ["term"] (aDy N CG d):=by
 refine Fun.okE F aAf (fun vs H Q E h=>?_) (fun X cdv A outer s H vs Q E eX hW hP hr h=>?_)
 ·obtain⟨p,dx,fs,t,rfl,_⟩:=h
  rfl
 ·subst eX
  obtain⟨p,dx,fs,t,rfl,hp,hf,hd,kk,r3,qE,qN,q1⟩:=h
  refine⟨_,(aB (aY (i:=1) aAf.nd rfl (Or.inl rfl) (bN (aCy rfl) rfl T.sorted boot_sorted (aA (cP (aKa rfl) rfl T.set boot_set (aA (pM (own:=["take"]) (cap:=[]) (g:=gR 0) (aH rF) aOt rfl rfl (fun x h=>dZ h) (by decide+kernel) rfl (rW (aO (pv 0) D_takes (hr.mo) aP)) (fun cl C s2 H2 fp=>(dC (i:=0) (show(["take"]:List Str).Nodup by decide+kernel) rfl (Or.inl rfl) (Or.inr rfl))) (fun cl C s2 H2 fp=>(bN (r:=aR3 K) (aFg rfl) (by rfl) T.len PySem.boot_len (aA (cU (r:=aVr K) gK (pv 0) aG (fun _ _=>rfl)) aC)))) aC)) aC))) (aB (bK (aN aA0 (bN dM (by rfl) T.len PySem.boot_len (aA (pv 1) aC)) aG (aV _)) (aD (dG NG.rs GT (hr.mo) rfl NG.mg bT rfl rfl hW (aA aJ aC))) aR) (aB (bK (aN cF (bN dM (by rfl) T.len PySem.boot_len (aA (pv 1) aC)) aG (aV _)) (aD (aL jK)) aR) (aD (aL (cU dU (pv 1) aG (fun _ _=>rfl))))))),?_⟩
  refine⟨_,rfl,p,_,dx,fs,rfl,hp,isC N t,(nT t fs H hf).1,p,dx,fs,t,rfl,hp,hf,rfl,hd,kk,fun l ps H1 s1 hl e1 pk tk=>?_⟩
  have pl:ps.length<=17:=by
   obtain⟨ks,kl,km⟩:=kk
   have:=(zT tk.1).length_le_of_subset (l₂:=ks) fun x hx=>km x ((tk.2 x).mp hx)
   rw [List.length_map]at this
   omega
  refine⟨l,rfl,⟨_,SqL.of e1⟩,fun D hD=>?_⟩
  refine tR (K:=K) (a:=l) (xs:=ps.map fun x=>V.ref x.2) (fun i acc σ H3=>(∃v0,σ=[v0])/\bA H1 H3/\H3 D=some (.lst acc)/\acc=fG ((ps.take i).map fun x=>x.1.2.length)) ⟨⟨_,rfl⟩,sameNew hD,aF,rfl⟩ (fun i acc σ H3 _ ⟨_,s3,_⟩=>SqL.of (s3 _ _ e1)) ?_ ?_
  ·rintro i x acc σ H3 hi hx ⟨⟨v0,rfl⟩,s3,hD3,rfl⟩
   rw [List.getElem?_map]at hx
   obtain⟨y,hy,rfl⟩:∃y,ps[i]? =some y/\x= .ref y.2:=by
    cases g:ps[i]? with
    |none=>rw [g]at hx;cases hx
    |some b=>rw [g]at hx;cases hx;exact⟨b,rfl,rfl⟩
   obtain⟨r,q,ek,h1,h2⟩:=(pk y (List.mem_of_getElem? hy)).same s3
   have el:(r.2.map Nb.v).length=y.1.2.length:=by rw [<-ek];simp [kyT]
   rw [List.length_map]at hi
   refine⟨_,rfl,y.2,_,_,_,rfl,rfl,SqT.of h1,rfl,q,_,rfl,SqT.of h2,?_⟩
   refine pH hD3 (small ?_) (by rw [List.length_map];exact hi) ⟨⟨_,rfl⟩,cN hD s3,aF,?_⟩
   ·unfold fG;rw [List.length_map,List.length_map,List.length_take];omega
   ·unfold fG;rw [List.take_succ,hy,List.map_append,List.map_append,el];rfl
  ·rintro acc σ H3 ⟨_,s3,hD3,rfl⟩
   rw [List.length_map,List.take_length]at hD3
   refine⟨D,_,rfl,SqL.of hD3,fun n hn=>?_,fun l2 zs hl2 zsub zm=>?_⟩
   ·obtain⟨x,hx,rfl⟩:=List.mem_map.mp hn
    exact r3 _ ((tk.2 _).mp (List.mem_map.mpr ⟨x,hx,rfl⟩))
   have ln:aI5 (raw t) zs:=⟨zsub,fun z=>by
    rw [zm z,List.mem_map]
    constructor
    ·rintro⟨x,hx,e⟩
     exact⟨x.1,(tk.2 _).mp (List.mem_map.mpr ⟨x,hx,rfl⟩),e⟩
    ·rintro⟨x,hx,e⟩
     obtain⟨y,hy,rfl⟩:=List.mem_map.mp ((tk.2 _).mpr hx)
     exact⟨y,hy,e⟩⟩
   generalize e:upd H3 l2 _=H4
   obtain⟨s4,e4⟩:=bF hl2 e
   refine⟨l2,zs,rfl,e4,fun l3 hl3=>?_⟩
   generalize e:upd H4 l3 _=H5
   obtain⟨s5,e5⟩:=bF hl3 e
   have s05:=s1.trans (s3.trans (s4.trans s5))
   have nl:(fG zs).length=zs.length:=by unfold fG;rw [List.length_map]
   refine⟨_,rfl,l3,_,rfl,.inl (SqL.of e5),_,_,rfl,rfl,_,rfl,?_⟩
   rw [nl]
   by_cases h1:1<zs.length
   ·refine bD (decide_eq_true (by omega)) ?_
    exact⟨sz1,fun e he=>dF NG.cls NG.tk s05 (fun H' d' s' a'=>qE zs ln h1 H' d' s' a') he⟩
   refine aZ (decide_eq_false (by omega)) ?_
   refine⟨_,rfl,l3,_,rfl,.inl (SqL.of e5),rfl,_,rfl,?_⟩
   rw [nl]
   match zs,ln,h1,e5 with
   | [],ln,_,_=>exact bD rfl (qN H5 ln s05)
   | [z],ln,_,e5=>exact aZ (decide_eq_false fun z=>by have:=V.int.inj z;simp at this) ⟨_,rfl,l3,_,_,_,rfl,rfl,SqL.of e5,rfl,q1 z H5 ln s05⟩
   |_::_::_,_,h1,_=>exact absurd (by simp) h1
theorem Kp.new {a q:Addr} {H H':Hp} {o:HO} (k:Kp a H H') (hq:H' q=none):Kp a H (upd H' q o):=fun b u e n=>by
 have:=k b u e n
 rw [aX (bR this hq)];exact this
theorem Kp.free {a q:Addr} {H H':Hp} (k:Kp a H H') (w:bW H' a) (hq:H' q=none):H q=none:=by
 cases g:H q with
 |none=>rfl
 |some o=>
  have n:q≠a:=fun z=>by obtain⟨x,y,z',e⟩:=w;rw [z,e]at hq;cases hq
  rw [k q o g n]at hq;cases hq
theorem Kp.upd {a q:Addr} {H H':Hp} {o:HO} (k:Kp a H H') (hq:H q=none):Kp a H (upd H' q o):=fun b u e n=>by
 rw [aX (bR e hq)];exact k b u e n
theorem bW.upd {a q:Addr} {H:Hp} {o:HO} (h:bW H a) (n:q≠a):bW (upd H q o) a:=by
 obtain⟨x,y,z,e⟩:=h
 exact⟨x,y,z,by rw [aX (Ne.symm n)];exact e⟩
def PKi (H:Hp) (x:TkR):Prop:=∃q,H x.2=some (.tup [.int x.1.1,.ref q])/\H q=some (.tup (x.1.2.map V.int))
theorem PKi.mono {H H':Hp} (k:∀c zs,H c=some (.tup zs)->H' c=some (.tup zs)) {x:TkR} (h:PKi H x):PKi H' x:=let⟨q,h1,h2⟩:=h;⟨q,k _ _ h1,k _ _ h2⟩
theorem PKi.pk {H:Hp} {x:TkR} (h:PKi H x):PKy H x:=let⟨_,h1,h2⟩:=h;PKy.ints h1 h2
inductive aDx (vs:List V) (H:Hp) (Q:VK) (z3_:XK):Prop
 |mk (a:Addr) (n:Nat) (q0_:vs=[.ref a,cG n]) (q1_:bW H a) (q2_:n<=3) (q3_:∀(q:Addr) (ss:List Int) (H':Hp),Kp a H H'->bW H' a->H' q=some (.tup (ss.map V.int))->ss.length=n->(∀s∈ss, -9<=s/\s<=9)->Q (.ref q) H'):aDx vs H Q z3_
def aHp:Sp:=fun vs H Q z3_=>aDx vs H Q z3_
inductive aH5 (vs:List V) (H:Hp) (Q:VK) (z3_:XK):Prop
 |mk (a:Addr) (n:Nat) (q0_:vs=[.ref a,cG n]) (q1_:bW H a) (q2_:n<=3) (q3_:1<=n) (q4_:∀(l:Addr) (ps:List TkR) (H':Hp),Kp a H H'->bW H' a->H l=none->H' l=some (.lst (ps.map fun x=>V.ref x.2))->(∀x∈ps,PKi H' x/\x.1.2.length=n/\aDj x.1)->ps.length<=4->Q (.ref l) H'):aH5 vs H Q z3_
def aMx:Sp:=fun vs H Q z3_=>aH5 vs H Q z3_
inductive aAt (vs:List V) (H:Hp) (Q:VK) (z3_:XK):Prop
 |mk (a:Addr) (q0_:vs=[.ref a]) (q1_:bW H a) (q2_:∀(v:V) (n:Int) (H':Hp),Kp a H H'->bW H' a->TupAt H' (.num (.i n)) v-> -1000000000000<=n->n<=1000000000000->Q v H'):aAt vs H Q z3_
def yZ:Sp:=fun vs H Q z3_=>aAt vs H Q z3_
abbrev aSl:List Str:=["_law_well_here","_law_lines","_law_wide"]
theorem aHe:aM ["_law_well_here","_law_lines","_law_wide"] ["_law_well_here","_law_lines"] (aH aB0):=bG
theorem aLw {f:Addr} {fd:FuncData} (F:Fun K "_law_steps" "_law_steps" aB0 f fd) (c_draw:Cal P w K mg base CX0 1 "_law_draw" ["_law_well_here","_law_most"] qG) (T:Txt K mg):bC P w K mg base CX0 2 f fd ["_law_well_here","_law_lines"] aHp:=by
 refine F.ok aHe (fun vs H Q E h=>?_) (fun cdv A outer s H vs Q E hr h=>?_)
 ·obtain⟨a,n,rfl,_⟩:=h
  rfl
 ·obtain⟨a,n,rfl,wa,n3,q⟩:=h
  refine⟨_,(@aB _ _ _ _ _ (aY (i:=2) aHe.nd rfl (Or.inr rfl) (cU dU (cO (aA aG (aA aG (aA aG (aA aG aC))))) (cV c_draw (hr.mo) rfl aP (aA (pv 0) (aA aG aC))) (fun _ _=>rfl))) (@aD _ _ _ (aL (cP pJ rfl T.tuple boot_tuple (aA (pM (own:=["_law_k"]) (cap:=[("_law_well_here",0),("_law_wide",2)]) (g:=gR 0) (aH aB0) aSl rfl rfl (fun x h=>dZ h) (by decide+kernel) rfl (lV rfl T.range (aA (pv 1) aC)) (fun cl C s2 H2 fp=>(dC (i:=0) (show(["_law_k","_law_well_here","_law_wide"]:List Str).Nodup by decide+kernel) rfl (Or.inl rfl) (Or.inr rfl))) (fun cl C s2 H2 fp=>(aU qC (cV c_draw (hr.mo) rfl aP (aA (pv 1) (aA (pv 2) aC))) (aU aHs (pv 2) aG)))) aC))))),?_⟩
  refine⟨sz4,fun l0 hl0=>⟨_,rfl,a,4,rfl,wa.new hl0,by decide,by decide,fun r0 H1 hr0 k1' w1=>?_⟩⟩
  have l0a:l0≠a:=wa.ne hl0
  obtain⟨wide,hv,wp,w19⟩:∃v:Nat,([V.int 3,V.int 3,V.int 5,V.int 19]:List V)[r0]? =some (cG v)/\0<v/\v<=19:=by
   match r0,(show r0<4 by omega)with
   |0,_=>exact⟨3,rfl,by decide,by decide⟩
   |1,_=>exact⟨3,rfl,by decide,by decide⟩
   |2,_=>exact⟨5,rfl,by decide,by decide⟩
   |3,_=>exact⟨19,rfl,by decide,by decide⟩
  refine⟨l0,_,_,_,rfl,rfl,SqL.of (k1' _ _ aF l0a),jZ hv,?_⟩
  have k1:Kp a H H1:=(Kp.of (sameNew hl0)).trans k1'
  refine⟨_,rfl,(n:Int),rfl,by omega,by omega,fun D hD=>?_⟩
  have hDn:=k1.free w1 hD
  have hDa:D≠a:=w1.ne hD
  refine qD (fun i acc σ H2=>∃(v0:Option V) (ss:List Int),σ=[v0,some (.ref a),some (cG wide)]/\Kp a H H2/\bW H2 a/\H2 D=some (.lst acc)/\acc=ss.map V.int/\ss.length=i/\∀s∈ss, -9<=s/\s<=9) ⟨_,[],rfl,k1.new hD,w1.new hD,aF,rfl,rfl,fun _ h=>nomatch h⟩ ?_ ?_
  ·rintro i acc σ H2 hi ⟨v0,ss,rfl,k2,w2,hD2,rfl,hll,bd⟩
   refine⟨_,rfl,_,rfl,a,(wide:Int),rfl,w2,by omega,by omega,fun r H4 hr4 k4 w4=>?_⟩
   have hD4:H4 D=some (.lst (ss.map V.int)):=k4 _ _ hD2 hDa
   refine⟨_,rfl,_,_,rfl,rfl,⟨by decide,by decide⟩,_,_,rfl,rfl,pH hD4 (small (by rw [List.length_map];omega)) hi ⟨_,ss++[(r:Int)-(wide:Int) / 2],rfl,(k2.trans k4).upd hDn,w4.upd hDa,aF,by rw [List.map_append];rfl,by rw [List.length_append,hll];rfl,fun z hz=>by
    rcases List.mem_append.mp hz with m|m
    ·exact bd z m
    ·rw [List.mem_singleton.mp m];omega⟩⟩
  ·rintro acc σ H2 ⟨v0,ss,rfl,k2,w2,hD2,rfl,hll,bd⟩
   refine⟨D,_,rfl,.inl ⟨SqL.of hD2,fun t ht=>?_⟩⟩
   exact q t ss _ (k2.new ht) (w2.new ht) aF (by rw [hll];omega) bd
abbrev aUs:List Str:=["_law_well_here","_law_lines"]
theorem aT8:aM ["_law_well_here","_law_lines"] ["_law_well_here","_law_lines"] (aH aIg):=bG
theorem aP4 {f:Addr} {fd:FuncData} (F:Fun K "_law_some_takes" "_law_some_takes" aIg f fd) (c_draw:Cal P w K mg base CX0 1 "_law_draw" ["_law_well_here","_law_most"] qG) (c_steps:Cal P w K mg base CX0 2 "_law_steps" ["_law_well_here","_law_lines"] aHp) (T:Txt K mg):bC P w K mg base CX0 3 f fd ["_law_well_here","_law_lines"] aMx:=by
 refine F.ok aT8 (fun vs H Q E h=>?_) (fun cdv A outer s H vs Q E hr h=>?_)
 ·obtain⟨a,n,rfl,_⟩:=h
  rfl
 ·obtain⟨a,n,rfl,wa,n3,n1,q⟩:=h
  refine⟨_,(aD (aL (pM (own:=["_law_k"]) (cap:=[("_law_well_here",0),("_law_lines",1)]) (g:=gR 0) (aH aIg) aUs rfl rfl (fun x h=>dZ h) (by decide+kernel) rfl (lV rfl T.range (aA (cV c_draw (hr.mo) rfl aP (aA (pv 0) (aA aG aC))) aC)) (fun cl C s2 H2 fp=>(dC (i:=0) (show(["_law_k","_law_well_here","_law_lines"]:List Str).Nodup by decide+kernel) rfl (Or.inl rfl) (Or.inr rfl))) (fun cl C s2 H2 fp=>(cL (aA (aU bJ aG (cV c_draw (hr.mo) rfl aP (aA (pv 1) (aA aG aC)))) (aA (cV c_steps (hr.mo) rfl aP (aA (pv 1) (aA (pv 2) aC))) aC))))))),?_⟩
  refine⟨_,rfl,a,5,rfl,wa,by decide,by decide,fun r0 H1 hr0 k1 w1=>?_⟩
  refine⟨(r0:Int),rfl,by omega,by omega,fun D hD=>?_⟩
  have hDn:=k1.free w1 hD
  have hDa:D≠a:=w1.ne hD
  refine qD (fun i acc σ H2=>∃(v0:Option V) (ps:List TkR),σ=[v0,some (.ref a),some (cG n)]/\Kp a H H2/\bW H2 a/\H2 D=some (.lst acc)/\acc=(ps.map fun x=>V.ref x.2)/\ps.length=i/\∀x∈ps,PKi H2 x/\x.1.2.length=n/\aDj x.1) ⟨_,[],rfl,k1.new hD,w1.new hD,aF,rfl,rfl,fun _ h=>nomatch h⟩ ?_ ?_
  ·rintro i acc σ H2 hi ⟨v0,ps,rfl,k2,w2,hD2,rfl,hll,pk⟩
   refine⟨_,rfl,a,3,rfl,w2,by decide,by decide,fun r H4 hr4 k4 w4=>⟨_,_,rfl,rfl,?_⟩⟩
   refine⟨_,rfl,_,rfl,a,n,rfl,w4,n3,fun u ss H5 k5 w5 e5 sl sb=>?_⟩
   refine⟨sz2,fun t ht=>?_⟩
   have k25:=k4.trans k5
   have hD5:H5 D=some (.lst (ps.map fun x=>V.ref x.2)):=k25 _ _ hD2 hDa
   have tD:t≠D:=Ne.symm (bR hD5 ht)
   have uD:u≠D:=fun z=>by rw [z,hD5]at e5;cases e5
   refine pH (by rw [aX (Ne.symm tD)];exact hD5) (small (by rw [List.length_map];omega)) hi ⟨_,ps++[((1+(r:Int),ss),t)],rfl,((k2.trans k25).new ht).upd hDn,(w5.new ht).upd hDa,aF,by rw [List.map_append];rfl,by rw [List.length_append,hll];rfl,fun x hx=>?_⟩
   have up:∀c zs,H5 c=some (.tup zs)->upd (upd H5 t (.tup [V.int (1+(r:Int)),V.ref u])) D (.lst (ps.map (fun x=>V.ref x.2)++[V.ref t])) c=some (.tup zs):=fun c zs e=>by
    have cD:c≠D:=fun z=>by rw [z,hD5]at e;cases e
    rw [aX cD,aX (bR e ht)]
    exact e
   rcases List.mem_append.mp hx with m|m
   ·obtain⟨g1,g2⟩:=pk x m
    exact⟨g1.mono fun c zs e=>up c zs (k25.tup w2 e),g2⟩
   ·rw [List.mem_singleton.mp m]
    exact⟨⟨u,by rw [aX tD,aF],up _ _ e5⟩,sl,by show 1<=1+(r:Int);omega,by show 1+(r:Int)<=3;omega,sb,by show 1<=ss.length;omega,by show ss.length<=3;omega⟩
  ·rintro acc σ H2 ⟨v0,ps,rfl,k2,w2,hD2,rfl,hll,pk⟩
   exact q D ps H2 k2 w2 hDn hD2 pk (by omega)
theorem aDr:aM ["_law_well_here","_law_far"] ["_law_well_here"] (aH aC7):=bG
theorem aK5 {f:Addr} {fd:FuncData} (F:Fun K "_law_number" "_law_number" aC7 f fd) (c_draw:Cal P w K mg base CX0 1 "_law_draw" ["_law_well_here","_law_most"] qG):bC P w K mg base CX0 2 f fd ["_law_well_here"] yZ:=by
 refine F.ok aDr (fun vs H Q E h=>?_) (fun cdv A outer s H vs Q E hr h=>?_)
 ·obtain⟨a,rfl,_⟩:=h
  rfl
 ·obtain⟨a,rfl,wa,q⟩:=h
  refine⟨_,(@aB _ _ _ _ _ (aY (i:=1) aDr.nd rfl (Or.inl rfl) (cU dU (cO (aA aG (aA aG (aA (aU bJ (aU sX aG (aU aFe aG aG)) aG) aC)))) (cV c_draw (hr.mo) rfl aP (aA (pv 0) (aA aG aC))) (fun _ _=>rfl))) (@aD _ _ _ (aL (cL (aA aJ (aA (aU qC (cV c_draw (hr.mo) rfl aP (aA (pv 0) (aA (pv 1) aC))) (aU aHs (pv 1) aG)) aC)))))),?_⟩
  refine⟨_,_,rfl,rfl,⟨by decide,by decide,by decide⟩,_,_,rfl,rfl,.inl ⟨by decide,by decide⟩,_,_,rfl,rfl,sz3,fun l0 hl0=>⟨_,rfl,a,3,rfl,wa.new hl0,by decide,by decide,fun r0 H1 hr0 k1' w1=>?_⟩⟩
  have l0a:l0≠a:=wa.ne hl0
  obtain⟨far,hv,f0,f1⟩:∃v:Nat,([V.int 7,V.int 201,V.int (2*10 ^ 12+1)]:List V)[r0]? =some (cG v)/\0<v/\v<=2000000000001:=by
   match r0,(show r0<3 by omega)with
   |0,_=>exact⟨7,rfl,by decide,by decide⟩
   |1,_=>exact⟨201,rfl,by decide,by decide⟩
   |2,_=>exact⟨2000000000001,rfl,by decide,by decide⟩
  refine⟨l0,_,_,_,rfl,rfl,SqL.of (k1' _ _ aF l0a),jZ hv,?_⟩
  have k1:Kp a H H1:=(Kp.of (sameNew hl0)).trans k1'
  refine⟨_,rfl,_,rfl,a,(far:Int),rfl,w1,by omega,by omega,fun r H2 hr2 k2 w2=>?_⟩
  refine⟨_,rfl,_,_,rfl,rfl,⟨by decide,by decide⟩,_,_,rfl,rfl,sz2,fun t ht=>?_⟩
  exact q _ _ _ ((k1.trans k2).new ht) (w2.new ht) ⟨t,rfl,aF⟩ (by omega) (by omega)
structure qH (H:Hp) (so:Addr) (ps:List TkR):Prop where
 at_:H so=some (.lst (ps.map fun x=>V.ref x.2))
 pk:∀x∈ps,PKi H x/\aDj x.1
 len:ps.length<=8
theorem qH.kp {a:Addr} {H H':Hp} {so:Addr} {ps:List TkR} (k:Kp a H H') (w:bW H a) (n:so≠a) (h:qH H so ps):qH H' so ps:=⟨k _ _ h.at_ n,fun x hx=>⟨(h.pk x hx).1.mono fun _ _ e=>k.tup w e,(h.pk x hx).2⟩,h.len⟩
inductive aHf (d:Nat) (vs:List V) (H:Hp) (Q:VK) (z3_:XK):Prop
 |mk (a so:Addr) (ps:List TkR) (e:Nat) (q0_:vs=[.ref a,.ref so,cG e]) (q1_:bW H a) (q2_:so≠a) (q3_:qH H so ps) (q4_:e<d) (q5_:∀(v:V) (t:Tm) (H':Hp),Kp a H H'->bW H' a->TupAt H' t v->ht t<=e+1->ff t=none->(∀x∈raw t,x∈ps.map (·.1))->Q v H'):aHf d vs H Q z3_
def aCn (d:Nat):Sp:=fun vs H Q z3_=>aHf d vs H Q z3_
abbrev Av0:Addr->Prop:=fun _=>False
theorem xX {H:Hp}:∀l:List Nb,cQ Av0 H (l.map fun k=> .fl k.v) (l.map Nb.v)
 | []=>rfl
 | .i n::ns=>⟨_,_,rfl,⟨rfl,rfl⟩,xX ns⟩
 | .b n::ns=>⟨_,_,rfl,⟨rfl,rfl⟩,xX ns⟩
theorem aH4:∀l:List Nb,D.deps (l.map fun k=>D.fl k.v)=0
 | []=>by rw [List.map_nil,D.deps]
 |n::ns=>by rw [List.map_cons,D.deps,D.dep,aH4 ns];rfl
theorem aSm {H:Hp} (n:Nb):iW Av0 H (.fl n.v) n.v:=by cases n<;>exact⟨rfl,rfl⟩
theorem aD9 {H:Hp}:∀{ps:List TkR},(∀x∈ps,PKy H x)->∃l:List D,cQ Av0 H l (ps.map fun x=>V.ref x.2)/\D.deps l<=2/\l.length=ps.length
 | [],_=>⟨[],rfl,by rw [D.deps];decide,rfl⟩
 |x::ps,h=>by
  obtain⟨r,q,_,h1,h2⟩:=h x List.mem_cons_self
  obtain⟨l,a1,a2,a3⟩:=aD9 (ps:=ps) fun y hy=>h y (List.mem_cons_of_mem _ hy)
  refine⟨.tp [.fl r.1.v,.tp (r.2.map fun k=> .fl k.v)]::l,⟨_,_,rfl,⟨x.2,_,rfl,h1,.cons (aSm r.1) (.cons ⟨q,_,rfl,h2,xX r.2⟩ .nil)⟩,a1⟩,?_,by rw [List.length_cons,List.length_cons,a3]⟩
  rw [D.deps]
  refine Nat.max_le.mpr ⟨?_,a2⟩
  simp [D.dep,D.deps,aH4]
theorem iD {P:Program} {w:World} {K:W.Frag} {mg:Str->Option Value} {base:Heap} {CX:CXT} {k:Nat} {f:Addr} {fd:FuncData} {ps:List Str} {sp:Sp} (h:∀vs H Q E,¬sp vs H Q E):bC P w K mg base CX k f fd ps sp:=
 ⟨fun vs H Q E z=>absurd z (h vs H Q E),fun _ _ _ H _ _ vs Q E _ _ _ _ z=>absurd z (h vs H Q E)⟩
theorem aB7:aM ["_law_well_here","_law_some","_law_deep","_law_way","_law_one","_law_other"] ["_law_well_here","_law_some","_law_deep"] (aH aHi):=bG
theorem aQy {f:Addr} {fd:FuncData} {d:Nat} (F:Fun K "_law_told" "_law_told" aHi f fd) (c_draw:Cal P w K mg base CX0 1 "_law_draw" ["_law_well_here","_law_most"] qG) (c_number:Cal P w K mg base CX0 2 "_law_number" ["_law_well_here"] yZ)
  (c_told:Cal P w K mg base CX0 (d+2) "_law_told" ["_law_well_here","_law_some","_law_deep"] (aCn d)) (T:Txt K mg):bC P w K mg base CX0 (d+3) f fd ["_law_well_here","_law_some","_law_deep"] (aCn (d+1)):=by
 refine F.ok aB7 (fun vs H Q E h=>?_) (fun cdv A outer s H vs Q E hr h=>?_)
 ·obtain⟨a,so,ps,e,rfl,_⟩:=h
  rfl
 ·obtain⟨a,so,ps,e,rfl,wa,na,S,hd,q⟩:=h
  have hu:=wU hr
  refine⟨_,(@aB _ _ _ _ _ (aY (i:=3) aB7.nd rfl (Or.inl rfl) (cV c_draw (hr.mo) rfl aP (aA (pv 0) (aA aG aC)))) (@aB _ _ _ _ _ (bK (PW.pt (aFb (aN cF (pv 2) aG (aV _)) (yS (aN yR (pv 3) aG (aV _))))) (@aB _ _ _ _ _ (bK (PW.pt (aFb (aN (aTy hu) (pv 1) (cO aC) (aV _)) (yS (aN cF (cV c_draw (hr.mo) rfl aP (aA (pv 0) (aA aG aC))) aG (aV _))))) (@aD _ _ _ (aL (cV c_number (hr.mo) rfl aP (aA (pv 0) aC)))) aR) (@aD _ _ _ (aL (aU aB6 (cL (aA aJ aC)) (cU dU (pv 1) (cV c_draw (hr.mo) rfl aP (aA (pv 0) (aA (bN dM (by rfl) T.len PySem.boot_len (aA (pv 1) aC)) aC))) (fun _ _=>rfl)))))) aR) (@aB _ _ _ _ _ (aY (i:=4) aB7.nd rfl (Or.inl rfl) (cV c_told (hr.mo) rfl aP (aA (pv 0) (aA (pv 1) (aA (aU qC (pv 2) aG) aC))))) (@aB _ _ _ _ _ (bK (aN cF (pv 3) aG (aV _)) (@aD _ _ _ (aL (cL (aA aJ (aA (pv 4) (aA (aU bJ aG (cV c_draw (hr.mo) rfl aP (aA (pv 0) (aA (cU dU (cO (aA aG (aA (aU aFe aG aG) aC))) (cV c_draw (hr.mo) rfl aP (aA (pv 0) (aA aG aC))) (fun _ _=>rfl)) aC)))) aC)))))) aR) (@aB _ _ _ _ _ (aY (i:=5) aB7.nd rfl (Or.inl rfl) (cV c_told (hr.mo) rfl aP (aA (pv 0) (aA (pv 1) (aA (aU qC (pv 2) aG) aC))))) (@aB _ _ _ _ _ (bK (aN cF (pv 3) aG (aV _)) (@aD _ _ _ (aL (cL (aA aJ (aA (pv 4) (aA (pv 5) (aA (cV c_told (hr.mo) rfl aP (aA (pv 0) (aA (pv 1) (aA (aU qC (pv 2) aG) aC)))) aC))))))) aR) (@aD _ _ _ (aL (cL (aA (cU dU (aQ5 rfl) (cV c_draw (hr.mo) rfl aP (aA (pv 0) (aA aG aC))) (fun _ _=>rfl)) (aA (pv 4) (aA (pv 5) aC)))))))))))),?_⟩
  refine⟨_,rfl,a,13,rfl,wa,by decide,by decide,fun way H1 hw k1 w1=>?_⟩
  have S1:=S.kp k1 wa na
  refine(fun(leaf:(?L:Prop))=> ?main) ?leafp
  case main=>
   refine⟨_,rfl,rfl,_,rfl,?_⟩
   by_cases e0:e=0
   ·refine bD (decide_eq_true (by rw [e0];rfl)) ?_
    exact leaf
   refine aZ (decide_eq_false fun z=>e0 (by have:=V.int.inj z;omega)) ?_
   refine⟨_,rfl,_,_,rfl,rfl,_,rfl,?_⟩
   by_cases w4:way<4
   ·refine bD (decide_eq_true (by omega)) ?_
    exact leaf
   refine aZ (decide_eq_false (by omega)) ?_
   have lessE:∀x y:V,[x,y,V.int ((e:Int)-1)]=[x,y,cG (e-1)]:=fun x y=>by rw [show(e:Int)-1=((e-1:Nat):Int) by omega]
   refine⟨_,rfl,_,rfl,_,rfl,_,_,rfl,rfl,a,so,ps,e-1,lessE _ _,w1,na,S1,by omega,fun v1 t1 H2 k2 w2 u1 h1 f1 r1=>?_⟩
   have k02:=k1.trans k2
   have S2:=S1.kp k2 w1 na
   refine⟨_,rfl,rfl,_,rfl,?_⟩
   by_cases w4:way=4
   ·refine bD (decide_eq_true (by rw [w4];rfl)) ?_
    refine⟨_,rfl,_,rfl,_,_,rfl,rfl,⟨by decide,by decide,by decide⟩,sz2,fun l0 hl0=>⟨_,rfl,a,2,rfl,w2.new hl0,by decide,by decide,fun r0 H5 hr0 k5' w5=>?_⟩⟩
    have l0a:l0≠a:=w2.ne hl0
    obtain⟨m,hv,m0,m1⟩:∃m:Int,([V.int 9,V.int (10 ^ 9)]:List V)[r0]? =some (.int m)/\0<m/\m<=1000000000:=by
     match r0,(show r0<2 by omega)with
     |0,_=>exact⟨9,rfl,by decide,by decide⟩
     |1,_=>exact⟨10 ^ 9,rfl,by decide,by decide⟩
    have k5:Kp a H2 H5:=(Kp.of (sameNew hl0)).trans k5'
    refine⟨l0,_,_,_,rfl,rfl,SqL.of (k5' _ _ aF l0a),jZ hv,a,m,rfl,w5,m0,by omega,fun r H6 hr6 k6 w6=>?_⟩
    refine⟨_,_,rfl,rfl,sz3,fun t ht=>?_⟩
    refine q _ (.rest t1 (.i (1+(r:Int)))) _ ((k02.trans (k5.trans k6)).new ht) (w6.new ht) ⟨t,v1,rfl,aF,(u1.mono fun _ _ e=>(k5.trans k6).tup w2 e).mono fun c zs e=>sameNew ht _ _ e⟩ (by show _+1<=_;omega) (by rw [ff,f1,orS,own,if_pos (show okN (.i (1+(r:Int))) 1 1000000000=true from decide_eq_true (by omega))]) r1
   refine aZ (decide_eq_false fun z=>w4 (by have:=V.int.inj z;omega)) ?_
   refine⟨_,rfl,_,rfl,_,rfl,_,_,rfl,rfl,a,so,ps,e-1,lessE _ _,w2,na,S2,by omega,fun v2 t2 H3 k3 w3 u2 h2 f2 r2=>?_⟩
   have k03:=k02.trans k3
   have S3:=S2.kp k3 w2 na
   have u13:TupAt H3 t1 v1:=u1.mono fun _ _ e=>k3.tup w2 e
   refine⟨_,rfl,rfl,_,rfl,?_⟩
   by_cases w5:way=5
   ·refine bD (decide_eq_true (by rw [w5];rfl)) ?_
    refine⟨_,rfl,_,rfl,_,rfl,_,rfl,_,rfl,_,_,rfl,rfl,a,so,ps,e-1,lessE _ _,w3,na,S3,by omega,fun v3 t3 H4 k4 w4 u3 h3 f3 r3=>?_⟩
    refine⟨sz4,fun t ht=>?_⟩
    have up:∀c zs,H4 c=some (.tup zs)->upd H4 t (.tup [.str "?",v1,v2,v3]) c=some (.tup zs):=fun c zs e=>sameNew ht _ _ e
    refine q _ (.cho t1 t2 t3) _ ((k03.trans k4).new ht) (w4.new ht) ⟨t,v1,v2,v3,rfl,aF,(u13.mono fun _ _ e=>k4.tup w3 e).mono up,(u2.mono fun _ _ e=>k4.tup w3 e).mono up,u3.mono up⟩ (by show max _ _+1<=_;omega) (by rw [ff,f1,f2,f3];rfl) fun x hx=>?_
    simp only [raw,List.mem_append]at hx
    rcases hx with z|z|z
    ·exact r1 x z
    ·exact r2 x z
    ·exact r3 x z
   refine aZ (decide_eq_false fun z=>w5 (by have:=V.int.inj z;omega)) ?_
   refine⟨by show 5<=sizeLine;decide,fun l0 hl0=>⟨_,rfl,a,5,rfl,w3.new hl0,by decide,by decide,fun r0 H5 hr0 k5' w5=>?_⟩⟩
   have l0a:l0≠a:=w3.ne hl0
   obtain⟨k,hv⟩:∃k:Fin 5,([V.str "+",V.str "-",V.str "*",V.str "min",V.str "max"]:List V)[r0]? =some (.str (opn k)):=by
    match r0,(show r0<5 by omega)with
    |0,_=>exact⟨0,rfl⟩
    |1,_=>exact⟨1,rfl⟩
    |2,_=>exact⟨2,rfl⟩
    |3,_=>exact⟨3,rfl⟩
    |4,_=>exact⟨4,rfl⟩
   have k5:Kp a H3 H5:=(Kp.of (sameNew hl0)).trans k5'
   refine⟨l0,_,_,_,rfl,rfl,SqL.of (k5' _ _ aF l0a),jZ hv,_,rfl,_,rfl,sz3,fun t ht=>?_⟩
   have up:∀c zs,H5 c=some (.tup zs)->upd H5 t (.tup [.str (opn k),v1,v2]) c=some (.tup zs):=fun c zs e=>sameNew ht _ _ e
   refine q _ (.bin k t1 t2) _ ((k03.trans k5).new ht) (w5.new ht) ⟨t,v1,v2,rfl,aF,(u13.mono fun _ _ e=>k5.tup w3 e).mono up,(u2.mono fun _ _ e=>k5.tup w3 e).mono up⟩ (by show max _ _+1<=_;omega) (by rw [ff,f1,f2];rfl) fun x hx=>?_
   simp only [raw,List.mem_append]at hx
   rcases hx with z|z
   ·exact r1 x z
   ·exact r2 x z
  case leafp=>
   refine⟨_,rfl,sz0,fun d5 n5=>?_⟩
   generalize g:upd H1 d5 _=H2
   obtain⟨s2,e2⟩:=bF n5 g
   have k2:=k1.same s2
   have w2:=w1.same s2
   have S2:qH H2 so ps:=⟨s2 _ _ S1.at_,fun x hx=>⟨(S1.pk x hx).1.mono fun c _ e=>s2 c _ e,(S1.pk x hx).2⟩,S1.len⟩
   obtain⟨dl,dl1,dl2,dl3⟩:=aD9 fun x hx=>(S2.pk x hx).1.pk
   refine⟨.ls dl,.ls [],iW.den K (Av:=Av0) _ ⟨so,_,rfl,id,S2.at_,dl1⟩,iW.den K (Av:=Av0) _ ⟨d5,_,rfl,id,e2,rfl⟩,by simp only [D.dep,D.deps];omega,?_⟩
   refine(fun(numb:∀H3,Kp a H H3->bW H3 a->(?N:Hp->Prop) H3)=> ?main2) ?nump
   case main2=>
    refine⟨_,rfl,?_⟩
    by_cases hz:(D.ls dl).eq (.ls [])=true
    ·refine bD hz ?_
     refine nO ?_
     exact numb H2 k2 w2
    ·refine aZ (Bool.eq_false_iff.mpr hz) ?_
     have ne:ps≠[]:=fun z=>by rw [z]at dl3;rw [List.length_eq_zero_iff.mp dl3]at hz;simp [D.eq,D.eqs]at hz
     refine⟨_,rfl,a,3,rfl,w2,by decide,by decide,fun r0 H3 hr3 k3 w3=>⟨rfl,_,rfl,?_⟩⟩
     have k03:=k2.trans k3
     by_cases z0:r0=0
     ·refine bD (decide_eq_true (by rw [z0];rfl)) ?_
      exact numb H3 k03 w3
     refine aZ (decide_eq_false fun z=>z0 (by have:=V.int.inj z;omega)) ?_
     have S3:=S2.kp k3 w2 na
     refine⟨sz1,fun t1 n1=>?_⟩
     generalize g:upd H3 t1 _=H4
     obtain⟨s4,e4⟩:=bF n1 g
     have w4:=w3.same s4
     have S4:qH H4 so ps:=⟨s4 _ _ S3.at_,fun x hx=>⟨(S3.pk x hx).1.mono fun c _ e=>s4 c _ e,(S3.pk x hx).2⟩,S3.len⟩
     have pl:0<ps.length:=List.length_pos_iff.mpr ne
     have p8:=S.len
     refine⟨_,rfl,_,rfl,_,rfl,so,_,rfl,.inl (SqL.of S4.at_),a,(ps.length:Int),by rw [List.length_map];rfl,w4,by omega,by omega,fun i H5 hi k5 w5=>?_⟩
     have S5:=S4.kp k5 w4 na
     have il:i<ps.length:=by omega
     refine⟨so,_,_,_,rfl,rfl,SqL.of S5.at_,jZ (show(ps.map fun x=>V.ref x.2)[i]? =some (.ref ps[i].2) by rw [List.getElem?_map,List.getElem?_eq_getElem il];rfl),?_⟩
     obtain⟨⟨u,h1,h2⟩,gt⟩:=S5.pk ps[i] (List.getElem_mem il)
     have e5:H5 t1=some (.tup [.str "take"]):=k5.tup w4 e4
     refine⟨t1,ps[i].2,_,_,rfl,rfl,SqT.of e5,SqT.of h1,by simp,sz3,(fun z=>nomatch z),fun _ t ht=>?_⟩
     refine q _ (.take (.i ps[i].1.1) (ps[i].1.2.map .i)) _ (((k03.same s4).trans k5).new ht) (w5.new ht) ⟨t,u,rfl,aF,by rw [List.map_map];exact sameNew ht _ _ h2⟩ (by show 1<=_;omega) (aP8 gt) fun x hx=>?_
     rw [List.mem_singleton.mp hx,show kyT (.i ps[i].1.1,ps[i].1.2.map .i)=ps[i].1 from by show(ps[i].1.1,(ps[i].1.2.map Nb.i).map Nb.k)=ps[i].1;rw [List.map_map,show Nb.k∘Nb.i=id from rfl,List.map_id]]
     exact List.mem_map.mpr ⟨ps[i],List.getElem_mem il,rfl⟩
   case nump=>
    intro H3 k3 w3
    exact⟨_,rfl,a,rfl,w3,fun v n H4 k4 w4 tu hn1 hn2=>q v (.num (.i n)) H4 (k3.trans k4) w4 tu (by show 1<=_;omega) (by rw [ff,own,if_pos (show okN (.i n) (-1000000000000) 1000000000000=true from decide_eq_true ⟨hn1,hn2⟩)]) fun x hx=>nomatch hx⟩
structure Mkr (P:Program) (w:World) (K:W.Frag) (mg:Str->Option Value) (base:Heap) (C:Addr) (x:Str) (ps:List Str) (sp:Sp):Prop where
 ex:∃f fd,bC P w K mg base CX0 1 f fd ps sp/\Mk K C f/\mg x=some (.ref C)/\Binds K fd ps []
theorem nQ {X:Cx} {C:Addr} {x:Str} {ps:List Str} {sp:Sp} {E:XK} {e:Expr} {es:List Expr} {t:TA} {p pos:Pos} (R:Mkr X.prog X.w X.K X.mg X.base C x ps sp) (hr:eU 2 X.A) (hg:Gl X x) (hx:kO CX0 X E) (ha:PA X (e::es) t)
  (hdb:(x==("__debug__":Str))=false:=by decide) (he:starEach (e::es) X.env=(false,eval e X.env)::starEach es X.env:=by rfl) (hpl:(backTo pos (starEach es X.env)).any (·.1)=false:=by rfl):PE X (.Call (.Name x p) (e::es) [] pos) (aRw C sp [] E t):=by
 obtain⟨f,fd,F,M,hm,hb⟩:=R.ex
 exact aQ4 M F hr hg hm hb .nil hx ha hdb he hpl
theorem sF {a b:Str} (h:a≠b:=by decide+kernel):decide (V.str a=V.str b)=false:=decide_eq_false fun z=>h (V.str.inj z)
theorem aS7 (k:Fin 5):opn k≠"number"/\opn k≠"take"/\opn k≠"rest"/\opn k≠"?":=by
 match k with
 |0=>exact⟨by decide+kernel,by decide+kernel,by decide+kernel,by decide+kernel⟩
 |1=>exact⟨by decide+kernel,by decide+kernel,by decide+kernel,by decide+kernel⟩
 |2=>exact⟨by decide+kernel,by decide+kernel,by decide+kernel,by decide+kernel⟩
 |3=>exact⟨by decide+kernel,by decide+kernel,by decide+kernel,by decide+kernel⟩
 |4=>exact⟨by decide+kernel,by decide+kernel,by decide+kernel,by decide+kernel⟩
def bnm (k:Fin 5):Str:=match k with|0=>"Added"|1=>"Lessened"|2=>"Multiplied"|3=>"Least"|4=>"Most"
theorem aDs {H:Hp} {x dx C:Addr} {fs:List (Str×V)} (nx:H x=none) (nd:H dx=none):bA H (upd (upd (upd H dx (.own x)) x (.ins C dx [])) x (.ins C dx fs)):=cN nx (cN nx (cN nd (bA.refl H)))
theorem nU {N:Cn} {K:W.Frag} {H H1:Hp} {k:Fin 5} {t1 t2:Tm} {v1 v2:V} {Q:VK} {E:XK} (c:Cf K (N.bin k) ["one","other"]) (u1:eO N H1 t1 v1) (u2:eO N H1 t2 v2) (s:bA H H1) (q:∀(v':V) (H':Hp),bA H H'->eO N H' (.bin k t1 t2) v'->Q v' H'):
  ∀x dx,H1 x=none->H1 dx=none->dx≠x->aCf K "one" "other" (.ref x::([v1,v2]++[])) (upd (upd H1 dx (.own x)) x (.ins (N.bin k) dx [])) (fun v H2=>v= .non/\Q (.ref x) H2) E:=by
 intro x dx nx nd ne
 obtain⟨p1,d1,f1,rfl,h1,g1⟩:=u1
 obtain⟨p2,d2,f2,rfl,h2,g2⟩:=u2
 refine⟨x,N.bin k,dx,.ref p1,.ref p2,rfl,aF,c,rfl,?_⟩
 have sN:bA H1 (upd (upd (upd (upd H1 dx (.own x)) x (.ins (N.bin k) dx [])) x (.ins (N.bin k) dx [("one",.ref p1)])) x (.ins (N.bin k) dx [("one",.ref p1),("other",.ref p2)])):=cN nx (aDs nx nd)
 exact q _ _ (s.trans sN) ⟨x,dx,_,rfl,aF,p1,d1,f1,p2,d2,f2,rfl,⟨sN _ _ h1,g1.same sN⟩,sN _ _ h2,g2.same sN⟩
theorem eE {X:Cx} {x:Str} {i:Int} {t:Tok} {pos:Pos} (hg:Gl X x) (hm:X.mg x=some (.int i t)) (hd:(x==("__debug__":Str))=false:=by decide):PE X (.Name x pos) (tC (.int i)):=vN (v:= .int i) hg hm ⟨_,rfl⟩ hd
abbrev PW3:List Str:=["thing","least","most"]
def ffs:List Tm->Option Str
 | []=>none
 |t::l=>orS (ff t) (ffs l)
theorem oJ (x:Option Str):orS x none=x:=by cases x<;>rfl
theorem aPb:∀t:Tm,ff t=orS (ffs (kids t)) (own t)
 | .num _=>rfl
 | .take _ _=>rfl
 | .rest t y=>by rw [ff,kids,ffs,ffs,oJ]
 | .cho a b c=>by
  rw [ff,kids,ffs,ffs,ffs,ffs,own,oJ,oJ]
 | .bin k a b=>by rw [ff,kids,ffs,ffs,ffs,own,oJ,oJ]
theorem aL9:∀{l:List Tm} {i:Nat} {k:Tm} {x:Str},ffs (l.take i)=none->l[i]? =some k->ff k=some x->ffs l=some x
 | [],_,_,_,_,h,_=>by simp at h
 |a::l,0,k,x,_,h,e=>by
  simp at h
  subst h
  rw [ffs,e,orS]
 |a::l,i+1,k,x,h0,h,e=>by
  rw [List.take_succ_cons,ffs]at h0
  have h1:ff a=none:=by
   cases g:ff a with
   |none=>rfl
   |some z=>rw [g,orS]at h0;cases h0
  rw [h1,orS]at h0
  rw [ffs,h1,orS]
  exact aL9 h0 (by simpa using h) e
theorem aEb:∀{l:List Tm} {i:Nat} {k:Tm},ffs (l.take i)=none->l[i]? =some k->ff k=none->ffs (l.take (i+1))=none
 | [],_,_,_,h,_=>by simp at h
 |a::l,0,k,_,h,e=>by
  simp at h
  subst h
  rw [List.take_succ_cons,List.take_zero,ffs,ffs,e,orS]
 |a::l,i+1,k,h0,h,e=>by
  rw [List.take_succ_cons,ffs]at h0⊢
  have h1:ff a=none:=by
   cases g:ff a with
   |none=>rfl
   |some z=>rw [g,orS]at h0;cases h0
  rw [h1,orS]at h0⊢
  exact aEb h0 (by simpa using h) e
def ov:Option Str->V
 |none=> .non
 |some x=> .str x
theorem mU:∀{t:Tm},ff t=none->∀x∈raw t,x.2.length∈[1,2,3]
 | .num _,_,x,hx=>nomatch hx
 | .take b ss,h,x,hx=>by
  rw [List.mem_singleton.mp hx]
  rw [ff,own]at h
  by_cases h1:okN b 1 3=true
  ·rw [if_pos h1]at h
   by_cases h2:rO ss=true
   ·unfold rO at h2
    rw [Bool.and_eq_true,decide_eq_true_iff]at h2
    have h3:(kyT (b,ss)).2.length=ss.length:=by simp [kyT]
    rw [h3]
    simp only [List.mem_cons,List.not_mem_nil,or_false]
    omega
   ·rw [if_neg h2]at h;cases h
  ·rw [if_neg h1]at h;cases h
 | .rest t y,h,x,hx=>by
  rw [ff]at h
  cases g:ff t with
  |some z=>rw [g,orS]at h;cases h
  |none=>exact mU g x hx
 | .cho a b c,h,x,hx=>by
  rw [ff]at h
  simp only [raw,List.mem_append]at hx
  cases g:ff a with
  |some z=>rw [g,orS]at h;cases h
  |none=>
   rw [g,orS]at h
   cases g2:ff b with
   |some z=>rw [g2,orS]at h;cases h
   |none=>
    rw [g2,orS]at h
    rcases hx with z|z|z
    ·exact mU g x z
    ·exact mU g2 x z
    ·exact mU h x z
 | .bin k a b,h,x,hx=>by
  rw [ff]at h
  simp only [raw,List.mem_append]at hx
  cases g:ff a with
  |some z=>rw [g,orS]at h;cases h
  |none=>
   rw [g,orS]at h
   rcases hx with z|z
   ·exact mU g x z
   ·exact mU h x z
inductive aEa (vs:List V) (H:Hp) (Q:VK) (z3_:XK):Prop
 |mk (n:Nb) (q0_:vs=[n.v]) (q1_:Q (.bl (isI n)) H):aEa vs H Q z3_
def aIl:Sp:=fun vs H Q z3_=>aEa vs H Q z3_
inductive aAb (vs:List V) (H:Hp) (Q:VK) (z3_:XK):Prop
 |mk (n:Nb) (lo hi:Int) (q0_:vs=[n.v,.int lo,.int hi]) (q1_:Q (.bl (okN n lo hi)) H):aAb vs H Q z3_
def lG:Sp:=fun vs H Q z3_=>aAb vs H Q z3_
inductive uB (vs:List V) (H:Hp) (Q:VK) (z3_:XK):Prop
 |mk (q:Addr) (ss:List Nb) (q0_:vs=[.ref q]) (q1_:H q=some (.tup (ss.map Nb.v))) (q2_:∀H',bA H H'->Q (.bl (rO ss)) H'):uB vs H Q z3_
def pO:Sp:=fun vs H Q z3_=>uB vs H Q z3_
inductive aDz (N:Cn) (C:Addr) (vs:List V) (H:Hp) (Q:VK) (z3_:XK):Prop
 |mk (p dx:Addr) (fs:List (Str×V)) (t:Tm) (q0_:vs=[.ref p]) (q1_:H p=some (.ins (cls N t) dx fs)) (q2_:bZ N H fs t) (q3_:cls N t=C) (q4_:∀H',bA H H'->Q (ov (own t)) H'):aDz N C vs H Q z3_
def kI (N:Cn) (C:Addr):Sp:=fun vs H Q z3_=>aDz N C vs H Q z3_
inductive aSe (N:Cn) (d:Nat) (vs:List V) (H:Hp) (Q:VK) (z3_:XK):Prop
 |mk (p dx:Addr) (fs:List (Str×V)) (t:Tm) (q0_:vs=[.ref p]) (q1_:H p=some (.ins (cls N t) dx fs)) (q2_:bZ N H fs t) (q3_:ht t<=d) (q4_:∀H',bA H H'->Q (ov (ff t)) H'):aSe N d vs H Q z3_
def aQ0 (N:Cn) (d:Nat):Sp:=fun vs H Q z3_=>aSe N d vs H Q z3_
theorem oX {α:Type} {f:α->V} {l:List α} {i:Nat} {x:V} (h:(l.map f)[i]? =some x):∃n,x=f n/\l[i]? =some n:=by
 rw [List.getElem?_map]at h
 cases g:l[i]? with
 |none=>rw [g]at h;cases h
 |some b=>rw [g]at h;cases h;exact⟨b,rfl,rfl⟩
theorem aPc:aM ["thing"] ["thing"] (aH aFx):=bG
theorem aLx {f:Addr} {fd:FuncData} (F:Fun K "is_whole" "is_whole" aFx f fd) (T:Txt K mg):bC P w K mg base CX0 1 f fd ["thing"] aIl:=by
 refine F.ok aPc (fun vs H Q E h=>?_) (fun cdv A outer s H vs Q E hr h=>?_)
 ·obtain⟨n,rfl,_⟩:=h
  rfl
 ·obtain⟨n,rfl,k⟩:=h
  refine⟨_,(aD (aL (aGx (bN iM rfl T.isinstance boot_isinstance (aA (pv 0) (aA (aEz rfl T.int boot_int) aC))) (aFj (aTs (bN iM rfl T.isinstance boot_isinstance (aA (pv 0) (aA (aEz rfl T.bool boot_bool) aC)))))))),?_⟩
  cases n with
  |i n=>exact⟨_,rfl,_,_,_,_,rfl,.int _,rfl,_,rfl,nO ⟨_,rfl,_,_,_,_,rfl,.int _,rfl,_,rfl,k⟩⟩
  |b n=>exact⟨_,rfl,_,_,_,_,rfl,.bl _,rfl,_,rfl,nO ⟨_,rfl,_,_,_,_,rfl,.bl _,rfl,_,rfl,k⟩⟩
theorem aK9:aM ["thing","least","most"] ["thing","least","most"] (aH aC6):=bG
theorem aJq {f:Addr} {fd:FuncData} (F:Fun K "is_within" "is_within" aC6 f fd) (c_whole:Cal P w K mg base CX0 1 "is_whole" ["thing"] aIl):bC P w K mg base CX0 2 f fd PW3 lG:=by
 refine F.ok aK9 (fun vs H Q E h=>?_) (fun cdv A outer s H vs Q E hr h=>?_)
 ·obtain⟨n,lo,hi,rfl,_⟩:=h
  rfl
 ·obtain⟨n,lo,hi,rfl,k⟩:=h
  refine⟨_,(aD (aL (aGx (cV c_whole (hr.mo) rfl aP (aA (pv 0) aC)) (aFj (aNa aHk aHk (pv 1) (pv 0) (pv 2)))))),?_⟩
  cases n with
  |b n=>exact⟨_,rfl,.b n,rfl,_,rfl,fU k⟩
  |i n=>
   refine⟨_,rfl,.i n,rfl,_,rfl,nO ?_⟩
   refine⟨_,rfl,_,rfl,_,_,rfl,rfl,_,rfl,?_⟩
   by_cases h1:lo<=n
   ·rw [decide_eq_true h1]
    refine nO ⟨_,rfl,_,_,rfl,rfl,?_⟩
    have e:decide (n<=hi)=okN (.i n) lo hi:=by simp [okN,h1]
    show Q (.bl (decide (n<=hi))) H
    rw [e]
    exact k
   ·rw [decide_eq_false h1]
    refine fU ?_
    have e:false=okN (.i n) lo hi:=by simp [okN,h1]
    show Q (.bl false) H
    rw [e]
    exact k
abbrev aJw:List Str:=["thing"]
theorem aGf:aM ["thing"] ["thing"] (aH pA):=bG
theorem aD4 {f:Addr} {fd:FuncData} (F:Fun K "are_steps" "are_steps" pA f fd) (c_within:Cal P w K mg base CX0 2 "is_within" PW3 lG) (T:Txt K mg):bC P w K mg base CX0 3 f fd ["thing"] pO:=by
 refine F.ok aGf (fun vs H Q E h=>?_) (fun cdv A outer s H vs Q E hr h=>?_)
 ·obtain⟨q,ss,rfl,_⟩:=h
  rfl
 ·obtain⟨q,ss,rfl,hq,k⟩:=h
  obtain⟨_,g_MOST_STEPS_terms⟩:=T.mst
  obtain⟨_,g_GREATEST_STEP⟩:=T.gst
  refine⟨_,(aB (bK (PW.pt (aFb (mQ (iV (bN iM rfl T.isinstance boot_isinstance (aA (pv 0) (aA (aEz rfl T.tuple boot_tuple) aC))))) (yS (mQ (aOi aHk aHk aG (bN dM (by rfl) T.len PySem.boot_len (aA (pv 0) aC)) (eE rfl g_MOST_STEPS_terms)))))) (aD (aL lJ)) aR) (aD (aL (bN aOe rfl T.all boot_all (aA (pM (own:=["step"]) (cap:=[]) (g:=gR 0) (aH pA) aJw rfl rfl (fun x h=>dZ h) (by decide+kernel) rfl (aCq (pv 0)) (fun cl C s2 H2 fp=>(dC (i:=0) (show(["step"]:List Str).Nodup by decide+kernel) rfl (Or.inl rfl) (Or.inr rfl))) (fun cl C s2 H2 fp=>(cV c_within (hr.mo) rfl aP (aA (pv 0) (aA (aIu aBi (eE rfl g_GREATEST_STEP)) (aA (eE rfl g_GREATEST_STEP) aC)))))) aC))))),?_⟩
  refine⟨_,rfl,_,"tuple",_,true,rfl,.tup hq,rfl,_,rfl,fU ?_⟩
  refine⟨_,rfl,q,_,rfl,.inr (SqT.of hq),_,_,rfl,rfl,_,rfl,?_⟩
  by_cases l1:1<=ss.length
  ·refine bD (decide_eq_true (by rw [List.length_map];omega)) ⟨_,_,rfl,rfl,_,rfl,?_⟩
   by_cases l3:ss.length<=3
   ·rw [decide_eq_true (show((ss.map Nb.v).length:Int)<=3 by rw [List.length_map];omega)]
    refine fU ?_
    refine⟨_,rfl,q,rfl,⟨_,SqT.of hq⟩,fun D hD=>?_⟩
    refine qT (K:=K) (a:=q) (xs:=ss.map Nb.v) (fun i acc σ H2=>(∃v0,σ=[v0])/\bA H H2/\H2 D=some (.lst acc)/\acc=((ss.take i).map fun s=>okN s (-9) 9).map V.bl) ⟨⟨_,rfl⟩,sameNew hD,aF,rfl⟩ (fun i acc σ H2 _ ⟨_,s2,_⟩=>SqT.of (s2 _ _ hq)) ?_ ?_
    ·rintro i x acc σ H2 hi hx ⟨⟨v0,rfl⟩,s2,hD2,rfl⟩
     obtain⟨n,rfl,hn⟩:=oX hx
     refine⟨_,rfl,_,rfl,n, -9,9,rfl,?_⟩
     refine pH hD2 (small (by rw [List.length_map,List.length_map,List.length_take];omega)) hi ⟨⟨_,rfl⟩,cN hD s2,aF,?_⟩
     rw [List.take_succ,hn,List.map_append,List.map_append]
     rfl
    ·rintro acc σ H2 ⟨_,s2,hD2,rfl⟩
     rw [List.length_map,List.take_length]at hD2
     refine⟨D,_,rfl,SqL.of hD2,rfl,?_⟩
     have e:(ss.map fun s=>okN s (-9) 9).all id=rO ss:=by unfold rO;rw [List.all_map,decide_eq_true ⟨l1,l3⟩,Bool.true_and];rfl
     rw [e]
     exact k H2 s2
   ·rw [decide_eq_false (show¬((ss.map Nb.v).length:Int)<=3 by rw [List.length_map];omega)]
    refine nO ?_
    have e:rO ss=false:=by unfold rO;rw [decide_eq_false (by omega),Bool.false_and]
    rw [e]at k
    exact k H (bA.refl H)
  ·refine aZ (decide_eq_false (by rw [List.length_map];omega)) ⟨_,rfl,nO ?_⟩
   have e:rO ss=false:=by unfold rO;rw [decide_eq_false (by omega),Bool.false_and]
   rw [e]at k
   exact k H (bA.refl H)
def aV7 (t:Tm) (r:Option Str):Prop:=(12<ht t/\r=some "depth")∨(¬12<ht t/\((60<dD t/\r=some "parts")∨(¬60<dD t/\∃l,aR7 t l/\r=(if 6<l.length then some ("takes":Str)else none))))
def aVx (t:Tm) (r:Option Str):Prop:=∃zs,aI5 (raw t) zs/\((1<zs.length/\r=some "lines")∨(¬1<zs.length/\aV7 t r))
def aIa (t:Tm) (r:Option Str):Prop:=(ff t=r/\r≠none)∨(ff t=none/\aVx t r)
inductive aE3 (N:Cn) (CG:Addr) (d:Nat) (vs:List V) (H:Hp) (Q:VK) (E:XK):Prop
 |mk (p dx:Addr) (fs:List (Str×V)) (t:Tm) (q0_:vs=[.ref p]) (q1_:H p=some (.ins (cls N t) dx fs)) (q2_:bZ N H fs t) (q3_:ht t<=d) (q4_:(ff t=none->dD t<=1000/\∃ks:List Tk,ks.length<18/\∀x∈raw t,x∈ks)) (q5_:(∀x,aIa t (some x)->∀H' dx,bA H H'->zJ H' dx (.str x)->E (.ref CG) (some dx) H')) (q6_:(aIa t none->∀H',bA H H'->Q .non H')):aE3 N CG d vs H Q E
def aG8 (N:Cn) (CG:Addr) (d:Nat):Sp:=fun vs H Q E=>aE3 N CG d vs H Q E
theorem aLc:aM ["self"] ["self"] (aH vW):=bG
theorem aAi {f C:Addr} {fd:FuncData} (F:Fun K "own_fault" "Term.own_fault" vW f fd) (hC:∀t,cls N t=C->own t=none):bC P w K mg base CX0 1 f fd ["self"] (kI N C):=by
 refine F.ok aLc (fun vs H Q E h=>?_) (fun cdv A outer s H vs Q E hr h=>?_)
 ·obtain⟨p,dx,fs,t,rfl,_⟩:=h
  rfl
 ·obtain⟨p,dx,fs,t,rfl,hp,hf,hc,q⟩:=h
  rw [hC t hc]at q
  exact⟨_,(aD (aL jK)),q H (bA.refl H)⟩
theorem aL6:aM ["self"] ["self"] (aH uY):=bG
theorem aJ1 {f C:Addr} {fd:FuncData} (F:Fun K "own_fault" "Number.own_fault" uY f fd) (c:Cf K C ["value"]) (hC:∀t,cls N t=C->∃n,t= .num n) (c_within:Cal P w K mg base CX0 2 "is_within" PW3 lG) (T:Txt K mg):bC P w K mg base CX0 3 f fd ["self"] (kI N C):=by
 refine F.ok aL6 (fun vs H Q E h=>?_) (fun cdv A outer s H vs Q E hr h=>?_)
 ·obtain⟨p,dx,fs,t,rfl,_⟩:=h
  rfl
 ·obtain⟨p,dx,fs,t,rfl,hp,hf,hc,q⟩:=h
  obtain⟨_,g_GREATEST_NUMBER⟩:=T.gn
  refine⟨_,(aB (bK (iV (cV c_within (hr.mo) rfl aP (aA (bM (pv 0) rfl) (aA (aIu aBi (eE rfl g_GREATEST_NUMBER)) (aA (eE rfl g_GREATEST_NUMBER) aC))))) (aD (aL jK)) aR) (aD (aL aJ))),?_⟩
  obtain⟨n,rfl⟩:=hC t hc
  rw [hc]at hp
  obtain rfl:=hf
  refine⟨_,rfl,p,C,dx,_,_,rfl,hp,c.cl,c.na _ (by simp),rfl,_,rfl,n, -1000000000000,_,rfl,_,rfl,?_⟩
  rw [own]at q
  by_cases h:okN n (-1000000000000) 1000000000000=true
  ·rw [if_pos h]at q
   exact bD h (q H (bA.refl H))
  ·rw [if_neg h]at q
   exact aZ (Bool.eq_false_iff.mpr h) (q H (bA.refl H))
theorem aMk:aM ["self"] ["self"] (aH vM):=bG
theorem aKc {f C:Addr} {fd:FuncData} (F:Fun K "own_fault" "Take.own_fault" vM f fd) (c:Cf K C ["back","steps"]) (hC:∀t,cls N t=C->∃b ss,t= .take b ss) (c_within:Cal P w K mg base CX0 2 "is_within" PW3 lG) (c_areSteps:Cal P w K mg base CX0 3 "are_steps" ["thing"] pO) (T:Txt K mg):bC P w K mg base CX0 4 f fd ["self"] (kI N C):=by
 refine F.ok aMk (fun vs H Q E h=>?_) (fun cdv A outer s H vs Q E hr h=>?_)
 ·obtain⟨p,dx,fs,t,rfl,_⟩:=h
  rfl
 ·obtain⟨p,dx,fs,t,rfl,hp,hf,hc,q⟩:=h
  obtain⟨_,g_GREATEST_BACK⟩:=T.gb
  refine⟨_,(aB (bK (mQ (iV (cV c_within (hr.mo) rfl aP (aA (bM (pv 0) rfl) (aA aG (aA (eE rfl g_GREATEST_BACK) aC)))))) (aD (aL aJ)) aR) (aB (bK (mQ (iV (cV c_areSteps (hr.mo) rfl aP (aA (bM (pv 0) rfl) aC)))) (aD (aL aJ)) aR) (aD (aL jK)))),?_⟩
  obtain⟨b,ss,rfl⟩:=hC t hc
  rw [hc]at hp
  obtain⟨u,rfl,hu⟩:=hf
  refine⟨_,rfl,p,C,dx,_,_,rfl,hp,c.cl,c.na _ (by simp),rfl,b,1,3,rfl,_,rfl,?_⟩
  rw [own]at q
  by_cases h:okN b 1 3=true
  ·rw [if_pos h]at q
   rw [h]
   refine fU ?_
   refine⟨_,rfl,p,C,dx,_,_,rfl,hp,c.cl,c.na _ (by simp),rfl,u,ss,rfl,hu,fun H1 s1=>⟨_,rfl,?_⟩⟩
   by_cases h2:rO ss=true
   ·rw [if_pos h2]at q
    rw [h2]
    exact fU (q H1 s1)
   ·rw [if_neg h2]at q
    rw [Bool.eq_false_iff.mpr h2]
    exact nO (q H1 s1)
  ·rw [if_neg h]at q
   rw [Bool.eq_false_iff.mpr h]
   exact nO (q H (bA.refl H))
theorem aNc:aM ["self"] ["self"] (aH vH):=bG
theorem aJk {f C:Addr} {fd:FuncData} (F:Fun K "own_fault" "Rest.own_fault" vH f fd) (c:Cf K C ["one","by"]) (hC:∀t,cls N t=C->∃a y,t= .rest a y) (c_within:Cal P w K mg base CX0 2 "is_within" PW3 lG) (T:Txt K mg):bC P w K mg base CX0 3 f fd ["self"] (kI N C):=by
 refine F.ok aNc (fun vs H Q E h=>?_) (fun cdv A outer s H vs Q E hr h=>?_)
 ·obtain⟨p,dx,fs,t,rfl,_⟩:=h
  rfl
 ·obtain⟨p,dx,fs,t,rfl,hp,hf,hc,q⟩:=h
  obtain⟨_,g_GREATEST_DIVISOR⟩:=T.gd
  refine⟨_,(aB (bK (iV (cV c_within (hr.mo) rfl aP (aA (bM (pv 0) rfl) (aA aG (aA (eE rfl g_GREATEST_DIVISOR) aC))))) (aD (aL jK)) aR) (aD (aL aJ))),?_⟩
  obtain⟨a,y,rfl⟩:=hC t hc
  rw [hc]at hp
  obtain⟨pa,da,fa,rfl,ha,ga⟩:=hf
  refine⟨_,rfl,p,C,dx,_,_,rfl,hp,c.cl,c.na _ (by simp),rfl,y,1,_,rfl,_,rfl,?_⟩
  rw [own]at q
  by_cases h:okN y 1 1000000000=true
  ·rw [if_pos h]at q
   exact bD h (q H (bA.refl H))
  ·rw [if_neg h]at q
   exact aZ (Bool.eq_false_iff.mpr h) (q H (bA.refl H))
theorem aBu:aM ["term","part","fault"] ["term"] (aH aCu):=bG
theorem aU4 {f:Addr} {fd:FuncData} {d:Nat} (F:Fun K "first_fault" "first_fault" aCu f fd) (c_ff:Cal P w K mg base CX0 (d+4) "first_fault" ["term"] (aQ0 N d)) (D_inner:Dis P w K mg base CX0 1 (IsC N) "inner" ["self"] (eG N)) (D_fault:Dis P w K mg base CX0 4 (IsC N) "own_fault" ["self"] (kI N))
  (nI:∀(t:Tm) (fs:List (Str×V)) H,bZ N H fs t->fs.lookup ("inner":Str)=none) (nF:∀(t:Tm) (fs:List (Str×V)) H,bZ N H fs t->fs.lookup ("own_fault":Str)=none):bC P w K mg base CX0 (d+5) f fd ["term"] (aQ0 N (d+1)):=by
 refine F.ok aBu (fun vs H Q E h=>?_) (fun cdv A outer s H vs Q E hr h=>?_)
 ·obtain⟨p,dx,fs,t,rfl,_⟩:=h
  rfl
 ·obtain⟨p,dx,fs,t,rfl,hp,hf,hd,q⟩:=h
  rw [aPb]at q
  refine⟨_,(aB (yH PassesOwn.never rfl (rW (aO (pv 0) D_inner (hr.mo) aP)) (dC (i:=1) aBu.nd rfl (Or.inl rfl)) (aB (aY (i:=2) aBu.nd rfl (Or.inl rfl) (cV c_ff (hr.mo) rfl aP (aA (pv 1) aC))) (aD (bK (aN aG2 (pv 2) jK (aV _)) (aD (aL (pv 2))) aR)))) (aD (aL (aO (pv 0) D_fault (hr.mo) aP)))),?_⟩
  refine⟨_,rfl,p,_,dx,fs,rfl,hp,isC N t,nI t fs H hf,p,dx,fs,t,rfl,hp,hf,rfl,fun l xs H2 s2 hl e2 pk=>⟨l,rfl,⟨_,SqL.of e2⟩,?_⟩⟩
  have xl:=Paired.length pk
  refine aFd (K:=K) (a:=l) (xs:=xs) (fun i σ H3=>(∃v1 v2,σ=[some (.ref p),v1,v2])/\bA H2 H3/\ffs ((kids t).take i)=none) ⟨⟨_,_,rfl⟩,bA.refl H2,rfl⟩ (fun i σ H3 _ ⟨_,s3,_⟩=>SqL.of (s3 _ _ e2)) ?_ ?_
  ·rintro i x σ H3 hx ⟨⟨v1,v2,rfl⟩,s3,fn⟩
   obtain⟨k,hk,tr⟩:=L2.Paired.get2 pk hx
   have km:=List.mem_of_getElem? hk
   obtain⟨a,da,fa,rfl,ha,fla⟩:=tr.same (s2.trans s3)
   have hk':=aBy km
   refine⟨_,rfl,a,da,fa,k,rfl,ha,fla,by omega,fun H4 s4=>?_⟩
   cases g:ff k with
   |none=>exact⟨_,rfl,rfl,_,rfl,aEr rfl ⟨⟨_,_,rfl⟩,s3.trans s4,aEb fn hk g⟩⟩
   |some x=>
    have q':=q H4 (s2.trans (s3.trans s4))
    rw [aL9 fn hk g,orS]at q'
    exact⟨_,rfl,rfl,_,rfl,bD rfl ⟨_,rfl,q'⟩⟩
  ·rintro σ H3 ⟨⟨v1,v2,rfl⟩,s3,fn⟩
   have s23:=s2.trans s3
   rw [<-xl,List.take_length]at fn
   rw [fn,orS]at q
   exact⟨_,rfl,p,_,dx,fs,rfl,s23 _ _ hp,isC N t,nF t fs H hf,p,dx,fs,t,rfl,s23 _ _ hp,hf.same s23,rfl,fun H4 s4=>q H4 (s23.trans s4)⟩
theorem aDh:aM ["term","fault"] ["term"] (aH aC3):=bG
theorem aOw {f CG fT:Addr} {fd fdT:FuncData} {d:Nat} (F:Fun K "check_term" "check_term" aC3 f fd) (c_ff:Cal P w K mg base CX0 (d+4) "first_fault" ["term"] (aQ0 N d)) (c_linesOf:Cal P w K mg base (CXe P w) (d+3) "lines_of" ["term"] (aDy N CG d))
  (D_takes:Dis P w K mg base CX0 (d+1) (IsC N) "takes" ["self"] (mL N d)) (D_depth:Dis P w K mg base CX0 (d+1) (IsC N) "depth" ["self"] (uL N ht d)) (D_parts:Dis P w K mg base CX0 (d+1) (IsC N) "parts" ["self"] (uL N dD d)) (T:Txt K mg)
  (nT:∀(t:Tm) (fs:List (Str×V)) H,bZ N H fs t->fs.lookup ("takes":Str)=none/\fs.lookup ("depth":Str)=none/\fs.lookup ("parts":Str)=none)
  (NG:Ng K mg CG fT) (GT:bC P w K mg base CX0 1 fT fdT ["self","at"] (iC K)) (bT:Binds K fdT ["self","at"] []):bC P w K mg base (CXe P w) (d+5) f fd ["term"] (aG8 N CG d):=by
 refine Fun.okE F aDh (fun vs H Q E h=>?_) (fun X cdv A outer s H vs Q E eX hW hP hr h=>?_)
 ·obtain⟨p,dx,fs,t,rfl,_⟩:=h
  rfl
 ·subst eX
  obtain⟨p,dx,fs,t,rfl,hp,hf,hd,hpk,qE,qN⟩:=h
  obtain⟨_,g_MOST_DEPTH⟩:=T.mdp
  obtain⟨_,g_MOST_PARTS⟩:=T.mpa
  obtain⟨_,g_MOST_TAKES⟩:=T.mtk
  obtain⟨n1,n2,n3⟩:=nT t fs H hf
  refine⟨_,(aB (aY (i:=1) aDh.nd rfl (Or.inl rfl) (cV c_ff (hr.mo) rfl aP (aA (pv 0) aC))) (aB (bK (aN aG2 (pv 1) jK (aV _)) (aD (dG NG.rs GT (hr.mo) rfl NG.mg bT rfl rfl hW (aA (pv 1) aC))) aR) (aB (bY (cV c_linesOf (hr.mo) rfl (cI rfl hW) (aA (pv 0) aC))) (aB (bK (aN aA0 (aO (pv 0) D_depth (hr.mo) aP) (eE rfl g_MOST_DEPTH) (aV _)) (aD (dG NG.rs GT (hr.mo) rfl NG.mg bT rfl rfl hW (aA aJ aC))) aR) (aB (bK (aN aA0 (aO (pv 0) D_parts (hr.mo) aP) (eE rfl g_MOST_PARTS) (aV _)) (aD (dG NG.rs GT (hr.mo) rfl NG.mg bT rfl rfl hW (aA aJ aC))) aR) (aD (bK (aN aA0 (bN dM (by rfl) T.len PySem.boot_len (aA (aO (pv 0) D_takes (hr.mo) aP) aC)) (eE rfl g_MOST_TAKES) (aV _)) (aD (dG NG.rs GT (hr.mo) rfl NG.mg bT rfl rfl hW (aA aJ aC))) aR))))))),?_⟩
  refine⟨_,rfl,p,dx,fs,t,rfl,hp,hf,hd,fun H1 s1=>?_⟩
  cases gf:ff t with
  |some x=>
   refine⟨_,rfl,rfl,_,rfl,bD rfl ?_⟩
   exact⟨_,rfl,sz1,fun e he=>dF NG.cls NG.tk s1 (fun H' d' s' a'=>qE x (.inl ⟨gf,by simp⟩) H' d' s' a') he⟩
  |none=>
  refine⟨_,rfl,rfl,_,rfl,aEr rfl ?_⟩
  have r3:=mU gf
  obtain⟨hpr,kk⟩:=hpk gf
  refine(fun(rest:∀(H2:Hp),(∃zs,aI5 (raw t) zs/\¬1<zs.length)->bA H H2->(?R:Hp->Prop) H2)=> ?main) ?restp
  case main=>
   refine⟨_,rfl,p,dx,fs,t,rfl,s1 _ _ hp,hf.same s1,hd,kk,r3,fun zs hz lz H2 dx2 s2 at2=>?_,fun H2 hz s2=>?_,fun z H2 hz s2=>?_⟩
   rotate_left
   ·exact rest H2 ⟨[],hz,by simp⟩ (s1.trans s2)
   ·exact rest H2 ⟨[z],hz,by simp⟩ (s1.trans s2)
   exact qE "lines" (.inr ⟨gf,zs,hz,.inl ⟨lz,rfl⟩⟩) H2 dx2 (s1.trans s2) at2
  case restp=>
   rintro H2 ⟨zs,hz,lz⟩ s2
   refine⟨_,rfl,p,_,dx,fs,rfl,s2 _ _ hp,isC N t,n2,p,dx,fs,t,rfl,s2 _ _ hp,hf.same s2,rfl,hd,hpr,fun H3 s3=>⟨_,_,rfl,rfl,_,rfl,?_⟩⟩
   have s23:=s2.trans s3
   by_cases h12:12<ht t
   ·refine bD (decide_eq_true (by omega)) ⟨sz1,fun e he=>dF NG.cls NG.tk s23 (fun H' d' s' a'=>qE "depth" (.inr ⟨gf,zs,hz,.inr ⟨lz,.inl ⟨h12,rfl⟩⟩⟩) H' d' s' a') he⟩
   refine aZ (decide_eq_false (by omega)) ?_
   refine⟨_,rfl,p,_,dx,fs,rfl,s23 _ _ hp,isC N t,n3,p,dx,fs,t,rfl,s23 _ _ hp,hf.same s23,rfl,hd,hpr,fun H4 s4=>⟨_,_,rfl,rfl,_,rfl,?_⟩⟩
   have s24:=s23.trans s4
   by_cases h60:60<dD t
   ·refine bD (decide_eq_true (by omega)) ⟨sz1,fun e he=>dF NG.cls NG.tk s24 (fun H' d' s' a'=>qE "parts" (.inr ⟨gf,zs,hz,.inr ⟨lz,.inr ⟨h12,.inl ⟨h60,rfl⟩⟩⟩⟩) H' d' s' a') he⟩
   refine aZ (decide_eq_false (by omega)) ?_
   refine⟨_,rfl,p,_,dx,fs,rfl,s24 _ _ hp,isC N t,n1,p,dx,fs,t,rfl,s24 _ _ hp,hf.same s24,rfl,hd,kk,fun l ps H5 s5 hl e5 pk tk=>?_⟩
   have s25:=s24.trans s5
   refine⟨l,_,rfl,.inl (SqL.of e5),_,_,rfl,rfl,_,rfl,?_⟩
   have pl:(ps.map fun x=>V.ref x.2).length=(ps.map (·.1)).length:=by rw [List.length_map,List.length_map]
   by_cases h6:6<(ps.map (·.1)).length
   ·refine bD (decide_eq_true (by rw [pl];omega)) ⟨sz1,fun e he=>dF NG.cls NG.tk s25 (fun H' d' s' a'=>qE "takes" (.inr ⟨gf,zs,hz,.inr ⟨lz,.inr ⟨h12,.inr ⟨h60,_,tk,(if_pos h6).symm⟩⟩⟩⟩) H' d' s' a') he⟩
   refine aZ (decide_eq_false (by rw [pl];omega)) ?_
   exact qN (.inr ⟨gf,zs,hz,.inr ⟨lz,.inr ⟨h12,.inr ⟨h60,_,tk,(if_neg h6).symm⟩⟩⟩⟩) H5 s25
theorem aPg {X:Cx} {x z:Str} {t:Tok} {pos:Pos} (hg:Gl X x) (hm:X.mg x=some (.str z t)) (hd:(x==("__debug__":Str))=false:=by decide):PE X (.Name x pos) (tC (.str z)):=vN (v:= .str z) hg hm ⟨_,rfl⟩ hd
theorem aHo {X:Cx} {x:Str} {a:Addr} {pos:Pos} (hg:Gl X x) (hm:X.mg x=some (.ref a)) (hd:(x==("__debug__":Str))=false:=by decide):PE X (.Name x pos) (tC (.ref a)):=vN (v:= .ref a) hg hm rfl hd
theorem bU {n:Nat} (h:n<=9000):n<=sizeLine:=by rw [sizeLine_eq];omega
theorem aK {x:String} (l:List Nat) (h:(Str.ofString x).cps.toList=l):Str.ofString x=tx l:=by rw [aA8 (Str.ofString x),h]
structure Nx (K:W.Frag) (mg:Str->Option Value) (CN fT:Addr):Prop where
 rs:Rs K CN fT
 cls:pU K CN
 tk:W.takerIn K CN "at"=some none
 mg:mg "NoText"=some (.ref CN)
def fL (CR:Addr) (H:Hp) (rd:Addr) (z:List Nat) (g:Nat):Prop:=∃dx,H rd=some (.ins CR dx [(("text":Str),V.str (tx z)),(("gone":Str),cG g)])
theorem fL.same {CR:Addr} {H H':Hp} {rd:Addr} {z:List Nat} {g:Nat} (s:bA H H') (h:fL CR H rd z g):fL CR H' rd z g:=let⟨dx,e⟩:=h;⟨dx,s _ _ e⟩
inductive aD6 (CR:Addr) (vs:List V) (H:Hp) (Q:VK) (z3_:XK):Prop
 |mk (rd:Addr) (z:List Nat) (g:Nat) (q0_:vs=[.ref rd]) (q1_:fL CR H rd z g) (q2_:z.length<=9000) (q3_:Q (.str (tx ((z.drop g).take 1))) H):aD6 CR vs H Q z3_
def jE (CR:Addr):Sp:=fun vs H Q z3_=>aD6 CR vs H Q z3_
abbrev Ref (CN rd:Addr) (H:Hp) (E:XK) (p:Nat):Prop:=∀H' dx,Kp rd H H'->zJ H' dx (cG p)->E (.ref CN) (some dx) H'
inductive aG1 (CR CN:Addr) (vs:List V) (H:Hp) (Q:VK) (E:XK):Prop
 |mk (rd:Addr) (z w:List Nat) (g:Nat) (q0_:vs=[.ref rd,.str (tx w)]) (q1_:fL CR H rd z g) (q2_:z.length<=9000) (q3_:(∀c∈w,c<128)) (q4_:(∀p,pas w z g= .error p->Ref CN rd H E p)) (q5_:∀g',pas w z g= .ok g'->∀H',Kp rd H H'->fL CR H' rd z g'->Q .non H'):aG1 CR CN vs H Q E
def mF (CR CN:Addr):Sp:=fun vs H Q E=>aG1 CR CN vs H Q E
theorem take1 {z:List Nat} {g c:Nat} (h:z[g]? =some c):(z.drop g).take 1=[c]:=by rw [aQ h];rfl
theorem kJ {z:List Nat} {g:Nat} (h:z[g]? =none):(z.drop g).take 1=[]:=by rw [cX h];rfl
theorem aCe {z:List Nat}:∀{u v:List Nat} {g:Nat},pas (u++v) z g=match pas u z g with| .error p=> .error p| .ok g'=>pas v z g'
 | [],v,g=>rfl
 |c::u,v,g=>by
  simp only [List.cons_append,pas]
  split
  ·exact aCe
  ·rfl
abbrev FR:List Str:=["text","gone"]
abbrev DR (P:Program) (w:World) (K:W.Frag) (mg:Str->Option Value) (base:Heap) (CX:CXT) (k:Nat) (CR:Addr) (m:Str) (ps:List Str) (sp:Sp):Prop:=Dis P w K mg base CX k (·=CR) m ps (fun _=>sp)
theorem aKf:aM ["self"] ["self"] (aH yN):=bG
theorem aLg {f:Addr} {fd:FuncData} (F:Fun K "ahead" "TermReader.ahead" yN f fd) (c:Cf K CR FR):bC P w K mg base CX0 1 f fd ["self"] (jE CR):=by
 refine F.ok aKf (fun vs H Q E h=>?_) (fun cdv A outer s H vs Q E hr h=>?_)
 ·obtain⟨rd,z,g,rfl,_⟩:=h
  rfl
 ·obtain⟨rd,z,g,rfl,⟨dx,hp⟩,zl,q⟩:=h
  refine⟨_,(aD (aL (cT aO3 (bM (pv 0) rfl) (bO (bM (pv 0) rfl)) (bO (aU bJ (bM (pv 0) rfl) aG))))),?_⟩
  have q':Q (.str (tx ((z.drop g).take (g+1-g)))) H:=by rw [show g+1-g=1 by omega];exact q
  exact⟨_,rfl,rd,CR,dx,_,_,rfl,hp,c.cl,c.na _ (by simp),rfl,_,rfl,rd,CR,dx,_,_,rfl,hp,c.cl,c.na _ (by simp),rfl,(g:Int),rfl,_,rfl,rd,CR,dx,_,_,rfl,hp,c.cl,c.na _ (by simp),rfl,_,_,rfl,rfl,((g+1:Nat):Int),rfl,z,g,g+1,rfl,rfl,rfl,by omega,bU zl,q'⟩
theorem aDk:aM ["self","signs","sign"] ["self","signs"] (aH aBr):=bG
theorem aQp {f fT:Addr} {fd fdT:FuncData} (F:Fun K "pass_by" "TermReader.pass_by" aBr f fd) (c:Cf K CR FR) (D_ahead:DR P w K mg base CX0 1 CR "ahead" ["self"] (jE CR)) (NX:Nx K mg CN fT) (GT:bC P w K mg base CX0 1 fT fdT ["self","at"] (iC K)) (bT:Binds K fdT ["self","at"] []):bC P w K mg base (CXe P w) 4 f fd ["self","signs"] (mF CR CN):=by
 refine Fun.okE F aDk (fun vs H Q E h=>?_) (fun X cdv A outer s H vs Q E eX hW hP hr h=>?_)
 ·obtain⟨rd,z,w',g,rfl,_⟩:=h
  rfl
 ·subst eX
  obtain⟨rd,z,w',g,rfl,R,zl,asc,qE,q⟩:=h
  refine⟨_,(aD (yH hP rfl (aTk (pv 1)) (dC (i:=2) aDk.nd rfl (Or.inl rfl)) (aB (bK (aN uJ (aO (pv 0) D_ahead (hr.mo) aP) (pv 2) (aV _)) (aD (dG NX.rs GT (hr.mo) rfl NX.mg bT rfl rfl hW (aA (bM (pv 0) rfl) aC))) aR) (aD (gO (pv 0) (aU bJ (bM (pv 0) rfl) aG) rfl))))),?_⟩
  refine⟨_,rfl,w',rfl,asc,?_⟩
  refine aPt (z:=w') (fun i σ H2=>∃v2,σ=[some (.ref rd),some (.str (tx w')),v2]/\Kp rd H H2/\fL CR H2 rd z (g+i)/\pas (w'.take i) z g= .ok (g+i)) ⟨_,rfl,Kp.of (bA.refl H),R,rfl⟩ ?_ ?_
  ·rintro i ch σ H2 hi ⟨v2,rfl,k2,⟨dx,hp⟩,pk⟩
   obtain⟨hlt,ec⟩:=List.getElem?_eq_some_iff.mp hi
   have ew:w'=w'.take i++(ch::w'.drop (i+1)):=by rw [<-ec, <-List.drop_eq_getElem_cons hlt,List.take_append_drop]
   refine⟨_,rfl,rd,CR,dx,_,rfl,hp,rfl,rfl,rd,z,g+i,rfl,⟨dx,hp⟩,zl,_,rfl,rfl,_,rfl,?_⟩
   by_cases hz:z[g+i]? =some ch
   ·rw [take1 hz]
    refine aEr rfl ?_
    refine⟨_,rfl,rd,CR,dx,_,_,rfl,hp,c.cl,c.na _ (by simp),rfl,_,_,rfl,rfl,_,rfl,rd,CR,dx,_,rfl,hp,c.cl,c.na _ (by simp),by show(2:Nat)<1000;decide,?_⟩
    refine⟨_,rfl,k2.trans aHa,⟨dx,aF⟩,?_⟩
    rw [List.take_succ,hi,aCe,pk]
    simp only [Option.toList_some,pas,if_pos hz]
    rfl
   ·have ne:tx ((z.drop (g+i)).take 1)≠tx [ch]:=fun e=>by
     have e:=cZ e
     cases hg:z[g+i]? with
     |none=>rw [kJ hg]at e;cases e
     |some x=>rw [take1 hg]at e;injection e with e1;exact hz (by rw [hg,e1])
    refine bD (by rw [decide_eq_false fun e=>ne (V.str.inj e)];rfl) ?_
    refine⟨_,rfl,rd,CR,dx,_,_,rfl,hp,c.cl,c.na _ (by simp),rfl,sz1,fun e he=>dF NX.cls NX.tk (bA.refl H2) (fun H' d' s' a'=>qE (g+i) ?_ H' d' (k2.same s') a') he⟩
    rw [ew,aCe,pk]
    simp only [pas,if_neg hz]
  ·rintro σ H2 ⟨v2,rfl,k2,R2,pk⟩
   rw [List.take_length]at pk
   exact q _ pk H2 k2 R2
def pG (z:List Nat) (g:Nat):Bool:=match z[g]? with|some c=>fO c|none=>false
inductive aOn (CR:Addr) (vs:List V) (H:Hp) (Q:VK) (z3_:XK):Prop
 |mk (rd:Addr) (z:List Nat) (g:Nat) (q0_:vs=[.ref rd]) (q1_:fL CR H rd z g) (q2_:z.length<=9000) (q3_:Q (.bl (pG z g)) H):aOn CR vs H Q z3_
def aRx (CR:Addr):Sp:=fun vs H Q z3_=>aOn CR vs H Q z3_
inductive aIb (CR CN:Addr) (vs:List V) (H:Hp) (Q:VK) (E:XK):Prop
 |mk (rd:Addr) (z:List Nat) (g:Nat) (q0_:vs=[.ref rd]) (q1_:fL CR H rd z g) (q2_:z.length<=9000) (q3_:(∀p,cC z g= .error p->Ref CN rd H E p)) (q4_:∀m g',cC z g= .ok (m,g')->∀H',Kp rd H H'->fL CR H' rd z g'->Q (cG m) H'):aIb CR CN vs H Q E
def aBj (CR CN:Addr):Sp:=fun vs H Q E=>aIb CR CN vs H Q E
inductive aH0 (CR CN:Addr) (vs:List V) (H:Hp) (Q:VK) (E:XK):Prop
 |mk (rd:Addr) (z:List Nat) (g:Nat) (q0_:vs=[.ref rd]) (q1_:fL CR H rd z g) (q2_:z.length<=9000) (q3_:(∀p,dW z g= .error p->Ref CN rd H E p)) (q4_:∀n g',dW z g= .ok (n,g')->∀H',Kp rd H H'->fL CR H' rd z g'->Q (.int n) H'):aH0 CR CN vs H Q E
def aB9 (CR CN:Addr):Sp:=fun vs H Q E=>aH0 CR CN vs H Q E
theorem aDn (c:Nat):c∈(Str.ofString "0123456789").cps.toList↔fO c=true:=by
 unfold fO
 rw [decide_eq_true_iff,show(Str.ofString "0123456789").cps.toList=[48,49,50,51,52,53,54,55,56,57]from rfl]
 simp only [List.mem_cons,List.not_mem_nil,or_false]
 omega
theorem zU:∀(k:Nat) (r:List Nat),(∀i,i<dX k r->∃c,r[i]? =some c/\fO c=true)/\dX k r<=k/\(dX k r<k->∀c,r[dX k r]? =some c->fO c=false)
 |0,r=>⟨fun i h=>absurd h (Nat.not_lt_zero _),Nat.le_refl _,fun h=>absurd h (Nat.lt_irrefl _)⟩
 |k+1,[]=>⟨fun i h=>absurd h (Nat.not_lt_zero _),Nat.zero_le _,fun _ c h=>by cases h⟩
 |k+1,c::r=>by
  obtain⟨h1,h2,h3⟩:=zU k r
  simp only [dX]
  by_cases hc:fO c=true
  ·rw [if_pos hc]
   refine⟨fun i hi=>?_,by omega,fun hk d hd=>?_⟩
   ·cases i with
    |zero=>exact⟨c,rfl,hc⟩
    |succ i=>exact h1 i (by omega)
   ·exact h3 (by omega) d (by simpa using hd)
  ·rw [if_neg hc]
   exact⟨fun i h=>absurd h (Nat.not_lt_zero _),Nat.zero_le _,fun _ d hd=>by cases hd;simpa using hc⟩
theorem uM {rd:Addr} {x:String} {l:List Nat} (h:(Str.ofString x).cps.toList=l):[V.ref rd,V.str (Str.ofString x)]=[V.ref rd,V.str (tx l)]:=by rw [aK l h]
theorem aRa:aM ["self"] ["self"] (aH aGc):=bG
theorem aT2 {f:Addr} {fd:FuncData} {t0:Tok} (F:Fun K "figure_is_ahead" "TermReader.figure_is_ahead" aGc f fd) (D_ahead:DR P w K mg base CX0 1 CR "ahead" ["self"] (jE CR)) (g_FIGURES:mg "FIGURES"=some (.str "0123456789" t0)):bC P w K mg base CX0 2 f fd ["self"] (aRx CR):=by
 refine F.ok aRa (fun vs H Q E h=>?_) (fun cdv A outer s H vs Q E hr h=>?_)
 ·obtain⟨rd,z,g,rfl,_⟩:=h
  rfl
 ·obtain⟨rd,z,g,rfl,R,zl,q⟩:=h
  obtain⟨dx,hp⟩:=id R
  refine⟨_,(aD (aL (aGx (jC uJ (aO (pv 0) D_ahead (hr.mo) aP) aJ (aV _)) (aFj (jC aAl (aO (pv 0) D_ahead (hr.mo) aP) (aPg rfl g_FIGURES) rfl))))),?_⟩
  refine⟨_,rfl,rd,CR,dx,_,rfl,hp,rfl,rfl,rd,z,g,rfl,R,zl,rfl,_,rfl,?_⟩
  unfold pG at q
  cases hg:z[g]? with
  |none=>
   rw [hg]at q
   rw [kJ hg]
   exact fU q
  |some ch=>
   rw [hg]at q
   rw [take1 hg]
   refine bD (by rw [decide_eq_false fun z=>by have:=cZ ((V.str.inj z).trans (aK [] rfl));cases this];rfl) ?_
   refine⟨_,rfl,rd,CR,dx,_,rfl,hp,rfl,rfl,rd,z,g,rfl,R,zl,_,_,rfl,rfl,?_⟩
   rw [take1 hg]
   have f1:=StrLaws.found_one (Str.ofString "0123456789") ch
   have f2:(!(Builtin.Str.occurrences (Str.ofString "0123456789") (tx [ch]) 0 (Str.ofString "0123456789").length 1).isEmpty)=fO ch:=by
    refine f1.trans ?_
    rw [Bool.eq_iff_iff,decide_eq_true_iff]
    exact aDn ch
   rw [f2]
   exact q
theorem aEc:aM ["self","begin"] ["self"] (aH aCb):=bG
theorem aQh {f fT:Addr} {fd fdT:FuncData} (F:Fun K "read_figures" "TermReader.read_figures" aCb f fd) (c:Cf K CR FR) (D_ahead:DR P w K mg base CX0 1 CR "ahead" ["self"] (jE CR)) (D_pass_by:DR P w K mg base (CXe P w) 4 CR "pass_by" ["self","signs"] (mF CR CN)) (D_figure_is_ahead:DR P w K mg base CX0 2 CR "figure_is_ahead" ["self"] (aRx CR)) (T:Txt K mg) (NX:Nx K mg CN fT) (GT:bC P w K mg base CX0 1 fT fdT ["self","at"] (iC K)) (bT:Binds K fdT ["self","at"] []):bC P w K mg base (CXe P w) 6 f fd ["self"] (aBj CR CN):=by
 refine Fun.okE F aEc (fun vs H Q E h=>?_) (fun X cdv A outer s H vs Q E eX hW hP hr h=>?_)
 ·obtain⟨rd,z,g,rfl,_⟩:=h
  rfl
 ·subst eX
  obtain⟨rd,z,g,rfl,R,zl,qE,q⟩:=h
  obtain⟨dx,hp⟩:=id R
  obtain⟨_,g_MOST_FIGURES⟩:=T.mfi
  refine⟨_,(aB (aY (i:=1) aEc.nd rfl (Or.inl rfl) (bM (pv 0) rfl)) (aB (bK (mQ (iV (aO (pv 0) D_figure_is_ahead (hr.mo) aP))) (aD (dG NX.rs GT (hr.mo) rfl NX.mg bT rfl rfl hW (aA (bM (pv 0) rfl) aC))) aR) (aB (bK (aN cF (aO (pv 0) D_ahead (hr.mo) aP) aJ (aV _)) (aB (bY (bH (pv 0) D_pass_by (hr.mo) (cI rfl hW) (aA aJ aC))) (aD (aL aG))) aR) (aB (lF hP (PW.pt (mZ (iV (aO (pv 0) D_figure_is_ahead (hr.mo) aP)) (mG (aN yR (aU qC (bM (pv 0) rfl) (pv 1)) (eE rfl g_MOST_FIGURES) (aV _))))) (aD (gO (pv 0) (aU bJ (bM (pv 0) rfl) aG) rfl))) (aD (aL (cP aA6 rfl T.int boot_int (aA (cT aO3 (bM (pv 0) rfl) (bO (pv 1)) (bO (bM (pv 0) rfl))) aC)))))))),?_⟩
  refine⟨_,rfl,rd,CR,dx,_,_,rfl,hp,c.cl,c.na _ (by simp),rfl,?_⟩
  refine⟨_,rfl,rd,CR,dx,_,rfl,hp,rfl,rfl,rd,z,g,rfl,R,zl,_,rfl,?_⟩
  by_cases hd:pG z g=true
  ·rw [hd]
   refine fU ?_
   obtain⟨ch,hg,dch⟩:∃ch,z[g]? =some ch/\fO ch=true:=by
    unfold pG at hd
    cases hg:z[g]? with
    |none=>rw [hg]at hd;cases hd
    |some x=>rw [hg]at hd;exact⟨x,rfl,hd⟩
   refine⟨_,rfl,rd,CR,dx,_,rfl,hp,rfl,rfl,rd,z,g,rfl,R,zl,rfl,_,rfl,?_⟩
   rw [take1 hg]
   by_cases h0:ch=48
   ·subst h0
    refine bD (decide_eq_true (congrArg V.str (aK [48] rfl).symm)) ?_
    have pk:pas [48] z g= .ok (g+1):=by simp only [pas,if_pos hg]
    refine⟨_,rfl,rd,CR,dx,_,rfl,hp,rfl,rfl,rd,z,[48],g,uM rfl,R,zl,by decide,fun p e=>(by rw [pk]at e;cases e),fun g' e H1 k1 R1=>?_⟩
    rw [pk]at e
    cases e
    exact q 0 (g+1) (by unfold cC;rw [hg];simp only [if_pos dch,if_true]) H1 k1 R1
   ·refine aZ (decide_eq_false fun x=>by have:=cZ ((V.str.inj x).trans (aK [48] rfl));injection this with h1;exact h0 h1) ?_
    obtain⟨r1,r2,r3⟩:=zU 13 (z.drop g)
    generalize en:dX 13 (z.drop g)=n at r1 r2 r3
    have n0:0<n:=by rw [<-en,aQ hg,oM dch];omega
    have at_:∀i,(z.drop g)[i]? =z[g+i]? :=fun i=>List.getElem?_drop
    refine⟨fun k σ H1=>∃i,k=n-i/\i<=n/\σ=[some (.ref rd),some (cG g)]/\Kp rd H H1/\fL CR H1 rd z (g+i),⟨_,0,rfl,Nat.zero_le _,rfl,Kp.of (bA.refl H),dx,hp⟩,?_⟩
    rintro k σ H1 ⟨i,rfl,hi,rfl,k1,dx1,hp1⟩
    refine⟨_,rfl,rd,CR,dx1,_,rfl,hp1,rfl,rfl,rd,z,g+i,rfl,⟨dx1,hp1⟩,zl,_,rfl,?_⟩
    have fin2:i=n->cC z g= .ok (NumText.digitsVal ((z.drop g).take n),g+n):=fun _=>by
     unfold cC
     rw [hg]
     simp only [if_pos dch,if_neg h0,en]
    have tln0:((z.drop g).take n).length<=13:=by rw [List.length_take];omega
    have tne:(z.drop g).take n≠[]:=by rw [aQ hg];cases n with|zero=>omega|succ n=>simp
    have tal:NumText.AllDigits ((z.drop g).take n):=fun x hx=>by
     obtain⟨i,hi',e⟩:=List.mem_iff_getElem.mp hx
     have hi2:i<n:=by rw [List.length_take]at hi';omega
     obtain⟨c',e1,e2⟩:=r1 i hi2
     have e3:((z.drop g).take n)[i]? =some x:=by rw [List.getElem?_eq_getElem hi',e]
     rw [List.getElem?_take_of_lt hi2,e1]at e3
     cases e3
     exact of_decide_eq_true e2
    rcases Nat.lt_or_ge i n with lt|ge
    ·obtain⟨c',e1,e2⟩:=r1 i lt
     rw [at_]at e1
     rw [show pG z (g+i)=true by unfold pG;rw [e1];exact e2]
     refine nO ?_
     refine⟨_,rfl,rd,CR,dx1,_,_,rfl,hp1,c.cl,c.na _ (by simp),rfl,_,rfl,_,_,rfl,rfl,_,_,rfl,rfl,_,rfl,?_⟩
     refine bD (decide_eq_true (by show((g+i:Nat):Int)-(g:Int)<13;omega)) ?_
     refine⟨fun σ' H'=>∃m',m'<n-i/\_,fun _ _ z=>z,?_⟩
     refine⟨_,rfl,rd,CR,dx1,_,_,rfl,hp1,c.cl,c.na _ (by simp),rfl,_,_,rfl,rfl,_,rfl,rd,CR,dx1,_,rfl,hp1,c.cl,c.na _ (by simp),by show(2:Nat)<1000;decide,?_⟩
     exact⟨n-(i+1),by omega,i+1,rfl,lt,rfl,k1.trans aHa,dx1,aF⟩
    ·have ei:i=n:=by omega
     subst ei
     have qq:Q (.int (NumText.digitsVal ((z.drop g).take i):Nat)) H1:=q _ _ (fin2 rfl) H1 k1 ⟨dx1,hp1⟩
     cases hda:pG z (g+i)with
     |false=>
      refine fU ?_
      refine⟨_,rfl,rd,CR,dx1,_,_,rfl,hp1,c.cl,c.na _ (by simp),rfl,_,rfl,(g:Int),rfl,_,rfl,rd,CR,dx1,_,_,rfl,hp1,c.cl,c.na _ (by simp),rfl,((g+i:Nat):Int),rfl,z,g,g+i,rfl,rfl,rfl,by omega,bU zl,?_⟩
      rw [show g+i-g=i by omega]
      exact⟨(z.drop g).take i,rfl,tne,tal,by omega,qq⟩
     |true=>
      refine nO ?_
      refine⟨_,rfl,rd,CR,dx1,_,_,rfl,hp1,c.cl,c.na _ (by simp),rfl,_,rfl,_,_,rfl,rfl,_,_,rfl,rfl,_,rfl,?_⟩
      have i13:i=13:=by
       rcases Nat.lt_or_ge i 13 with l|g13
       ·unfold pG at hda
        cases hz:z[g+i]? with
        |none=>rw [hz]at hda;cases hda
        |some x=>
         rw [hz]at hda
         have:=r3 l x (by rw [at_];exact hz)
         have hda:fO x=true:=hda
         rw [this]at hda
         cases hda
       ·omega
      refine aZ (decide_eq_false (by show¬((g+i:Nat):Int)-(g:Int)<13;omega)) ?_
      refine⟨_,rfl,rd,CR,dx1,_,_,rfl,hp1,c.cl,c.na _ (by simp),rfl,_,rfl,(g:Int),rfl,_,rfl,rd,CR,dx1,_,_,rfl,hp1,c.cl,c.na _ (by simp),rfl,((g+i:Nat):Int),rfl,z,g,g+i,rfl,rfl,rfl,by omega,bU zl,?_⟩
      rw [show g+i-g=i by omega]
      exact⟨(z.drop g).take i,rfl,tne,tal,by omega,qq⟩
  ·rw [show pG z g=false by simpa using hd]
   refine nO ?_
   refine⟨_,rfl,rd,CR,dx,_,_,rfl,hp,c.cl,c.na _ (by simp),rfl,sz1,fun e he=>dF NX.cls NX.tk (bA.refl H) (fun H' d' s' a'=>qE g ?_ H' d' (Kp.of s') a') he⟩
   unfold cC
   unfold pG at hd
   cases hg:z[g]? with
   |none=>rfl
   |some x=>rw [hg]at hd;simp only [if_neg hd]
theorem aPa:aM ["self"] ["self"] (aH aFk):=bG
theorem aTn {f fT:Addr} {fd fdT:FuncData} (F:Fun K "read_number" "TermReader.read_number" aFk f fd) (c:Cf K CR FR) (D_ahead:DR P w K mg base CX0 1 CR "ahead" ["self"] (jE CR)) (D_pass_by:DR P w K mg base (CXe P w) 4 CR "pass_by" ["self","signs"] (mF CR CN)) (D_read_figures:DR P w K mg base (CXe P w) 6 CR "read_figures" ["self"] (aBj CR CN)) (NX:Nx K mg CN fT) (GT:bC P w K mg base CX0 1 fT fdT ["self","at"] (iC K)) (bT:Binds K fdT ["self","at"] []):bC P w K mg base (CXe P w) 8 f fd ["self"] (aB9 CR CN):=by
 refine Fun.okE F aPa (fun vs H Q E h=>?_) (fun X cdv A outer s H vs Q E eX hW hP hr h=>?_)
 ·obtain⟨rd,z,g,rfl,_⟩:=h
  rfl
 ·subst eX
  obtain⟨rd,z,g,rfl,R,zl,qE,q⟩:=h
  obtain⟨dx,hp⟩:=id R
  refine⟨_,(aB (bK (aN uJ (aO (pv 0) D_ahead (hr.mo) aP) aJ (aV _)) (aD (aL (aO (pv 0) D_read_figures (hr.mo) (cI rfl hW)))) aR) (aB (bY (bH (pv 0) D_pass_by (hr.mo) (cI rfl hW) (aA aJ aC))) (aB (bK (aN cF (aO (pv 0) D_ahead (hr.mo) aP) aJ (aV _)) (aD (dG NX.rs GT (hr.mo) rfl NX.mg bT rfl rfl hW (aA (bM (pv 0) rfl) aC))) aR) (aD (aL (aIu aBi (aO (pv 0) D_read_figures (hr.mo) (cI rfl hW)))))))),?_⟩
  refine⟨_,rfl,rd,CR,dx,_,rfl,hp,rfl,rfl,rd,z,g,rfl,R,zl,rfl,_,rfl,?_⟩
  by_cases hm:z[g]? =some 45
  ·rw [take1 hm]
   refine aEr (congrArg V.str (aK [45] rfl).symm) ?_
   have pk:pas [45] z g= .ok (g+1):=by simp only [pas,if_pos hm]
   refine⟨_,rfl,rd,CR,dx,_,rfl,hp,rfl,rfl,rd,z,[45],g,uM rfl,R,zl,by decide,fun p e=>(by rw [pk]at e;cases e),fun g' e H1 k1 R1=>?_⟩
   rw [pk]at e
   cases e
   obtain⟨dx1,hp1⟩:=id R1
   refine⟨_,rfl,rd,CR,dx1,_,rfl,hp1,rfl,rfl,rd,z,g+1,rfl,R1,zl,rfl,_,rfl,?_⟩
   by_cases h0:z[g+1]? =some 48
   ·rw [take1 h0]
    refine bD (decide_eq_true (congrArg V.str (aK [48] rfl).symm)) ?_
    refine⟨_,rfl,rd,CR,dx1,_,_,rfl,hp1,c.cl,c.na _ (by simp),rfl,sz1,fun e he=>dF NX.cls NX.tk (bA.refl H1) (fun H' d' s' a'=>qE (g+1) (by unfold dW;rw [if_pos hm,if_pos h0]) H' d' (k1.same s') a') he⟩
   ·have ne:tx ((z.drop (g+1)).take 1)≠tx [48]:=fun e=>by
     have e:=cZ e
     cases hg:z[g+1]? with
     |none=>rw [kJ hg]at e;cases e
     |some x=>rw [take1 hg]at e;injection e with e1;exact h0 (by rw [hg,e1])
    refine aZ (decide_eq_false fun e=>ne ((V.str.inj e).trans (aK [48] rfl))) ?_
    refine⟨_,rfl,rd,CR,dx1,_,rfl,hp1,rfl,rfl,rd,z,g+1,rfl,R1,zl,fun p e H' d' k' a'=>qE p (by unfold dW;rw [if_pos hm,if_neg h0,e]) H' d' (k1.trans k') a',fun m g' e H2 k2 R2=>?_⟩
    exact⟨_,rfl,q _ g' (by unfold dW;rw [if_pos hm,if_neg h0,e]) H2 (k1.trans k2) R2⟩
  ·have ne:tx ((z.drop g).take 1)≠tx [45]:=fun e=>by
    have e:=cZ e
    cases hg:z[g]? with
    |none=>rw [kJ hg]at e;cases e
    |some x=>rw [take1 hg]at e;injection e with e1;exact hm (by rw [hg,e1])
   refine bD (by rw [decide_eq_false fun e=>ne ((V.str.inj e).trans (aK [45] rfl))];rfl) ?_
   exact⟨_,rfl,rd,CR,dx,_,rfl,hp,rfl,rfl,rd,z,g,rfl,R,zl,fun p e H' d' k' a'=>qE p (by unfold dW;rw [if_neg hm,e]) H' d' k' a',fun m g' e H2 k2 R2=>q _ g' (by unfold dW;rw [if_neg hm,e]) H2 k2 R2⟩
theorem Kp.freeR {CR:Addr} {a q:Addr} {H H':Hp} {z:List Nat} {g:Nat} (k:Kp a H H') (R:fL CR H' a z g) (hq:H' q=none):H q=none:=by
 obtain⟨dx,e⟩:=R
 cases h:H q with
 |none=>rfl
 |some o=>
  have:q≠a:=fun z=>by rw [z,e]at hq;cases hq
  rw [k q o h this]at hq
  cases hq
theorem aSg {CR:Addr} {H:Hp} {rd q:Addr} {z:List Nat} {g:Nat} {o:HO} (R:fL CR H rd z g) (h:H q=some o) (no:∀dx fs,o≠ .ins CR dx fs):q≠rd:=fun e=>by
 obtain⟨dx,e2⟩:=R
 rw [e,e2]at h
 cases h
 exact no _ _ rfl
theorem fL.new {CR:Addr} {H:Hp} {rd q:Addr} {z:List Nat} {g:Nat} {o:HO} (R:fL CR H rd z g) (h:q≠rd):fL CR (upd H q o) rd z g:=let⟨dx,e⟩:=R;⟨dx,by rw [aX (Ne.symm h)];exact e⟩
def tkM (y:Int×List Int):Tm:= .take (.i y.1) (y.2.map .i)
inductive aE6 (N:Cn) (CR CN:Addr) (vs:List V) (H:Hp) (Q:VK) (E:XK):Prop
 |mk (rd:Addr) (z:List Nat) (g:Nat) (q0_:vs=[.ref rd]) (q1_:fL CR H rd z g) (q2_:z.length<=9000) (q3_:(∀p,fZ z g= .error p->Ref CN rd H E p)) (q4_:∀y g',fZ z g= .ok (y,g')->∀(v':V) (H':Hp),Kp rd H H'->fL CR H' rd z g'->eO N H' (tkM y) v'->Q v' H'):aE6 N CR CN vs H Q E
def aCr (N:Cn) (CR CN:Addr):Sp:=fun vs H Q E=>aE6 N CR CN vs H Q E
theorem yJ:aM ["self","back","steps"] ["self"] (aH aCl):=bG
theorem aNu {f:Addr} {fd:FuncData} (F:Fun K "read_take" "TermReader.read_take" aCl f fd) (D_ahead:DR P w K mg base CX0 1 CR "ahead" ["self"] (jE CR)) (D_pass_by:DR P w K mg base (CXe P w) 4 CR "pass_by" ["self","signs"] (mF CR CN)) (D_read_number:DR P w K mg base (CXe P w) 8 CR "read_number" ["self"] (aB9 CR CN)) (R_take:Mkr P w K mg base N.take "Take" ["self","back","steps"] (aCf K "back" "steps")) (c2:Cf K N.take ["back","steps"]) (T:Txt K mg):bC P w K mg base (CXe P w) 10 f fd ["self"] (aCr N CR CN):=by
 refine Fun.okE F yJ (fun vs H Q E h=>?_) (fun X cdv A outer s H vs Q E eX hW hP hr h=>?_)
 ·obtain⟨rd,z,g,rfl,_⟩:=h
  rfl
 ·subst eX
  obtain⟨rd,z,g,rfl,R,zl,qE,q⟩:=h
  obtain⟨_,g_MOST_STEPS_term_texts⟩:=T.mst2
  refine⟨_,(aB (bY (bH (pv 0) D_pass_by (hr.mo) (cI rfl hW) (aA aJ aC))) (aB (aY (i:=1) yJ.nd rfl (Or.inl rfl) (aO (pv 0) D_read_number (hr.mo) (cI rfl hW))) (aB (bY (bH (pv 0) D_pass_by (hr.mo) (cI rfl hW) (aA aJ aC))) (aB (aY (i:=2) yJ.nd rfl (Or.inl rfl) (cO (aA (aO (pv 0) D_read_number (hr.mo) (cI rfl hW)) aC))) (aB (lF hP (PW.pt (mZ (aN cF (aO (pv 0) D_ahead (hr.mo) aP) aJ (aV _)) (mG (aN yR (bN dM (by rfl) T.len PySem.boot_len (aA (pv 2) aC)) (eE rfl g_MOST_STEPS_term_texts) (aV _))))) (aB (bY (bH (pv 0) D_pass_by (hr.mo) (cI rfl hW) (aA aJ aC))) (aD (bY (lU PySem.F.plainAttrs_list PySem.F.slot_list_append PySem.F.type_list_append sO (pv 2) (aA (aO (pv 0) D_read_number (hr.mo) (cI rfl hW)) aC)))))) (aB (bY (bH (pv 0) D_pass_by (hr.mo) (cI rfl hW) (aA aJ aC))) (aD (aL (nQ R_take (hr.mo) rfl aP (aA (pv 1) (aA (cP pJ rfl T.tuple boot_tuple (aA (pv 2) aC)) aC))))))))))),?_⟩
  obtain⟨dx,hp⟩:=id R
  refine⟨_,rfl,rd,CR,dx,_,rfl,hp,rfl,rfl,rd,z,[91],g,uM rfl,R,zl,by decide,fun p e H' d' k' a'=>qE p (by unfold fZ;rw [e]) H' d' k' a',fun g1 t1 H1 k1 R1=>?_⟩
  obtain⟨dx1,hp1⟩:=id R1
  refine⟨_,rfl,rd,CR,dx1,_,rfl,hp1,rfl,rfl,rd,z,g1,rfl,R1,zl,fun p e H' d' k' a'=>qE p (by unfold fZ;rw [t1];dsimp only;rw [e]) H' d' (k1.trans k') a',fun b g2 t2 H2 k2 R2=>?_⟩
  obtain⟨dx2,hp2⟩:=id R2
  have k02:=k1.trans k2
  refine⟨_,rfl,rd,CR,dx2,_,rfl,hp2,rfl,rfl,rd,z,[32],g2,uM rfl,R2,zl,by decide,fun p e H' d' k' a'=>qE p (by unfold fZ;rw [t1];dsimp only;rw [t2];dsimp only;rw [e]) H' d' (k02.trans k') a',fun g3 t3 H3 k3 R3=>?_⟩
  obtain⟨dx3,hp3⟩:=id R3
  have k03:=k02.trans k3
  refine⟨_,rfl,rd,CR,dx3,_,rfl,hp3,rfl,rfl,rd,z,g3,rfl,R3,zl,fun p e H' d' k' a'=>qE p (by unfold fZ;rw [t1];dsimp only;rw [t2];dsimp only;rw [t3];dsimp only;rw [e]) H' d' (k03.trans k') a',fun s0 g4 t4 H4 k4 R4=>?_⟩
  have k04:=k03.trans k4
  have up:fZ z g=match dR 2 z g4 with| .error p=> .error p| .ok (l,g5)=>(match pas [93] z g5 with| .error p=> .error p| .ok g6=> .ok ((b,s0::l),g6)):=by
   unfold fZ;rw [t1];dsimp only;rw [t2];dsimp only;rw [t3];dsimp only;rw [t4]
   try (dsimp only;cases dR 2 z g4 with
    |error e=>rfl
    |ok v=>dsimp only;cases pas [93] z v.2<;>rfl)
  refine⟨sz1,fun D nD=>?_⟩
  have Dr:D≠rd:=fun e=>by obtain⟨_,e4⟩:=id R4;rw [e,e4]at nD;cases nD
  have nH:=k04.freeR R4 nD
  refine⟨fun k σ H5=>∃(i p:Nat) (l:List Int),k=2-i/\i<=2/\l.length=i/\σ=[some (.ref rd),some (.int b),some (.ref D)]/\Kp rd H H5/\fL CR H5 rd z p/\H5 D=some (.lst ((s0::l).map V.int))/\dR 2 z g4=(match dR (2-i) z p with| .error e=> .error e| .ok (l2,g')=> .ok (l++l2,g')),⟨_,0,g4,[],rfl,by decide,rfl,rfl,k04.upd nH,R4.new Dr,aF,?_⟩,?_⟩
  ·show dR 2 z g4=_
   cases dR 2 z g4 with
   |error e=>rfl
   |ok v=>rfl
  rintro k σ H5 ⟨i,p,l,rfl,hi,ll,rfl,k5,R5,hD,hm⟩
  obtain⟨dx5,hp5⟩:=id R5
  refine⟨_,rfl,rd,CR,dx5,_,rfl,hp5,rfl,rfl,rd,z,p,rfl,R5,zl,rfl,_,rfl,?_⟩
  have out:dR (2-i) z p= .ok ([],p)->fZ z g=match pas [93] z p with| .error p=> .error p| .ok g6=> .ok ((b,s0::l),g6):=fun e=>by
   rw [up,hm,e]
   dsimp only
   rw [List.append_nil]
  by_cases h32:z[p]? =some 32
  ·rw [take1 h32]
   refine bD (decide_eq_true (congrArg V.str (aK [32] rfl).symm)) ?_
   refine⟨_,rfl,D,_,rfl,.inl (SqL.of hD),_,_,rfl,rfl,_,rfl,?_⟩
   have le:((s0::l).map V.int).length=i+1:=by rw [List.length_map,List.length_cons,ll]
   rw [le]
   by_cases i2:i<2
   ·refine bD (decide_eq_true (by show((i+1:Nat):Int)<3;omega)) ?_
    refine⟨fun σ' H'=>∃m',m'<2-i/\_,fun _ _ z=>z,?_⟩
    obtain⟨j,ej⟩:∃j,2-i=j+1:=⟨2-(i+1),by omega⟩
    have ej2:2-(i+1)=j:=by omega
    have pk:pas [32] z p= .ok (p+1):=by simp only [pas,if_pos h32]
    refine⟨_,rfl,rd,CR,dx5,_,rfl,hp5,rfl,rfl,rd,z,[32],p,uM rfl,R5,zl,by decide,fun p e=>(by rw [pk]at e;cases e),fun g' e H6 k6 R6=>?_⟩
    rw [pk]at e
    cases e
    obtain⟨dx6,hp6⟩:=id R6
    have hD6:H6 D=some (.lst ((s0::l).map V.int)):=k6 _ _ hD Dr
    refine⟨_,rfl,.inl ⟨rfl,_,SqL.of hD6⟩,_,rfl,rd,CR,dx6,_,rfl,hp6,rfl,rfl,rd,z,p+1,rfl,R6,zl,fun p' e H' d' k' a'=>qE p' ?_ H' d' ((k5.trans k6).trans k') a',fun n g' e H7 k7 R7=>?_⟩
    ·rw [up,hm,ej,dR,if_pos h32,e]
    have hD7:H7 D=some (.lst ((s0::l).map V.int)):=k7 _ _ hD6 Dr
    refine⟨D,_,_,rfl,rfl,hD7,small (by rw [le];omega),?_⟩
    refine⟨2-(i+1),by omega,i+1,g',l++[n],rfl,i2,by rw [List.length_append,ll];rfl,rfl,((k5.trans k6).trans k7).upd nH,R7.new Dr,?_,?_⟩
    ·rw [aF]
     show some (HO.lst ((s0::l).map V.int++[V.int n]))=_
     rw [<-List.cons_append,List.map_append]
     rfl
    ·rw [hm,ej,dR,if_pos h32,e,ej2]
     dsimp only
     cases dR j z g' with
     |error e=>rfl
     |ok v=>dsimp only;rw [List.append_assoc];rfl
   ·refine aZ (decide_eq_false (by show¬((i+1:Nat):Int)<3;omega)) ?_
    have o:=out (by rw [show 2-i=0 by omega];rfl)
    refine⟨_,rfl,rd,CR,dx5,_,rfl,hp5,rfl,rfl,rd,z,[93],p,uM rfl,R5,zl,by decide,fun p' e H' d' k' a'=>qE p' (by rw [o,e]) H' d' (k5.trans k') a',fun g6 e H6 k6 R6=>?_⟩
    have hD6:=k6 _ _ hD Dr
    refine⟨_,rfl,_,rfl,D,_,rfl,.inl ⟨SqL.of hD6,fun u nu=>?_⟩⟩
    generalize e7:upd H6 u _=H7
    obtain⟨s7,e8⟩:=bF nu e7
    refine fun x dx nx nd ne=>⟨x,N.take,dx,.int b,.ref u,rfl,aF,c2,rfl,?_⟩
    have sN:bA H7 (upd (upd (upd (upd H7 dx (.own x)) x (.ins N.take dx [])) x (.ins N.take dx [("back",.int b)])) x (.ins N.take dx [("back",.int b),("steps",.ref u)])):=cN nx (aDs nx nd)
    refine q (b,s0::l) g6 (by rw [o,e]) _ _ (((k5.trans k6).same s7).same sN) ((R6.same s7).same sN) ⟨x,dx,_,rfl,aF,u,rfl,?_⟩
    rw [show((s0::l).map Nb.i).map Nb.v=(s0::l).map V.int by rw [List.map_map];rfl]
    exact sN _ _ e8
  ·have ne:tx ((z.drop p).take 1)≠tx [32]:=fun e=>by
    have e:=cZ e
    cases hg:z[p]? with
    |none=>rw [kJ hg]at e;cases e
    |some x=>rw [take1 hg]at e;injection e with e1;exact h32 (by rw [hg,e1])
   refine aZ (decide_eq_false fun e=>ne ((V.str.inj e).trans (aK [32] rfl))) ?_
   have o:=out (by cases hj:2-i with|zero=>rfl|succ j=>rw [dR,if_neg h32])
   refine⟨_,rfl,rd,CR,dx5,_,rfl,hp5,rfl,rfl,rd,z,[93],p,uM rfl,R5,zl,by decide,fun p' e H' d' k' a'=>qE p' (by rw [o,e]) H' d' (k5.trans k') a',fun g6 e H6 k6 R6=>?_⟩
   have hD6:=k6 _ _ hD Dr
   refine⟨_,rfl,_,rfl,D,_,rfl,.inl ⟨SqL.of hD6,fun u nu=>?_⟩⟩
   generalize e7:upd H6 u _=H7
   obtain⟨s7,e8⟩:=bF nu e7
   refine fun x dx nx nd ne=>⟨x,N.take,dx,.int b,.ref u,rfl,aF,c2,rfl,?_⟩
   have sN:bA H7 (upd (upd (upd (upd H7 dx (.own x)) x (.ins N.take dx [])) x (.ins N.take dx [("back",.int b)])) x (.ins N.take dx [("back",.int b),("steps",.ref u)])):=cN nx (aDs nx nd)
   refine q (b,s0::l) g6 (by rw [o,e]) _ _ (((k5.trans k6).same s7).same sN) ((R6.same s7).same sN) ⟨x,dx,_,rfl,aF,u,rfl,?_⟩
   rw [show((s0::l).map Nb.i).map Nb.v=(s0::l).map V.int by rw [List.map_map];rfl]
   exact sN _ _ e8
def Words (K:W.Frag) (aW:Addr):Prop:=∀H:Hp,SqT K H aW (wls.map fun l=>V.str (tx l))
inductive aE5 (CR CN:Addr) (vs:List V) (H:Hp) (Q:VK) (E:XK):Prop
 |mk (rd:Addr) (z:List Nat) (g:Nat) (q0_:vs=[.ref rd]) (q1_:fL CR H rd z g) (q2_:z.length<=9000) (q3_:(∀p,cW 4 [] z g= .error p->Ref CN rd H E p)) (q4_:∀x g',cW 4 [] z g= .ok (x,g')->∀H',Kp rd H H'->fL CR H' rd z g'->Q (.str (tx x)) H'):aE5 CR CN vs H Q E
def vI (CR CN:Addr):Sp:=fun vs H Q E=>aE5 CR CN vs H Q E
theorem aS3 (x:List Nat) (ls:List (List Nat)):inV (.str (tx x)) (ls.map fun l=>V.str (tx l))=decide (x∈ls):=by
 rw [Bool.eq_iff_iff,decide_eq_true_iff]
 unfold inV
 rw [List.any_eq_true]
 constructor
 ·rintro⟨y,hy,e⟩
  obtain⟨l,hl,rfl⟩:=List.mem_map.mp hy
  have:tx l=tx x:=by simpa [eqV]using e
  rw [<-cZ this]
  exact hl
 ·intro h
  exact⟨_,List.mem_map.mpr ⟨x,h,rfl⟩,by simp [eqV]⟩
theorem aS8 {X:Cx} {K:W.Frag} {o e:Expr} {es:List Expr} {to:TE} {t:TA} {name:Str} {apos cpos:Pos} {T id:String} {r:V->List V->Hp->VK->Prop} (h:X.K=K) (pa:PlainAttrs T) (slot:Slot T name id) (hty:typeOf (.builtin id)=pure (.type "method_descriptor")) (hm:MtR X id r) (ho:PE X o to) (ha:PA X (e::es) t)
  (hbase:attributeBase o name X.env (eval o X.env)=eval o X.env:=by rfl)
  (hfew:((backTo cpos (starEach (e::es) X.env)).all (fun x=> !x.1) && (backToKw cpos (keywordEach [] X.env)).all (fun x=>x.1.isSome)
   && decide ((e::es).length+([]:List Keyword).length+(if([]:List Keyword).isEmpty then 0 else 1)<30))=true:=by rfl)
  (hline:(apos.endLine==cpos.line)=true:=by rfl) (hs:starEach (e::es) X.env=(false,eval e X.env)::starEach es X.env:=by rfl) (hplain:(backTo cpos (starEach es X.env)).any (·.1)=false:=by rfl):PE X (.Call (.Attribute o name apos) (e::es) [] cpos) (tBM K T r to t):=by
 subst h
 exact lU pa slot hty hm ho ha hbase hfew hline hs hplain
theorem pZ {i j:Str} {l m:List Nat} {H:Hp} {Q:VK} (h1:i=tx l) (h2:j=tx m) (hz:l.length+m.length<=9000) (q:Q (.str (tx (l++m))) H):aO0 (.str i) (.str j) H Q:=by
 subst h1 h2
 exact⟨_,_,rfl,rfl,by rw [cJ,cJ];exact bU hz,by rw [tV];exact q⟩
theorem iU {i j:Str} {l m:List Nat} {H:Hp} {Q:VK} (h1:i=tx l) (h2:j=tx m) (hz:(l++m).length<=8000) (q:Q (.str (tx (l++m))) H):aO0 (.str i) (.str j) H Q:=pZ h1 h2 (by rw [List.length_append]at hz;omega) q
theorem kY {a b:List Nat} (h:(a++b).length<=8000):a.length<=8000:=by rw [List.length_append]at h;omega
theorem aRe:∀x∈wls,∀c∈x,c<128:=by decide
theorem aPy:∀x∈wls,x.length<=4:=by decide
abbrev aQi:List Str:=["self","begun","longer"]
theorem rD:aM ["self","begun","longer"] ["self"] (aH vV):=bG
theorem aRf {f aW fT:Addr} {fd fdT:FuncData} (F:Fun K "read_word" "TermReader.read_word" vV f fd) (c:Cf K CR FR) (D_ahead:DR P w K mg base CX0 1 CR "ahead" ["self"] (jE CR)) (D_pass_by:DR P w K mg base (CXe P w) 4 CR "pass_by" ["self","signs"] (mF CR CN)) (g_WORDS:mg "WORDS"=some (.ref aW)) (W_:Words K aW) (T:Txt K mg) (NX:Nx K mg CN fT) (GT:bC P w K mg base CX0 1 fT fdT ["self","at"] (iC K)) (bT:Binds K fdT ["self","at"] []):bC P w K mg base (CXe P w) 6 f fd ["self"] (vI CR CN):=by
 refine Fun.okE F rD (fun vs H Q E h=>?_) (fun X cdv A outer s H vs Q E eX hW hP hr h=>?_)
 ·obtain⟨rd,z,g,rfl,_⟩:=h
  rfl
 ·subst eX
  obtain⟨rd,z,g,rfl,R,zl,qE,q⟩:=h
  refine⟨_,(aB (aY (i:=1) rD.nd rfl (Or.inl rfl) aJ) (aB (lF hP (aN aC0 (pv 1) (aHo rfl g_WORDS) rfl) (aB (aY (i:=2) rD.nd rfl (Or.inr rfl) (aU dH (pv 1) (aO (pv 0) D_ahead (hr.mo) aP))) (aB (bK (PW.pt (aFb (aN cF (pv 2) (pv 1) (aV _)) (yS (mQ (iV (bN aMa rfl T.any boot_any (aA (pM (own:=["word"]) (cap:=[("longer",2)]) (g:=gR 0) (aH vV) aQi rfl rfl (fun x h=>dZ h) (by decide+kernel) rfl (aCq (aHo rfl g_WORDS)) (fun cl C s2 H2 fp=>(dC (i:=0) (show(["word","longer"]:List Str).Nodup by decide+kernel) rfl (Or.inl rfl) (Or.inr rfl))) (fun cl C s2 H2 fp=>(aS8 (K:=K) rfl PySem.F.plainAttrs_str PySem.F.slot_str_startswith PySem.F.type_str_startswith aJt (pv 0) (aA (pv 1) aC)))) aC))))))) (aD (dG NX.rs GT (hr.mo) rfl NX.mg bT rfl rfl hW (aA (bM (pv 0) rfl) aC))) aR) (aB (bY (bH (pv 0) D_pass_by (hr.mo) (cI rfl hW) (aA (aO (pv 0) D_ahead (hr.mo) aP) aC))) (aD (aY (i:=1) rD.nd rfl (Or.inl rfl) (pv 2))))))) (aD (aL (pv 1))))),?_⟩
  refine⟨fun k σ H1=>∃(b:List Nat) (v2:Option V),k=4-b.length/\σ=[some (.ref rd),some (.str (tx b)),v2]/\(∃x∈wls,x.take b.length=b)/\Kp rd H H1/\fL CR H1 rd z (g+b.length)/\cW 4 [] z g=cW (4-b.length) b z (g+b.length),⟨_,[],_,rfl,by rw [show Str.ofString ""=tx []from aK [] rfl];rfl,⟨[43],by decide,rfl⟩,Kp.of (bA.refl H),R,rfl⟩,?_⟩
  rintro k σ H1 ⟨b,v2,rfl,rfl,⟨x,hx,xb⟩,k1,R1,hw⟩
  obtain⟨dx1,hp1⟩:=id R1
  refine⟨_,rfl,aW,_,rfl,.inr (W_ H1),rfl,rfl,_,rfl,?_⟩
  rw [aS3]
  by_cases hb:b∈wls
  ·refine aZ (by rw [decide_eq_true hb];rfl) ?_
   exact⟨_,rfl,q b _ (by rw [hw,lK hb]) H1 k1 R1⟩
  ·have b4:b.length<4:=by
    rcases Nat.lt_or_ge b.length 4 with l|ge
    ·exact l
    ·have:=aPy x hx
     rw [List.take_of_length_le (by omega)]at xb
     exact absurd (xb▸hx) hb
   obtain⟨j,ej⟩:∃j,4-b.length=j+1:=⟨3-b.length,by omega⟩
   refine bD (by rw [decide_eq_false hb];rfl) ?_
   refine⟨fun σ' H'=>∃m',m'<4-b.length/\_,fun _ _ z=>z,?_⟩
   refine⟨_,rfl,_,rfl,rd,CR,dx1,_,rfl,hp1,rfl,rfl,rd,z,g+b.length,rfl,R1,zl,?_⟩
   cases hg:z[g+b.length]? with
   |none=>
    rw [kJ hg]
    refine pZ rfl rfl (by show _+0<=9000;omega) ?_
    rw [List.append_nil]
    refine⟨_,rfl,_,rfl,rfl,_,rfl,?_⟩
    refine bD (decide_eq_true rfl) ?_
    refine⟨_,rfl,rd,CR,dx1,_,_,rfl,hp1,c.cl,c.na _ (by simp),rfl,sz1,fun e he=>dF NX.cls NX.tk (bA.refl H1) (fun H' d' s' a'=>qE (g+b.length) (by rw [hw,ej,cW,if_neg hb,hg]) H' d' (k1.same s') a') he⟩
   |some ch=>
    rw [take1 hg]
    refine pZ rfl rfl (by show _+1<=9000;omega) ?_
    refine⟨_,rfl,_,rfl,rfl,_,rfl,?_⟩
    refine aZ (decide_eq_false fun e=>?_) ?_
    ·have:=congrArg List.length (cZ (V.str.inj e))
     rw [List.length_append]at this
     simp at this
    generalize ey:b++[ch]=y
    have xt:y.length=b.length+1:=by rw [<-ey,List.length_append];rfl
    refine⟨aW,rfl,⟨_,W_ H1⟩,fun D hD=>?_⟩
    refine qT (K:=K) (a:=aW) (xs:=wls.map fun l=>V.str (tx l)) (fun j acc σ H3=>(∃v0,σ=[v0,some (.str (tx y))])/\bA H1 H3/\H3 D=some (.lst acc)/\acc=((wls.take j).map fun l=>decide (l.take y.length=y)).map V.bl) ⟨⟨_,rfl⟩,sameNew hD,aF,rfl⟩ (fun j acc σ H3 _ _=>W_ H3) ?_ ?_
    ·rintro j v acc σ H3 hj hv ⟨⟨v0,rfl⟩,s3,hD3,rfl⟩
     obtain⟨l,rfl,hl⟩:=oX hv
     refine⟨_,rfl,rfl,_,rfl,l,y,rfl,rfl,?_⟩
     refine pH hD3 (small (by rw [List.length_map,List.length_map,List.length_take];have:wls.length=7:=rfl;omega)) hj ⟨⟨_,rfl⟩,cN hD s3,aF,?_⟩
     rw [List.take_succ,hl,List.map_append,List.map_append]
     rfl
    ·rintro acc σ H3 ⟨_,s3,hD3,rfl⟩
     rw [List.length_map,List.take_length]at hD3
     refine⟨D,_,rfl,SqL.of hD3,rfl,?_⟩
     have ea:(wls.map fun l=>decide (l.take y.length=y)).any id=wls.any fun w=>decide (w.take (b.length+1)=b++[ch]):=by
      rw [List.any_map,xt,ey]
      rfl
     rw [ea]
     refine⟨_,rfl,?_⟩
     have R3:=R1.same s3
     obtain⟨dx3,hp3⟩:=id R3
     cases an:wls.any fun w=>decide (w.take (b.length+1)=b++[ch])with
     |false=>
      refine nO ?_
      refine⟨_,rfl,rd,CR,dx3,_,_,rfl,hp3,c.cl,c.na _ (by simp),rfl,sz1,fun e he=>dF NX.cls NX.tk (bA.refl H3) (fun H' d' s' a'=>qE (g+b.length) ?_ H' d' ((k1.same s3).same s') a') he⟩
      rw [hw,ej,cW,if_neg hb,hg]
      dsimp only
      rw [an,if_neg Bool.false_ne_true]
     |true=>
      refine fU ?_
      obtain⟨x2,hx2,e2⟩:=List.any_eq_true.mp an
      have e2:=of_decide_eq_true e2
      have hc:ch<128:=aRe x2 hx2 ch (List.mem_of_mem_take (i:=b.length+1) (by rw [e2];simp))
      have pk:pas [ch] z (g+b.length)= .ok (g+b.length+1):=by simp only [pas,if_pos hg]
      refine⟨_,rfl,rd,CR,dx3,_,rfl,hp3,rfl,rfl,_,rfl,rd,CR,dx3,_,rfl,hp3,rfl,rfl,rd,z,g+b.length,rfl,R3,zl,?_⟩
      rw [take1 hg]
      refine⟨rd,z,[ch],g+b.length,rfl,R3,zl,fun c' hc'=>by rw [List.mem_singleton.mp hc'];exact hc,fun p e=>(by rw [pk]at e;cases e),fun g' e H4 k4 R4=>?_⟩
      rw [pk]at e
      cases e
      refine⟨_,rfl,4-y.length,by omega,y,some (.str (tx y)),rfl,rfl,⟨x2,hx2,by rw [xt, <-ey];exact e2⟩,(k1.same s3).trans k4,?_,?_⟩
      ·rw [xt, <-Nat.add_assoc];exact R4
      ·rw [hw,ej,iR hb hg an,ey,xt,show 4-(b.length+1)=j by omega,Nat.add_assoc]
def aEv (N:Cn) (CR:Addr):Prop:=∀t:Tm,cls N t≠CR
theorem pN {N:Cn} {CR:Addr} {H H':Hp} {rd p dx:Addr} {z:List Nat} {g:Nat} {t:Tm} {fs:List (Str×V)} (n:aEv N CR) (R:fL CR H rd z g) (k:Kp rd H H') (h:H p=some (.ins (cls N t) dx fs)):H' p=some (.ins (cls N t) dx fs):=k _ _ h (aSg R h fun _ _ e=>by injection e with e1;exact n t e1)
theorem bZ.kp {N:Cn} {CR:Addr} {H H':Hp} {rd:Addr} {z:List Nat} {g:Nat} (n:aEv N CR) (R:fL CR H rd z g) (s:Kp rd H H'):∀{t:Tm} {fs:List (Str×V)},bZ N H fs t->bZ N H' fs t
 | .num _,_,h=>h
 | .take _ _,_,⟨q,e,h⟩=>⟨q,e,s _ _ h (aSg R h fun _ _ e=>by cases e)⟩
 | .rest _ _,_,⟨p,dx,gs,e,h,h2⟩=>⟨p,dx,gs,e,pN n R s h,h2.kp n R s⟩
 | .cho _ _ _,_,⟨p,dp,ps,q,dq,qs,r,dr,rs,e,⟨h1,g1⟩,⟨h2,g2⟩,h3,g3⟩=>⟨p,dp,ps,q,dq,qs,r,dr,rs,e,⟨pN n R s h1,g1.kp n R s⟩,⟨pN n R s h2,g2.kp n R s⟩,pN n R s h3,g3.kp n R s⟩
 | .bin _ _ _,_,⟨p,dp,ps,q,dq,qs,e,⟨h1,g1⟩,h2,g2⟩=>⟨p,dp,ps,q,dq,qs,e,⟨pN n R s h1,g1.kp n R s⟩,pN n R s h2,g2.kp n R s⟩
theorem eO.kp {N:Cn} {CR:Addr} {H H':Hp} {rd:Addr} {z:List Nat} {g:Nat} (n:aEv N CR) (R:fL CR H rd z g) (s:Kp rd H H') {t:Tm} {v:V} (h:eO N H t v):eO N H' t v:=let⟨p,dx,fs,e,h1,h2⟩:=h;⟨p,dx,fs,e,pN n R s h1,h2.kp n R s⟩
inductive aAp (N:Cn) (vs:List V) (H:Hp) (Q:VK) (z3_:XK):Prop
 |mk (k:Fin 5) (a b:Tm) (va vb:V) (q0_:vs=[.str (opn k),va,vb]) (q1_:eO N H a va) (q2_:eO N H b vb) (q3_:∀(v':V) (H':Hp),bA H H'->eO N H' (.bin k a b) v'->Q v' H'):aAp N vs H Q z3_
def yV (N:Cn):Sp:=fun vs H Q z3_=>aAp N vs H Q z3_
structure aDv (P:Program) (w:World) (K:W.Frag) (mg:Str->Option Value) (base:Heap) (N:Cn):Prop where
 num:Mkr P w K mg base N.num "Number" ["self","value"] (aUy K "value")
 take:Mkr P w K mg base N.take "Take" ["self","back","steps"] (aCf K "back" "steps")
 rest:Mkr P w K mg base N.rest "Rest" ["self","one","by"] (aCf K "one" "by")
 cho:Mkr P w K mg base N.cho "Chosen" ["self","test","one","other"] (aU9 K "test" "one" "other")
 bin:∀k,Mkr P w K mg base (N.bin k) (bnm k) ["self","one","other"] (aCf K "one" "other")
 c1:Cf K N.num ["value"]
 c2:Cf K N.take ["back","steps"]
 c3:Cf K N.rest ["one","by"]
 c4:Cf K N.cho ["test","one","other"]
 c5:∀k,Cf K (N.bin k) ["one","other"]
def kOf (x:List Nat):Fin 5:=if x=[43]then 0 else if x=[45]then 1 else if x=[42]then 2 else if x=[109,105,110]then 3 else 4
def TmM:Mk_ Tm:=⟨fun n=> .num (.i n),fun b ss=> .take (.i b) (ss.map .i),fun t m=> .rest t (.i (m:Int)),.cho,fun x a b=> .bin (kOf x) a b⟩
theorem aHw {x:List Nat} (h:x∈wls) (h1:x≠[114,101,115,116]) (h2:x≠[63]):tx x=opn (kOf x):=by
 simp only [wls,List.mem_cons,List.not_mem_nil,or_false]at h
 rcases h with rfl|rfl|rfl|rfl|rfl|rfl|rfl
 ·exact(aK [43] rfl).symm
 ·exact(aK [45] rfl).symm
 ·exact(aK [42] rfl).symm
 ·exact(aK [109,105,110] rfl).symm
 ·exact(aK [109,97,120] rfl).symm
 ·exact absurd rfl h1
 ·exact absurd rfl h2
theorem sY:∀{k:Nat} {b z x:List Nat} {g g':Nat},cW k b z g= .ok (x,g')->x∈wls
 |0,b,z,x,g,g',h=>by
  rw [cW]at h
  split at h
  ·cases h;assumption
  ·cases h
 |k+1,b,z,x,g,g',h=>by
  rw [cW]at h
  split at h
  ·cases h;assumption
  ·split at h
   ·cases h
   ·split at h
    ·exact sY h
    ·cases h
inductive aGz (N:Cn) (CR CN:Addr) (d:Nat) (vs:List V) (H:Hp) (Q:VK) (E:XK):Prop
 |mk (rd:Addr) (z:List Nat) (g wi:Nat) (q0_:vs=[.ref rd,cG wi]) (q1_:fL CR H rd z g) (q2_:z.length<=9000) (q3_:wi+d=12) (q4_:(∀p,bQ TmM z d g= .error p->Ref CN rd H E p)) (q5_:∀t g',bQ TmM z d g= .ok (t,g')->∀(v':V) (H':Hp),Kp rd H H'->fL CR H' rd z g'->eO N H' t v'->Q v' H'):aGz N CR CN d vs H Q E
def wR (N:Cn) (CR CN:Addr) (d:Nat):Sp:=fun vs H Q E=>aGz N CR CN d vs H Q E
inductive xP (N:Cn) (CR CN:Addr) (d:Nat) (vs:List V) (H:Hp) (Q:VK) (E:XK):Prop
 |mk (rd:Addr) (z:List Nat) (g wi:Nat) (q0_:vs=[.ref rd,cG wi]) (q1_:fL CR H rd z g) (q2_:z.length<=9000) (q3_:wi+d=12) (q4_:z[g]? =some 40) (q5_:(∀p,bQ TmM z d g= .error p->Ref CN rd H E p)) (q6_:∀t g',bQ TmM z d g= .ok (t,g')->∀(v':V) (H':Hp),Kp rd H H'->fL CR H' rd z g'->eO N H' t v'->Q v' H'):xP N CR CN d vs H Q E
def tM (N:Cn) (CR CN:Addr) (d:Nat):Sp:=fun vs H Q E=>xP N CR CN d vs H Q E
inductive aA3 (N:Cn) (CR CN:Addr) (d:Nat) (vs:List V) (H:Hp) (Q:VK) (E:XK):Prop
 |mk (rd:Addr) (z:List Nat) (g:Nat) (a:Tm) (x:List Nat) (va:V) (wi:Nat) (q0_:vs=[.ref rd,va,.str (tx x),cG wi]) (q1_:fL CR H rd z g) (q2_:z.length<=9000) (q3_:wi+d=12) (q4_:x∈wls) (q5_:eO N H a va) (q6_:(∀p,lM TmM (bQ TmM z d) a x z g= .error p->Ref CN rd H E p)) (q7_:∀t g',lM TmM (bQ TmM z d) a x z g= .ok (t,g')->∀(v':V) (H':Hp),Kp rd H H'->fL CR H' rd z g'->eO N H' t v'->Q v' H'):aA3 N CR CN d vs H Q E
def aEt (N:Cn) (CR CN:Addr) (d:Nat):Sp:=fun vs H Q E=>aA3 N CR CN d vs H Q E
theorem aT6:aM ["word","one","other"] ["word","one","other"] (aH aNq):=bG
theorem aJ7 {f:Addr} {fd:FuncData} (F:Fun K "pair_by" "pair_by" aNq f fd) (M:aDv P w K mg base N):bC P w K mg base CX0 3 f fd ["word","one","other"] (yV N):=by
 refine F.ok aT6 (fun vs H Q E h=>?_) (fun cdv A outer s H vs Q E hr h=>?_)
 ·obtain⟨k,a,b,va,vb,rfl,_⟩:=h
  rfl
 ·obtain⟨k,a,b,va,vb,rfl,ta,tb,q⟩:=h
  have R_bin:=M.bin
  refine⟨_,(aB (bK (aN cF (pv 0) aJ (aV _)) (aD (aL (nQ (R_bin 0) (hr.mo) rfl aP (aA (pv 1) (aA (pv 2) aC))))) aR) (aB (bK (aN cF (pv 0) aJ (aV _)) (aD (aL (nQ (R_bin 1) (hr.mo) rfl aP (aA (pv 1) (aA (pv 2) aC))))) aR) (aB (bK (aN cF (pv 0) aJ (aV _)) (aD (aL (nQ (R_bin 2) (hr.mo) rfl aP (aA (pv 1) (aA (pv 2) aC))))) aR) (aB (bK (aN cF (pv 0) aJ (aV _)) (aD (aL (nQ (R_bin 3) (hr.mo) rfl aP (aA (pv 1) (aA (pv 2) aC))))) aR) (aD (aL (nQ (R_bin 4) (hr.mo) rfl aP (aA (pv 1) (aA (pv 2) aC))))))))),?_⟩
  match k,q with
  |0,q=>
   refine⟨_,rfl,rfl,_,rfl,bD (decide_eq_true rfl) ?_⟩
   exact⟨_,rfl,_,rfl,nU (M.c5 0) ta tb (bA.refl H) q⟩
  |1,q=>
   refine⟨_,rfl,rfl,_,rfl,aZ sF ?_⟩
   refine⟨_,rfl,rfl,_,rfl,bD (decide_eq_true rfl) ?_⟩
   exact⟨_,rfl,_,rfl,nU (M.c5 1) ta tb (bA.refl H) q⟩
  |2,q=>
   refine⟨_,rfl,rfl,_,rfl,aZ sF ?_⟩
   refine⟨_,rfl,rfl,_,rfl,aZ sF ?_⟩
   refine⟨_,rfl,rfl,_,rfl,bD (decide_eq_true rfl) ?_⟩
   exact⟨_,rfl,_,rfl,nU (M.c5 2) ta tb (bA.refl H) q⟩
  |3,q=>
   refine⟨_,rfl,rfl,_,rfl,aZ sF ?_⟩
   refine⟨_,rfl,rfl,_,rfl,aZ sF ?_⟩
   refine⟨_,rfl,rfl,_,rfl,aZ sF ?_⟩
   refine⟨_,rfl,rfl,_,rfl,bD (decide_eq_true rfl) ?_⟩
   exact⟨_,rfl,_,rfl,nU (M.c5 3) ta tb (bA.refl H) q⟩
  |4,q=>
   refine⟨_,rfl,rfl,_,rfl,aZ sF ?_⟩
   refine⟨_,rfl,rfl,_,rfl,aZ sF ?_⟩
   refine⟨_,rfl,rfl,_,rfl,aZ sF ?_⟩
   refine⟨_,rfl,rfl,_,rfl,aZ sF ?_⟩
   exact⟨_,rfl,_,rfl,nU (M.c5 4) ta tb (bA.refl H) q⟩
theorem wY:aM ["self","one","word","within","other"] ["self","one","word","within"] (aH oZ):=bG
theorem aKp {f:Addr} {fd:FuncData} {d:Nat} (F:Fun K "read_behind" "TermReader.read_behind" oZ f fd) (n:aEv N CR) (M:aDv P w K mg base N) (D_pass_by:DR P w K mg base (CXe P w) 4 CR "pass_by" ["self","signs"] (mF CR CN)) (D_read_figures:DR P w K mg base (CXe P w) 6 CR "read_figures" ["self"] (aBj CR CN)) (D_read_part:DR P w K mg base (CXe P w) (6*d+12) CR "read_part" ["self","within"] (wR N CR CN d)) (c_pairBy:Cal P w K mg base CX0 3 "pair_by" ["word","one","other"] (yV N)):bC P w K mg base (CXe P w) (6*d+14) f fd ["self","one","word","within"] (aEt N CR CN d):=by
 refine Fun.okE F wY (fun vs H Q E h=>?_) (fun X cdv A outer s H vs Q E eX hW hP hr h=>?_)
 ·obtain⟨rd,z,g,a,x,va,wi,rfl,_⟩:=h
  rfl
 ·subst eX
  obtain⟨rd,z,g,a,x,va,wi,rfl,R,zl,hw,xw,ta,qE,q⟩:=h
  have R_rest:=M.rest
  have R_cho:=M.cho
  obtain⟨dx,hp⟩:=id R
  refine⟨_,(aB (bK (aN cF (pv 2) aJ (aV _)) (aD (aL (nQ R_rest (hr.mo) rfl aP (aA (pv 1) (aA (aO (pv 0) D_read_figures (hr.mo) (cI rfl hW)) aC))))) aR) (aB (aY (i:=4) wY.nd rfl (Or.inl rfl) (bH (pv 0) D_read_part (hr.mo) (cI rfl hW) (aA (pv 3) aC))) (aB (bK (aN cF (pv 2) aJ (aV _)) (aB (bY (bH (pv 0) D_pass_by (hr.mo) (cI rfl hW) (aA aJ aC))) (aD (aL (nQ R_cho (hr.mo) rfl aP (aA (pv 1) (aA (pv 4) (aA (bH (pv 0) D_read_part (hr.mo) (cI rfl hW) (aA (pv 3) aC)) aC))))))) aR) (aD (aL (cV c_pairBy (hr.mo) rfl aP (aA (pv 2) (aA (pv 1) (aA (pv 4) aC))))))))),?_⟩
  by_cases h1:x=[114,101,115,116]
  ·have eb:lM TmM (bQ TmM z d) a x z g=(match cC z g with| .error p=> .error p| .ok (m,g1)=> .ok (TmM.rest a m,g1)):=by
    unfold lM
    rw [if_pos h1]
    try (cases cC z g<;>rfl)
   refine⟨_,rfl,rfl,_,rfl,bD (decide_eq_true (by rw [h1];exact congrArg V.str (aK [114,101,115,116] rfl).symm)) ?_⟩
   refine⟨_,rfl,_,rfl,rd,CR,dx,_,rfl,hp,rfl,rfl,rd,z,g,rfl,R,zl,fun p e H' d' k' a'=>qE p (by rw [eb,e]) H' d' k' a',fun m g1 e H1 k1 R1=>?_⟩
   obtain⟨p1,d1,f1,rfl,h1',g1'⟩:=ta.kp n R k1
   refine fun x dx nx nd ne=>⟨x,N.rest,dx,.ref p1,_,rfl,aF,M.c3,rfl,?_⟩
   have sN:bA H1 (upd (upd (upd (upd H1 dx (.own x)) x (.ins N.rest dx [])) x (.ins N.rest dx [("one",.ref p1)])) x (.ins N.rest dx [("one",.ref p1),("by",.int (m:Int))])):=cN nx (aDs nx nd)
   exact q (.rest a (.i (m:Int))) g1 (by rw [eb,e];rfl) _ _ (k1.same sN) (R1.same sN) ⟨x,dx,_,rfl,aF,p1,d1,f1,rfl,sN _ _ h1',g1'.same sN⟩
  ·refine⟨_,rfl,rfl,_,rfl,aZ (decide_eq_false fun e=>h1 (cZ ((V.str.inj e).trans (aK [114,101,115,116] rfl)))) ?_⟩
   refine⟨_,rfl,rd,CR,dx,_,rfl,hp,rfl,rfl,_,rfl,rd,z,g,wi,rfl,R,zl,hw,fun p e H' d' k' a'=>qE p (by unfold lM;rw [if_neg h1,e]) H' d' k' a',fun tb g1 e1 v2 H2 k2 R2 u2=>?_⟩
   by_cases h2:x=[63]
   ·refine⟨_,rfl,rfl,_,rfl,bD (decide_eq_true (by rw [h2];exact congrArg V.str (aK [63] rfl).symm)) ?_⟩
    obtain⟨dx2,hp2⟩:=id R2
    refine⟨_,rfl,rd,CR,dx2,_,rfl,hp2,rfl,rfl,rd,z,[32,58,32],g1,uM rfl,R2,zl,by decide,fun p e H' d' k' a'=>qE p (by unfold lM;rw [if_neg h1,e1];dsimp only;rw [if_pos h2,e]) H' d' (k2.trans k') a',fun g2 e2 H3 k3 R3=>?_⟩
    obtain⟨dx3,hp3⟩:=id R3
    refine⟨_,rfl,_,rfl,_,rfl,rd,CR,dx3,_,rfl,hp3,rfl,rfl,_,rfl,rd,z,g2,wi,rfl,R3,zl,hw,fun p e H' d' k' a'=>qE p (by unfold lM;rw [if_neg h1,e1];dsimp only;rw [if_pos h2,e2];dsimp only;rw [e]) H' d' ((k2.trans k3).trans k') a',fun tc g3 e3 v3 H4 k4 R4 u3=>?_⟩
    obtain⟨p1,d1,f1,rfl,h1',g1'⟩:=((ta.kp n R k2).kp n R2 k3).kp n R3 k4
    obtain⟨p2,d2,f2,rfl,h2',g2'⟩:=(u2.kp n R2 k3).kp n R3 k4
    obtain⟨p3,d3,f3,rfl,h3',g3'⟩:=u3
    refine fun x dx nx nd ne=>⟨x,N.cho,dx,.ref p1,.ref p2,.ref p3,rfl,aF,M.c4,rfl,?_⟩
    have sN:bA H4 (upd (upd (upd (upd (upd H4 dx (.own x)) x (.ins N.cho dx [])) x (.ins N.cho dx [("test",.ref p1)])) x (.ins N.cho dx [("test",.ref p1),("one",.ref p2)])) x (.ins N.cho dx [("test",.ref p1),("one",.ref p2),("other",.ref p3)])):=cN nx (cN nx (aDs nx nd))
    exact q (.cho a tb tc) g3 (by unfold lM;rw [if_neg h1,e1];dsimp only;rw [if_pos h2,e2];dsimp only;rw [e3];rfl) _ _ (((k2.trans k3).trans k4).same sN) (R4.same sN) ⟨x,dx,_,rfl,aF,p1,d1,f1,p2,d2,f2,p3,d3,f3,rfl,⟨sN _ _ h1',g1'.same sN⟩,⟨sN _ _ h2',g2'.same sN⟩,sN _ _ h3',g3'.same sN⟩
   ·refine⟨_,rfl,rfl,_,rfl,aZ (decide_eq_false fun e=>h2 (cZ ((V.str.inj e).trans (aK [63] rfl)))) ?_⟩
    refine⟨_,rfl,_,rfl,_,rfl,kOf x,a,tb,va,v2,congrArg (fun s=>[V.str s,va,v2]) (aHw xw h1 h2),ta.kp n R k2,u2,fun v' H' s' u'=>?_⟩
    exact q (.bin (kOf x) a tb) g1 (by unfold lM;rw [if_neg h1,e1];dsimp only;rw [if_neg h2];rfl) v' H' (k2.same s') (R2.same s') u'
theorem fY:aM ["self","within","one","word","term"] ["self","within"] (aH nZ):=bG
theorem aJm {f fT:Addr} {fd fdT:FuncData} {k:Nat} (F:Fun K "read_bracket" "TermReader.read_bracket" nZ f fd) (c:Cf K CR FR) (hk:2<=k) (D_pass_by:DR P w K mg base (CXe P w) 4 CR "pass_by" ["self","signs"] (mF CR CN)) (D_read_word:DR P w K mg base (CXe P w) 6 CR "read_word" ["self"] (vI CR CN)) (T:Txt K mg) (NX:Nx K mg CN fT) (GT:bC P w K mg base CX0 1 fT fdT ["self","at"] (iC K)) (bT:Binds K fdT ["self","at"] [])
  (D_read_part:DR P w K mg base (CXe P w) (k+4) CR "read_part" ["self","within"] (fun _ _ _ _=>False)) (D_read_behind:DR P w K mg base (CXe P w) (k+4) CR "read_behind" ["self","one","word","within"] (fun _ _ _ _=>False)):bC P w K mg base (CXe P w) (k+8) f fd ["self","within"] (tM N CR CN 0):=by
 refine Fun.okE F fY (fun vs H Q E h=>?_) (fun X cdv A outer s H vs Q E eX hW hP hr h=>?_)
 ·obtain⟨rd,z,g,wi,rfl,_⟩:=h
  rfl
 ·subst eX
  obtain⟨rd,z,g,wi,rfl,R,zl,hw,h40,qE,q⟩:=h
  obtain⟨dx,hp⟩:=id R
  obtain⟨_,g_MOST_WITHIN⟩:=T.mwi
  refine⟨_,(aB (bK (aN cF (pv 1) (eE rfl g_MOST_WITHIN) (aV _)) (aD (dG NX.rs GT (hr.mo) rfl NX.mg bT rfl rfl hW (aA (bM (pv 0) rfl) aC))) aR) (aB (bY (bH (pv 0) D_pass_by (hr.mo) (cI rfl hW) (aA aJ aC))) (aB (aY (i:=2) fY.nd rfl (Or.inl rfl) (bH (pv 0) D_read_part (hr.mo) (cI rfl hW) (aA (aU bJ (pv 1) aG) aC))) (aB (bY (bH (pv 0) D_pass_by (hr.mo) (cI rfl hW) (aA aJ aC))) (aB (aY (i:=3) fY.nd rfl (Or.inl rfl) (aO (pv 0) D_read_word (hr.mo) (cI rfl hW))) (aB (bY (bH (pv 0) D_pass_by (hr.mo) (cI rfl hW) (aA aJ aC))) (aB (aY (i:=4) fY.nd rfl (Or.inl rfl) (bH (pv 0) D_read_behind (hr.mo) (cI rfl hW) (aA (pv 2) (aA (pv 3) (aA (aU bJ (pv 1) aG) aC))))) (aB (bY (bH (pv 0) D_pass_by (hr.mo) (cI rfl hW) (aA aJ aC))) (aD (aL (pv 4))))))))))),?_⟩
  refine⟨_,rfl,rfl,_,rfl,bD (decide_eq_true (by rw [show wi=12 by omega];rfl)) ?_⟩
  exact⟨_,rfl,rd,CR,dx,_,_,rfl,hp,c.cl,c.na _ (by simp),rfl,sz1,fun e he=>dF NX.cls NX.tk (bA.refl H) (fun H' d' s' a'=>qE g (by rw [bQ,if_pos h40]) H' d' (Kp.of s') a') he⟩
theorem aM6 {f fT:Addr} {fd fdT:FuncData} {d:Nat} (F:Fun K "read_bracket" "TermReader.read_bracket" nZ f fd) (n:aEv N CR) (c:Cf K CR FR) (D_pass_by:DR P w K mg base (CXe P w) 4 CR "pass_by" ["self","signs"] (mF CR CN)) (D_read_word:DR P w K mg base (CXe P w) 6 CR "read_word" ["self"] (vI CR CN)) (D_read_part:DR P w K mg base (CXe P w) (6*d+12) CR "read_part" ["self","within"] (wR N CR CN d)) (D_read_behind:DR P w K mg base (CXe P w) (6*d+14) CR "read_behind" ["self","one","word","within"] (aEt N CR CN d)) (T:Txt K mg) (NX:Nx K mg CN fT) (GT:bC P w K mg base CX0 1 fT fdT ["self","at"] (iC K)) (bT:Binds K fdT ["self","at"] []):bC P w K mg base (CXe P w) (6*d+16) f fd ["self","within"] (tM N CR CN (d+1)):=by
 refine Fun.okE F fY (fun vs H Q E h=>?_) (fun X cdv A outer s H vs Q E eX hW hP hr h=>?_)
 ·obtain⟨rd,z,g,wi,rfl,_⟩:=h
  rfl
 ·subst eX
  obtain⟨rd,z,g,wi,rfl,R,zl,hw,h40,qE,q⟩:=h
  obtain⟨dx,hp⟩:=id R
  obtain⟨_,g_MOST_WITHIN⟩:=T.mwi
  refine⟨_,(aB (bK (aN cF (pv 1) (eE rfl g_MOST_WITHIN) (aV _)) (aD (dG NX.rs GT (hr.mo) rfl NX.mg bT rfl rfl hW (aA (bM (pv 0) rfl) aC))) aR) (aB (bY (bH (pv 0) D_pass_by (hr.mo) (cI rfl hW) (aA aJ aC))) (aB (aY (i:=2) fY.nd rfl (Or.inl rfl) (bH (pv 0) D_read_part (hr.mo) (cI rfl hW) (aA (aU bJ (pv 1) aG) aC))) (aB (bY (bH (pv 0) D_pass_by (hr.mo) (cI rfl hW) (aA aJ aC))) (aB (aY (i:=3) fY.nd rfl (Or.inl rfl) (aO (pv 0) D_read_word (hr.mo) (cI rfl hW))) (aB (bY (bH (pv 0) D_pass_by (hr.mo) (cI rfl hW) (aA aJ aC))) (aB (aY (i:=4) fY.nd rfl (Or.inl rfl) (bH (pv 0) D_read_behind (hr.mo) (cI rfl hW) (aA (pv 2) (aA (pv 3) (aA (aU bJ (pv 1) aG) aC))))) (aB (bY (bH (pv 0) D_pass_by (hr.mo) (cI rfl hW) (aA aJ aC))) (aD (aL (pv 4))))))))))),?_⟩
  refine⟨_,rfl,rfl,_,rfl,aZ (decide_eq_false fun e=>by have:(wi:Int)=12:=V.int.inj e;omega) ?_⟩
  have pk:pas [40] z g= .ok (g+1):=by simp only [pas,if_pos h40]
  refine⟨_,rfl,rd,CR,dx,_,rfl,hp,rfl,rfl,rd,z,[40],g,uM rfl,R,zl,by decide,fun p e=>(by rw [pk]at e;cases e),fun g' e H1 k1 R1=>?_⟩
  rw [pk]at e
  cases e
  obtain⟨dx1,hp1⟩:=id R1
  refine⟨_,rfl,rd,CR,dx1,_,rfl,hp1,rfl,rfl,_,rfl,_,_,rfl,rfl,rd,z,g+1,wi+1,rfl,R1,zl,by omega,fun p e H' d' k' a'=>qE p (by rw [bQ,if_pos h40,e]) H' d' (k1.trans k') a',fun a g1 e1 va H2 k2 R2 u2=>?_⟩
  obtain⟨dx2,hp2⟩:=id R2
  have k02:=k1.trans k2
  refine⟨_,rfl,rd,CR,dx2,_,rfl,hp2,rfl,rfl,rd,z,[32],g1,uM rfl,R2,zl,by decide,fun p e H' d' k' a'=>qE p (by rw [bQ,if_pos h40,e1];dsimp only;rw [e]) H' d' (k02.trans k') a',fun g2 e2 H3 k3 R3=>?_⟩
  obtain⟨dx3,hp3⟩:=id R3
  have k03:=k02.trans k3
  refine⟨_,rfl,rd,CR,dx3,_,rfl,hp3,rfl,rfl,rd,z,g2,rfl,R3,zl,fun p e H' d' k' a'=>qE p (by rw [bQ,if_pos h40,e1];dsimp only;rw [e2];dsimp only;rw [e]) H' d' (k03.trans k') a',fun x g3 e3 H4 k4 R4=>?_⟩
  obtain⟨dx4,hp4⟩:=id R4
  have k04:=k03.trans k4
  refine⟨_,rfl,rd,CR,dx4,_,rfl,hp4,rfl,rfl,rd,z,[32],g3,uM rfl,R4,zl,by decide,fun p e H' d' k' a'=>qE p (by rw [bQ,if_pos h40,e1];dsimp only;rw [e2];dsimp only;rw [e3];dsimp only;rw [e]) H' d' (k04.trans k') a',fun g4 e4 H5 k5 R5=>?_⟩
  obtain⟨dx5,hp5⟩:=id R5
  have k05:=k04.trans k5
  have u5:=((u2.kp n R2 k3).kp n R3 k4).kp n R4 k5
  refine⟨_,rfl,rd,CR,dx5,_,rfl,hp5,rfl,rfl,_,rfl,_,rfl,_,rfl,_,_,rfl,rfl,rd,z,g4,a,x,va,wi+1,rfl,R5,zl,by omega,sY e3,u5,fun p e H' d' k' a'=>qE p (by rw [bQ,if_pos h40,e1];dsimp only;rw [e2];dsimp only;rw [e3];dsimp only;rw [e4];dsimp only;rw [e]) H' d' (k05.trans k') a',fun t g5 e5 v' H6 k6 R6 u6=>?_⟩
  obtain⟨dx6,hp6⟩:=id R6
  have k06:=k05.trans k6
  refine⟨_,rfl,rd,CR,dx6,_,rfl,hp6,rfl,rfl,rd,z,[41],g5,uM rfl,R6,zl,by decide,fun p e H' d' k' a'=>qE p (by rw [bQ,if_pos h40,e1];dsimp only;rw [e2];dsimp only;rw [e3];dsimp only;rw [e4];dsimp only;rw [e5];dsimp only;rw [e]) H' d' (k06.trans k') a',fun g6 e6 H7 k7 R7=>?_⟩
  exact⟨_,rfl,q t g6 (by rw [bQ,if_pos h40,e1];dsimp only;rw [e2];dsimp only;rw [e3];dsimp only;rw [e4];dsimp only;rw [e5];dsimp only;rw [e6]) v' H7 (k06.trans k7) R7 (u6.kp n R6 k7)⟩
theorem aLt:aM ["self","within"] ["self","within"] (aH vO):=bG
theorem aG3 {f:Addr} {fd:FuncData} {d:Nat} (F:Fun K "read_part" "TermReader.read_part" vO f fd) (M:aDv P w K mg base N) (D_ahead:DR P w K mg base CX0 1 CR "ahead" ["self"] (jE CR)) (D_read_number:DR P w K mg base (CXe P w) 8 CR "read_number" ["self"] (aB9 CR CN)) (D_read_take:DR P w K mg base (CXe P w) 10 CR "read_take" ["self"] (aCr N CR CN)) (D_read_bracket:DR P w K mg base (CXe P w) (6*d+10) CR "read_bracket" ["self","within"] (tM N CR CN d)):bC P w K mg base (CXe P w) (6*d+12) f fd ["self","within"] (wR N CR CN d):=by
 refine Fun.okE F aLt (fun vs H Q E h=>?_) (fun X cdv A outer s H vs Q E eX hW hP hr h=>?_)
 ·obtain⟨rd,z,g,wi,rfl,_⟩:=h
  rfl
 ·subst eX
  obtain⟨rd,z,g,wi,rfl,R,zl,hw,qE,q⟩:=h
  obtain⟨dx,hp⟩:=id R
  have R_num:=M.num
  refine⟨_,(aB (bK (aN cF (aO (pv 0) D_ahead (hr.mo) aP) aJ (aV _)) (aD (aL (bH (pv 0) D_read_bracket (hr.mo) (cI rfl hW) (aA (pv 1) aC)))) aR) (aB (bK (aN cF (aO (pv 0) D_ahead (hr.mo) aP) aJ (aV _)) (aD (aL (aO (pv 0) D_read_take (hr.mo) (cI rfl hW)))) aR) (aD (aL (nQ R_num (hr.mo) rfl aP (aA (aO (pv 0) D_read_number (hr.mo) (cI rfl hW)) aC)))))),?_⟩
  refine⟨_,rfl,rd,CR,dx,_,rfl,hp,rfl,rfl,rd,z,g,rfl,R,zl,rfl,_,rfl,?_⟩
  by_cases h40:z[g]? =some 40
  ·rw [take1 h40]
   refine bD (decide_eq_true (congrArg V.str (aK [40] rfl).symm)) ?_
   exact⟨_,rfl,rd,CR,dx,_,rfl,hp,rfl,rfl,_,rfl,rd,z,g,wi,rfl,R,zl,hw,h40,fun p e H' d' k' a'=>qE p e H' d' k' a',fun t g' e v' H' k' R' u'=>q t g' e v' H' k' R' u'⟩
  ·have lf:bQ TmM z d g=iZ TmM z g:=by cases d<;>rw [bQ,if_neg h40]
   have ne:∀x:Nat,z[g]? ≠some x->tx ((z.drop g).take 1)≠tx [x]:=fun x hx e=>by
    have e:=cZ e
    cases hg:z[g]? with
    |none=>rw [kJ hg]at e;cases e
    |some y=>rw [take1 hg]at e;injection e with e1;exact hx (by rw [hg,e1])
   refine aZ (decide_eq_false fun e=>ne 40 h40 ((V.str.inj e).trans (aK [40] rfl))) ?_
   refine⟨_,rfl,rd,CR,dx,_,rfl,hp,rfl,rfl,rd,z,g,rfl,R,zl,rfl,_,rfl,?_⟩
   by_cases h91:z[g]? =some 91
   ·rw [take1 h91]
    refine bD (decide_eq_true (congrArg V.str (aK [91] rfl).symm)) ?_
    exact⟨_,rfl,rd,CR,dx,_,rfl,hp,rfl,rfl,rd,z,g,rfl,R,zl,fun p e H' d' k' a'=>qE p (by rw [lf];unfold iZ;rw [if_pos h91,e]) H' d' k' a',fun y g' e v' H' k' R' u'=>q (tkM y) g' (by rw [lf];unfold iZ;rw [if_pos h91,e];rfl) v' H' k' R' u'⟩
   ·refine aZ (decide_eq_false fun e=>ne 91 h91 ((V.str.inj e).trans (aK [91] rfl))) ?_
    refine⟨_,rfl,rd,CR,dx,_,rfl,hp,rfl,rfl,rd,z,g,rfl,R,zl,fun p e H' d' k' a'=>qE p (by rw [lf];unfold iZ;rw [if_neg h91,e]) H' d' k' a',fun m g' e H1 k1 R1=>?_⟩
    refine fun x dx nx nd ne=>⟨x,N.num,dx,.int m,rfl,aF,M.c1,rfl,?_⟩
    exact q (.num (.i m)) g' (by rw [lf];unfold iZ;rw [if_neg h91,e];rfl) _ _ (k1.same (aDs nx nd)) (R1.same (aDs nx nd)) ⟨x,dx,_,rfl,aF,rfl⟩
inductive aSi (K:W.Frag) (vs:List V) (H:Hp) (Q:VK) (z3_:XK):Prop
 |mk (p C dx:Addr) (x:V) (q0_:vs=[.ref p,x]) (q1_:H p=some (.ins C dx [])) (q2_:Cf K C FR) (q3_:Q .non (upd (upd H p (.ins C dx [("text",x)])) p (.ins C dx [("text",x),("gone",cG 0)]))):aSi K vs H Q z3_
def aSs (K:W.Frag):Sp:=fun vs H Q z3_=>aSi K vs H Q z3_
def aAq (K:W.Frag) (N:Cn) (CN:Addr):Sp:=fun vs H Q E=>(∃z:List Nat,vs=[.str (tx z)]/\z.length<=8000/\(∀p,bB [.tm 12] z 0= .error p->∀H' dx,bA H H'->zJ H' dx (cG p)->E (.ref CN) (some dx) H')/\∀t,bQ TmM z 12 0= .ok (t,z.length)->∀(v':V) (H':Hp),bA H H'->eO N H' t v'->Q v' H')∨
 ∃(x:V) (t:Value),vs=[x]/\pW K H x t/\W.kitOne K t (.type "str")=some false/\∀H' dx,bA H H'->zJ H' dx .non->E (.ref CN) (some dx) H'
theorem aLs:aM ["self","text"] ["self","text"] (aH aBm):=bG
theorem aJa {f:Addr} {fd:FuncData} (F:Fun K "__init__" "TermReader.__init__" aBm f fd):bC P w K mg base CX0 1 f fd ["self","text"] (aSs K):=by
 refine F.ok aLs (fun vs H Q E h=>?_) (fun cdv A outer s H vs Q E hr h=>?_)
 ·obtain⟨p,C,dx,x,rfl,_⟩:=h
  rfl
 ·obtain⟨p,C,dx,x,rfl,hp,c,q⟩:=h
  refine⟨_,(aB (gO (pv 0) (pv 1) rfl) (aD (gO (pv 0) aG rfl))),?_⟩
  refine⟨_,rfl,_,rfl,p,C,dx,_,rfl,hp,c.cl,c.na _ (by simp),by decide,?_⟩
  exact⟨_,rfl,p,C,dx,_,rfl,aF,c.cl,c.na _ (by simp),by show(1:Nat)<1000;decide,q⟩
theorem lW:aM ["text","reader","term"] ["text"] (aH wM):=bG
theorem aGw {f fT:Addr} {fd fdT:FuncData} (F:Fun K "read_written" "read_written" wM f fd) (R_rd:Mkr P w K mg base CR "TermReader" ["self","text"] (aSs K)) (c:Cf K CR FR) (n:aEv N CR) (D_read_part:DR P w K mg base (CXe P w) 84 CR "read_part" ["self","within"] (wR N CR CN 12)) (T:Txt K mg) (NX:Nx K mg CN fT) (GT:bC P w K mg base CX0 1 fT fdT ["self","at"] (iC K)) (bT:Binds K fdT ["self","at"] []):bC P w K mg base (CXe P w) 86 f fd ["text"] (aAq K N CN):=by
 refine Fun.okE F lW (fun vs H Q E h=>?_) (fun X cdv A outer s H vs Q E eX hW hP hr h=>?_)
 ·rcases h with ⟨z,rfl,_⟩|⟨x,t,rfl,_⟩<;>rfl
 ·subst eX
  rcases h with ⟨z,rfl,zl,qE,q⟩|⟨x,t,rfl,ty,no,qE⟩
  ·refine⟨_,(aB (bK (mQ (iV (bN iM rfl T.isinstance boot_isinstance (aA (pv 0) (aA (aEz rfl T.str boot_str) aC))))) (aD (dG NX.rs GT (hr.mo) rfl NX.mg bT rfl rfl hW (aA jK aC))) aR) (aB (aY (i:=1) lW.nd rfl (Or.inl rfl) (nQ R_rd (hr.mo) rfl aP (aA (pv 0) aC))) (aB (aY (i:=2) lW.nd rfl (Or.inl rfl) (bH (pv 1) D_read_part (hr.mo) (cI rfl hW) (aA aG aC))) (aB (bK (aN uJ (bM (pv 1) rfl) (bN fD (by rfl) T.len PySem.boot_len (aA (pv 0) aC)) (aV _)) (aD (dG NX.rs GT (hr.mo) rfl NX.mg bT rfl rfl hW (aA (bM (pv 1) rfl) aC))) aR) (aD (aL (pv 2))))))),?_⟩
   refine⟨_,rfl,_,"str",_,true,rfl,.str _,rfl,_,rfl,?_⟩
   refine fU ?_
   refine⟨_,rfl,fun x dx nx nd ne=>⟨x,CR,dx,_,rfl,aF,c,rfl,?_⟩⟩
   have sN:bA H (upd (upd (upd (upd H dx (.own x)) x (.ins CR dx [])) x (.ins CR dx [("text",.str (tx z))])) x (.ins CR dx [("text",.str (tx z)),("gone",cG 0)])):=cN nx (aDs nx nd)
   revert sN
   generalize eH:upd (upd (upd (upd H dx (.own x)) x (.ins CR dx [])) x (.ins CR dx [("text",.str (tx z))])) x (.ins CR dx [("text",.str (tx z)),("gone",cG 0)])=H1
   intro sN
   have hp1:H1 x=some (.ins CR dx [("text",.str (tx z)),("gone",cG 0)]):=by rw [<-eH];exact aF
   have s0:∀{H2:Hp},Kp x H1 H2->bA H H2:=fun k2 b o e=>k2 b o (sN b o e) fun z=>by rw [z,nx]at e;cases e
   have mw:=wD (M:=TmM) (z:=z) (d:=12)
   refine⟨_,rfl,x,CR,dx,_,rfl,hp1,rfl,rfl,x,z,0,0,rfl,⟨dx,hp1⟩,by omega,rfl,fun p e H' d' k' a'=>qE p (by rw [mw,e]) H' d' (s0 k') a',fun t g' e v' H2 k2 R2 u2=>?_⟩
   obtain⟨dx2,hp2⟩:=id R2
   rw [e]at mw
   dsimp only at mw
   refine⟨_,rfl,x,CR,dx2,_,_,rfl,hp2,c.cl,c.na _ (by simp),rfl,_,rfl,_,rfl,bU (by rw [cJ];omega),?_⟩
   refine⟨rfl,_,rfl,?_⟩
   rw [cJ]
   by_cases eg:g'=z.length
   ·subst eg
    refine aEr rfl ?_
    exact⟨_,rfl,q t e v' H2 (s0 k2) u2⟩
   ·rw [if_neg eg]at mw
    refine bD (by rw [decide_eq_false fun z=>eg (by have:=V.int.inj z;omega)];rfl) ?_
    exact⟨_,rfl,x,CR,dx2,_,_,rfl,hp2,c.cl,c.na _ (by simp),rfl,sz1,fun e he=>dF NX.cls NX.tk (bA.refl H2) (fun H' d' s' a'=>qE g' mw H' d' ((s0 k2).trans s') a') he⟩
  ·refine⟨_,(aB (bK (mQ (iV (bN iM rfl T.isinstance boot_isinstance (aA (pv 0) (aA (aEz rfl T.str boot_str) aC))))) (aD (dG NX.rs GT (hr.mo) rfl NX.mg bT rfl rfl hW (aA jK aC))) aR) (aB (aY (i:=1) lW.nd rfl (Or.inl rfl) (nQ R_rd (hr.mo) rfl aP (aA (pv 0) aC))) (aB (aY (i:=2) lW.nd rfl (Or.inl rfl) (bH (pv 1) D_read_part (hr.mo) (cI rfl hW) (aA aG aC))) (aB (bK (aN uJ (bM (pv 1) rfl) (bN fD (by rfl) T.len PySem.boot_len (aA (pv 0) aC)) (aV _)) (aD (dG NX.rs GT (hr.mo) rfl NX.mg bT rfl rfl hW (aA (bM (pv 1) rfl) aC))) aR) (aD (aL (pv 2))))))),?_⟩
   refine⟨_,rfl,_,"str",t,false,rfl,ty,no,_,rfl,?_⟩
   refine nO ?_
   exact⟨sz1,fun e he=>dF NX.cls NX.tk (bA.refl H) (fun H' d' s' a'=>qE H' d' s' a') he⟩
def dg (m:Nat):List Nat:=(Nat.toDigits 10 m).map Char.toNat
theorem aNn:∀d:Nat,d<10->(Nat.digitChar d).toNat=48+d:=by decide
theorem rK {m:Nat} (h:m<10):dg m=[48+m]:=by
 unfold dg
 rw [Nat.toDigits_of_lt_base h]
 show [(Nat.digitChar m).toNat]=_
 rw [aNn m h]
theorem aHb {m:Nat} (h:10<=m):dg m=dg (m / 10)++[48+m % 10]:=by
 have hm:m % 10<10:=Nat.mod_lt m (by decide)
 have t:Nat.toDigits 10 (m / 10)++Nat.toDigits 10 (m % 10)=Nat.toDigits 10 (10*(m / 10)+m % 10):=Nat.toDigits_append_toDigits (by decide) (by omega) hm
 rw [Nat.div_add_mod]at t
 unfold dg
 rw [<-t,List.map_append,Nat.toDigits_of_lt_base hm]
 show _++[(Nat.digitChar (m % 10)).toNat]=_
 rw [aNn _ hm]
theorem aTd (m:Nat):∀c∈dg m,fO c=true:=by
 induction m using Nat.strongRecOn with
 |_ m ih=>
  by_cases h:m<10
  ·rw [rK h]
   intro c hc
   rw [List.mem_singleton.mp hc]
   exact decide_eq_true (by omega)
  ·rw [aHb (by omega)]
   intro c hc
   rcases List.mem_append.mp hc with z|z
   ·exact ih (m / 10) (by omega) c z
   ·rw [List.mem_singleton.mp z];exact decide_eq_true (by omega)
theorem aPn (m:Nat) (h:0<m):∃c r,dg m=c::r/\49<=c/\c<=57:=by
 induction m using Nat.strongRecOn with
 |_ m ih=>
  by_cases h10:m<10
  ·exact⟨_,_,rK h10,by omega,by omega⟩
  ·obtain⟨c,r,e,h1,h2⟩:=ih (m / 10) (by omega) (by omega)
   exact⟨c,r++[48+m % 10],by rw [aHb (by omega),e];rfl,h1,h2⟩
theorem aFt:∀(k m:Nat),m<10 ^ (k+1)->(dg m).length<=k+1
 |0,m,h=>by rw [rK (by simpa using h)];exact Nat.le_refl _
 |k+1,m,h=>by
  by_cases h10:m<10
  ·rw [rK h10];show 1<=_;omega
  ·rw [aHb (by omega),List.length_append]
   have:=aFt k (m / 10) (by rw [Nat.pow_succ]at h;omega)
   show _+1<=_
   omega
theorem mX (m:Nat):itx (m:Int)=dg m:=W.KIN.signs_num m
theorem vP (m:Nat):itx (Int.negSucc m)=45::dg (m+1):=by
 have e:=W.KIN.signs_num (m+1)
 have h:toString (Int.negSucc m)="-"++toString (((m+1:Nat):Int)):=rfl
 unfold itx
 rw [h]
 have:∀a b:String,(Str.ofString (a++b)).cps.toList=(Str.ofString a).cps.toList++(Str.ofString b).cps.toList:=fun a b=>by
  rw [signs_ofString,signs_ofString,signs_ofString,String.toList_append,List.map_append]
 rw [this,e]
 rfl
theorem iI {n:Int} (h:n.natAbs<10 ^ 13):(itx n).length<=14:=by
 cases n with
 |ofNat m=>rw [show Int.ofNat m=(m:Int)from rfl,mX];have:=aFt 12 m h;omega
 |negSucc m=>rw [vP,List.length_cons];have:=aFt 12 (m+1) (by simpa using h);omega
theorem jH {n:Int} (h:n.natAbs<10 ^ 13):n.natAbs.log2<1920:=by
 by_cases z:n.natAbs=0
 ·rw [z];decide
 ·exact(Nat.log2_lt z).mpr (Nat.lt_trans h (by
   have:(10:Nat) ^ 13<2 ^ 50:=by decide
   exact Nat.lt_of_lt_of_le this (Nat.pow_le_pow_right (by decide) (by decide))))
def sgn (x:Str):List Nat:=x.cps.toList
def txt:Tm->List Nat
 | .num n=>itx n.k
 | .take b ss=>91::(glu [32] (itx b.k::ss.map fun s=>itx s.k)++[93])
 | .rest t y=>40::(txt t++([32,114,101,115,116,32]++(itx y.k++[41])))
 | .cho a b c=>40::(txt a++([32,63,32]++(txt b++([32,58,32]++(txt c++[41])))))
 | .bin k a b=>40::(txt a++(32::(sgn (opn k)++(32::(txt b++[41])))))
theorem aHy (k:Fin 5):(sgn (opn k)).length<=3:=by
 match k with
 |0=>decide
 |1=>decide
 |2=>decide
 |3=>decide
 |4=>decide
theorem rQ (sep:List Nat):∀(ls:List (List Nat)) (m:Nat),(∀l∈ls,l.length<=m)->(glu sep ls).length<=ls.length*(m+sep.length)
 | [],_,_=>Nat.zero_le _
 | [x],m,h=>by
  have:=h x List.mem_cons_self
  show x.length<=1*(m+sep.length)
  omega
 |x::y::r,m,h=>by
  have h1:=h x List.mem_cons_self
  have h2:=rQ sep (y::r) m fun l hl=>h l (List.mem_cons_of_mem _ hl)
  rw [glu,List.length_append,List.length_append,List.length_cons,Nat.succ_mul]
  omega
theorem aE8 {n:Nb} {lo hi:Int} (h:okN n lo hi=true):∃i,n= .i i/\lo<=i/\i<=hi:=by
 cases n with
 |i n=>exact⟨n,rfl,(of_decide_eq_true h).1,(of_decide_eq_true h).2⟩
 |b c=>cases h
theorem aQv {x y:Option Str} (h:orS x y=none):x=none/\y=none:=by
 cases x with
 |none=>exact⟨rfl,h⟩
 |some z=>cases h
theorem aLq {n:Nb} (h:ff (.num n)=none):∃i,n= .i i/\ -1000000000000<=i/\i<=1000000000000:=by
 rw [ff,own]at h
 split at h
 ·rename_i e;exact aE8 e
 ·cases h
theorem aCk {b:Nb} {ss:List Nb} (h:ff (.take b ss)=none):∃(i:Int) (l:List Int),b= .i i/\ss=l.map .i/\aDj (i,l):=by
 rw [ff,own]at h
 split at h
 ·rename_i e
  obtain⟨i,rfl,h1,h2⟩:=aE8 e
  split at h
  ·rename_i e2
   unfold rO at e2
   rw [Bool.and_eq_true,decide_eq_true_iff,List.all_eq_true]at e2
   obtain⟨⟨l1,l3⟩,al⟩:=e2
   refine⟨i,ss.map Nb.k,rfl,?_,h1,h2,?_,by rw [List.length_map];exact l1,by rw [List.length_map];exact l3⟩
   ·rw [List.map_map]
    conv=>lhs;rw [<-List.map_id ss]
    refine List.map_congr_left fun s hs=>?_
    obtain⟨j,rfl,_⟩:=aE8 (al s hs)
    rfl
   ·intro s hs
    obtain⟨n,hn,rfl⟩:=List.mem_map.mp hs
    obtain⟨j,rfl,a,b⟩:=aE8 (al n hn)
    exact⟨a,b⟩
  ·cases h
 ·cases h
theorem aB8 {t:Tm} {y:Nb} (h:ff (.rest t y)=none):ff t=none/\∃i,y= .i i/\1<=i/\i<=1000000000:=by
 rw [ff,own]at h
 obtain⟨h1,h2⟩:=aQv h
 refine⟨h1,?_⟩
 split at h2
 ·rename_i e;exact aE8 e
 ·cases h2
theorem aGy {a b c:Tm} (h:ff (.cho a b c)=none):ff a=none/\ff b=none/\ff c=none:=by
 rw [ff]at h
 obtain⟨h1,h2⟩:=aQv h
 exact⟨h1,aQv h2⟩
theorem aG0 {k:Fin 5} {a b:Tm} (h:ff (.bin k a b)=none):ff a=none/\ff b=none:=by
 rw [ff]at h
 exact aQv h
theorem jW {s:Int} (h: -9<=s/\s<=9):s.natAbs<10 ^ 13:=by omega
theorem fC:∀{t:Tm},ff t=none->(txt t).length<=70*dD t
 | .num n,h=>by
  obtain⟨i,rfl,h1,h2⟩:=aLq h
  have:=iI (n:=i) (by omega)
  show(itx i).length<=70*1
  omega
 | .take b ss,h=>by
  obtain⟨i,l,rfl,rfl,h1,h2,h3,h4,h5⟩:=aCk h
  simp only at h1 h2 h3 h4 h5
  have:(glu [32] (itx i::l.map itx)).length<=(itx i::l.map itx).length*(14+1):=rQ [32] _ 14 fun x hl=>by
   rcases List.mem_cons.mp hl with rfl|hl
   ·exact iI (by omega)
   ·obtain⟨s,hs,rfl⟩:=List.mem_map.mp hl
    exact iI (jW (h3 s hs))
  rw [List.length_cons,List.length_map]at this
  show(glu [32] (itx i::(l.map Nb.i).map fun s:Nb=>itx s.k)++[93]).length+1<=70*1
  rw [List.map_map,List.length_append]
  show(glu [32] (itx i::l.map itx)).length+1+1<=_
  omega
 | .rest t y,h=>by
  obtain⟨h0,i,rfl,h1,h2⟩:=aB8 h
  have i1:=fC h0
  have:(itx (Nb.i i).k).length<=14:=iI (n:=i) (by omega)
  simp only [txt,dD,List.length_cons,List.length_append,List.length_nil]
  omega
 | .cho a b c,h=>by
  obtain⟨h1,h2,h3⟩:=aGy h
  have i1:=fC h1
  have i2:=fC h2
  have i3:=fC h3
  simp only [txt,dD,List.length_cons,List.length_append,List.length_nil]
  omega
 | .bin k a b,h=>by
  obtain⟨h1,h2⟩:=aG0 h
  have i1:=fC h1
  have i2:=fC h2
  have:=aHy k
  simp only [txt,dD,List.length_cons,List.length_append,List.length_nil]
  omega
def tl (ss:List Int):List Nat:=ss.flatMap fun s=>32::itx s
theorem aFn:∀(x:List Nat) (ss:List Int),glu [32] (x::ss.map itx)=x++tl ss
 |x,[]=>by show x=x++[];rw [List.append_nil]
 |x,s::ss=>by
  rw [List.map_cons,glu,aFn]
  simp [tl]
theorem aLj (n:Int):∃c s,itx n=c::s/\c≠40/\c≠91:=by
 cases n with
 |ofNat m=>
  rw [show Int.ofNat m=(m:Int)from rfl,mX]
  by_cases h0:m=0
  ·subst h0;exact⟨48,[],rK (by decide),by decide,by decide⟩
  ·obtain⟨c,s,e,c1,c2⟩:=aPn m (by omega)
   exact⟨c,s,e,by omega,by omega⟩
 |negSucc m=>exact⟨45,_,vP m,by decide,by decide⟩
theorem aHz {z:List Nat}:∀{d g g':Nat} {t:Tm},bQ TmM z d g= .ok (t,g')->ht t<=d+1:=by
 have lf:∀{g g':Nat} {t:Tm},iZ TmM z g= .ok (t,g')->ht t=1:=fun{g g' t} h=>by
  unfold iZ at h
  split at h
  ·cases a:fZ z g with
   |error p=>rw [a]at h;cases h
   |ok v=>rw [a]at h;cases h;rfl
  ·cases a:dW z g with
   |error p=>rw [a]at h;cases h
   |ok v=>rw [a]at h;cases h;rfl
 intro d
 induction d with
 |zero=>
  intro g g' t h
  rw [bQ]at h
  split at h
  ·cases h
  ·rw [lf h];omega
 |succ d ih=>
  intro g g' t h
  rw [bQ]at h
  split at h
  ·cases a1:bQ TmM z d (g+1)with
   |error p=>rw [a1]at h;cases h
   |ok v1=>
    rw [a1]at h
    dsimp only at h
    cases a2:pas [32] z v1.2 with
    |error p=>rw [a2]at h;cases h
    |ok g2=>
     rw [a2]at h
     dsimp only at h
     cases a3:cW 4 [] z g2 with
     |error p=>rw [a3]at h;cases h
     |ok v3=>
      rw [a3]at h
      dsimp only at h
      cases a4:pas [32] z v3.2 with
      |error p=>rw [a4]at h;cases h
      |ok g4=>
       rw [a4]at h
       dsimp only at h
       cases a5:lM TmM (bQ TmM z d) v1.1 v3.1 z g4 with
       |error p=>rw [a5]at h;cases h
       |ok v5=>
        rw [a5]at h
        dsimp only at h
        cases a6:pas [41] z v5.2 with
        |error p=>rw [a6]at h;cases h
        |ok g6=>
         rw [a6]at h
         cases h
         have i1:=ih (t:=v1.1) (g':=v1.2) a1
         unfold lM at a5
         split at a5
         ·cases b1:cC z g4 with
          |error q=>rw [b1]at a5;cases a5
          |ok v=>rw [b1]at a5;cases a5;show ht v1.1+1<=_;omega
         ·cases b1:bQ TmM z d g4 with
          |error q=>rw [b1]at a5;cases a5
          |ok v=>
           have i2:=ih (t:=v.1) (g':=v.2) b1
           rw [b1]at a5
           dsimp only at a5
           split at a5
           ·cases b2:pas [32,58,32] z v.2 with
            |error q=>rw [b2]at a5;cases a5
            |ok g2=>
             rw [b2]at a5
             dsimp only at a5
             cases b3:bQ TmM z d g2 with
             |error q=>rw [b3]at a5;cases a5
             |ok v3=>
              have i3:=ih (t:=v3.1) (g':=v3.2) b3
              rw [b3]at a5
              cases a5
              show max (ht v1.1) (max (ht v.1) (ht v3.1))+1<=_
              omega
           ·cases a5
            show max (ht v1.1) (ht v.1)+1<=_
            omega
  ·rw [lf h];omega
theorem aIk (ds:List Nat) (c:Nat):NumText.digitsVal (ds++[c])=NumText.digitsVal ds*10+(c-48):=by unfold NumText.digitsVal;rw [List.foldl_append];rfl
theorem aHr:∀(n:Nat) {c:Nat} {r:List Nat},r.length=n->49<=c->c<=57->(∀x∈r,fO x=true)->0<NumText.digitsVal (c::r)/\dg (NumText.digitsVal (c::r))=c::r
 |0,c,r,hn,h1,h2,_=>by
  rw [List.length_eq_zero_iff.mp hn]
  have e:NumText.digitsVal [c]=c-48:=by have:=aIk [] c;rw [List.nil_append,show NumText.digitsVal []=0 from rfl]at this;omega
  rw [e,rK (by omega),show 48+(c-48)=c by omega]
  exact⟨by omega,rfl⟩
 |n+1,c,r,hn,h1,h2,hd=>by
  rcases List.eq_nil_or_concat r with e|⟨r',x,e⟩
  ·rw [e]at hn;cases hn
  ·have e:r=r'++[x]:=by simpa using e
   subst e
   have hx:48<=x/\x<=57:=of_decide_eq_true (hd x (List.mem_append_right _ List.mem_cons_self))
   obtain⟨p,ih⟩:=aHr n (r:=r') (c:=c) (by simpa using hn) h1 h2 fun y hy=>hd y (List.mem_append_left _ hy)
   rw [<-List.cons_append,aIk]
   refine⟨by omega,?_⟩
   rw [aHb (by omega),show(NumText.digitsVal (c::r')*10+(x-48)) / 10=NumText.digitsVal (c::r') by omega,show 48+(NumText.digitsVal (c::r')*10+(x-48)) % 10=x by omega,ih]
theorem lC {z:List Nat}:∀{w:List Nat} {g g':Nat},pas w z g= .ok g'->z.drop g=w++z.drop g'
 | [],g,g',h=>by cases h;rfl
 |c::w,g,g',h=>by
  rw [pas]at h
  split at h
  ·rename_i e;rw [aQ e,lC h];rfl
  ·cases h
theorem aHn:∀{k:Nat} {l:List Nat},∀x∈l.take (dX k l),fO x=true
 |0,l,x,h=>by rw [dX,List.take_zero]at h;cases h
 |k+1,[],x,h=>by rw [List.take_nil]at h;cases h
 |k+1,c::l,x,h=>by
  rw [dX]at h
  split at h
  ·rename_i d
   rw [List.take_succ_cons]at h
   rcases List.mem_cons.mp h with rfl|h
   ·exact d
   ·exact aHn x h
  ·rw [List.take_zero]at h;cases h
theorem aCs {z:List Nat} {g g' m:Nat} (h:cC z g= .ok (m,g')):z.drop g=dg m++z.drop g'/\(z[g]? ≠some 48->0<m):=by
 unfold cC at h
 cases hg:z[g]? with
 |none=>rw [hg]at h;cases h
 |some c=>
  rw [hg]at h
  dsimp only at h
  split at h
  ·rename_i hd
   split at h
   ·rename_i e
    cases h
    rw [rK (by decide),aQ hg,e]
    exact⟨rfl,fun z=>absurd rfl z⟩
   ·rename_i e
    cases h
    have hc:48<=c/\c<=57:=of_decide_eq_true hd
    have ed:=aQ hg
    rw [ed,oM (k:=12) hd,List.take_succ_cons]
    obtain⟨p,b⟩:=aHr _ (c:=c) (r:=(z.drop (g+1)).take (dX 12 (z.drop (g+1)))) rfl (by omega) hc.2 aHn
    refine⟨?_,fun _=>p⟩
    rw [b,List.cons_append,show g+(dX 12 (z.drop (g+1))+1)=g+1+dX 12 (z.drop (g+1)) by omega]
    have h2:=List.take_append_drop (dX 12 (z.drop (g+1))) (z.drop (g+1))
    rw [List.drop_drop]at h2
    rw [h2]
  ·cases h
theorem aB2 {z:List Nat} {g g':Nat} {n:Int} (h:dW z g= .ok (n,g')):z.drop g=itx n++z.drop g':=by
 unfold dW at h
 split at h
 ·rename_i e
  split at h
  ·cases h
  ·rename_i e2
   cases hf:cC z (g+1)with
   |error q=>rw [hf]at h;cases h
   |ok v=>
    rw [hf]at h
    cases h
    obtain⟨h1,h2⟩:=aCs hf
    have h2:=h2 e2
    obtain⟨m,hm⟩:∃m,v.1=m+1:=⟨v.1-1,by omega⟩
    rw [aQ e,h1,hm,show-((m+1:Nat):Int)=Int.negSucc m from rfl,vP]
    rfl
 ·cases hf:cC z g with
  |error q=>rw [hf]at h;cases h
  |ok v=>
   rw [hf]at h
   cases h
   rw [mX]
   exact(aCs hf).1
theorem aHl {z:List Nat}:∀{k g g':Nat} {l:List Int},dR k z g= .ok (l,g')->z.drop g=tl l++z.drop g'
 |0,g,g',l,h=>by cases h;rfl
 |k+1,g,g',l,h=>by
  rw [dR]at h
  split at h
  ·rename_i e
   cases hn:dW z (g+1)with
   |error q=>rw [hn]at h;cases h
   |ok v=>
    rw [hn]at h
    dsimp only at h
    cases hm:dR k z v.2 with
    |error q=>rw [hm]at h;cases h
    |ok y=>
     rw [hm]at h
     cases h
     rw [aQ e,aB2 hn,aHl hm]
     simp [tl]
  ·cases h;rfl
theorem aPl {z:List Nat} {g g':Nat} {y:Int×List Int} (h:fZ z g= .ok (y,g')):z.drop g=91::(glu [32] (itx y.1::y.2.map itx)++[93])++z.drop g':=by
 unfold fZ at h
 cases a1:pas [91] z g with
 |error p=>rw [a1]at h;cases h
 |ok g1=>
  rw [a1]at h
  dsimp only at h
  cases a2:dW z g1 with
  |error p=>rw [a2]at h;cases h
  |ok v2=>
   rw [a2]at h
   dsimp only at h
   cases a3:pas [32] z v2.2 with
   |error p=>rw [a3]at h;cases h
   |ok g3=>
    rw [a3]at h
    dsimp only at h
    cases a4:dW z g3 with
    |error p=>rw [a4]at h;cases h
    |ok v4=>
     rw [a4]at h
     dsimp only at h
     cases a5:dR 2 z v4.2 with
     |error p=>rw [a5]at h;cases h
     |ok v5=>
      rw [a5]at h
      dsimp only at h
      cases a6:pas [93] z v5.2 with
      |error p=>rw [a6]at h;cases h
      |ok g6=>
       rw [a6]at h
       cases h
       rw [lC a1,aB2 a2,lC a3,aB2 a4,aHl a5,lC a6,aFn]
       simp [tl]
theorem aHh {z:List Nat}:∀{k g g':Nat} {b x:List Nat},cW k b z g= .ok (x,g')->b++z.drop g=x++z.drop g'
 |0,g,g',b,x,h=>by
  rw [cW]at h
  split at h<;>cases h
  rfl
 |k+1,g,g',b,x,h=>by
  rw [cW]at h
  split at h
  ·cases h;rfl
  ·cases hz:z[g]? with
   |none=>rw [hz]at h;cases h
   |some c=>
    rw [hz]at h
    dsimp only at h
    split at h
    ·rw [aQ hz, <-aHh h];simp
    ·cases h
theorem aIo {z:List Nat} {g g':Nat} {t:Tm} (h:iZ TmM z g= .ok (t,g')):z.drop g=txt t++z.drop g':=by
 unfold iZ at h
 split at h
 ·cases a:fZ z g with
  |error p=>rw [a]at h;cases h
  |ok v=>
   rw [a]at h
   cases h
   rw [aPl a]
   show _=txt (.take (.i v.1.1) (v.1.2.map .i))++_
   rw [txt,List.map_map]
   rfl
 ·cases a:dW z g with
  |error p=>rw [a]at h;cases h
  |ok v=>rw [a]at h;cases h;exact aB2 a
theorem aQz {x:List Nat} (h:x∈wls) (h1:x≠[114,101,115,116]) (h2:x≠[63]):sgn (opn (kOf x))=x:=by rw [<-aHw h h1 h2];exact iY x
theorem qQ {z:List Nat}:∀{d g g':Nat} {t:Tm},bQ TmM z d g= .ok (t,g')->z.drop g=txt t++z.drop g'
 |0,g,g',t,h=>by
  rw [bQ]at h
  split at h
  ·cases h
  ·exact aIo h
 |d+1,g,g',t,h=>by
  rw [bQ]at h
  split at h
  ·rename_i h40
   cases a1:bQ TmM z d (g+1)with
   |error p=>rw [a1]at h;cases h
   |ok v1=>
    rw [a1]at h
    dsimp only at h
    cases a2:pas [32] z v1.2 with
    |error p=>rw [a2]at h;cases h
    |ok g2=>
     rw [a2]at h
     dsimp only at h
     cases a3:cW 4 [] z g2 with
     |error p=>rw [a3]at h;cases h
     |ok v3=>
      rw [a3]at h
      dsimp only at h
      cases a4:pas [32] z v3.2 with
      |error p=>rw [a4]at h;cases h
      |ok g4=>
       rw [a4]at h
       dsimp only at h
       cases a5:lM TmM (bQ TmM z d) v1.1 v3.1 z g4 with
       |error p=>rw [a5]at h;cases h
       |ok v5=>
        rw [a5]at h
        dsimp only at h
        cases a6:pas [41] z v5.2 with
        |error p=>rw [a6]at h;cases h
        |ok g6=>
         rw [a6]at h
         cases h
         have xw:=sY a3
         have e3:=aHh a3
         rw [List.nil_append]at e3
         rw [aQ h40,qQ a1,lC a2,e3,lC a4]
         unfold lM at a5
         split at a5
         ·rename_i hr
          cases b1:cC z g4 with
          |error q=>rw [b1]at a5;cases a5
          |ok v=>
           rw [b1]at a5
           cases a5
           rw [(aCs b1).1,lC a6,hr]
           show _=txt (.rest v1.1 (.i (v.1:Int)))++_
           rw [txt,show(Nb.i (v.1:Int)).k=(v.1:Int)from rfl,mX]
           simp
         ·rename_i hr
          cases b1:bQ TmM z d g4 with
          |error q=>rw [b1]at a5;cases a5
          |ok v=>
           rw [b1]at a5
           dsimp only at a5
           split at a5
           ·rename_i hq
            cases b2:pas [32,58,32] z v.2 with
            |error q=>rw [b2]at a5;cases a5
            |ok g2=>
             rw [b2]at a5
             dsimp only at a5
             cases b3:bQ TmM z d g2 with
             |error q=>rw [b3]at a5;cases a5
             |ok v3=>
              rw [b3]at a5
              cases a5
              rw [qQ b1,lC b2,qQ b3,lC a6,hq]
              show _=txt (.cho v1.1 v.1 v3.1)++_
              rw [txt]
              simp
           ·rename_i hq
            cases a5
            rw [qQ b1,lC a6]
            show _=txt (.bin (kOf v3.1) v1.1 v.1)++_
            rw [txt,aQz xw hr hq]
            simp
  ·exact aIo h
theorem aH2 {z:List Nat} {t:Tm} (h:bQ TmM z 12 0= .ok (t,z.length)):txt t=z:=by
 have:=qQ h
 rw [List.drop_length,List.append_nil,List.drop_zero]at this
 exact this.symm
theorem aCj (n:Int):1<=(itx n).length:=by obtain⟨c,s,e,_⟩:=aLj n;rw [e];simp
theorem jO:∀t:Tm,dD t<=(txt t).length
 | .num n=>aCj n.k
 | .take _ _=>by rw [txt];simp [dD]
 | .rest t _=>by have:=jO t;simp only [txt,dD,List.length_cons,List.length_append];omega
 | .cho a b c=>by have h1:=jO a;have h2:=jO b;have h3:=jO c;simp only [txt,dD,List.length_cons,List.length_append];omega
 | .bin _ a b=>by have h1:=jO a;have h2:=jO b;simp only [txt,dD,List.length_cons,List.length_append];omega
theorem aF0:∀{t:Tm},ff t=none->5*(raw t).length<=(txt t).length
 | .num _,_=>Nat.zero_le _
 | .take b ss,h=>by
  obtain⟨i,l,rfl,rfl,h1,h2,h3,h4,h5⟩:=aCk h
  have et:txt (.take (.i i) (l.map .i))=91::(glu [32] (itx i::l.map itx)++[93]):=by rw [txt,List.map_map];rfl
  rw [et,aFn]
  cases l with
  |nil=>simp at h4
  |cons s l=>
   have a:=aCj i
   have b:=aCj s
   show 5*1<=_
   simp only [tl,List.flatMap_cons,List.length_cons,List.length_append,List.length_nil]
   omega
 | .rest t _,h=>by have:=aF0 (aB8 h).1;simp only [txt,raw,List.length_cons,List.length_append];omega
 | .cho a b c,h=>by
  obtain⟨f1,f2,f3⟩:=aGy h
  have h1:=aF0 f1;have h2:=aF0 f2;have h3:=aF0 f3
  simp only [txt,raw,List.length_cons,List.length_append]
  omega
 | .bin _ a b,h=>by
  obtain⟨f1,f2⟩:=aG0 h
  have h1:=aF0 f1;have h2:=aF0 f2
  simp only [txt,raw,List.length_cons,List.length_append]
  omega
theorem aWj {l:List Nat} (h:∀c∈l,c≠91):l.count 91=0:=List.count_eq_zero.mpr fun m=>h 91 m rfl
theorem aCg (n:Int):(itx n).count 91=0:=aWj fun c hc=>by
 have d:∀m,∀c∈dg m,c≠91:=fun m c hc=>by have:48<=c/\c<=57:=of_decide_eq_true (aTd m c hc);omega
 cases n with
 |ofNat m=>rw [show Int.ofNat m=(m:Int)from rfl,mX]at hc;exact d m c hc
 |negSucc m=>
  rw [vP]at hc
  rcases List.mem_cons.mp hc with rfl|hc
  ·decide
  ·exact d _ c hc
theorem aMc:∀{ls:List (List Nat)},(∀l∈ls,l.count 91=0)->(glu [32] ls).count 91=0
 | [],_=>rfl
 | [x],h=>h x List.mem_cons_self
 |x::y::r,h=>by rw [glu,List.count_append,List.count_append,h x List.mem_cons_self,aMc fun l hl=>h l (List.mem_cons_of_mem _ hl)];rfl
theorem aU5 (k:Fin 5):(sgn (opn k)).count 91=0:=by
 match k with
 |0=>decide
 |1=>decide
 |2=>decide
 |3=>decide
 |4=>decide
theorem uG:∀t:Tm,(txt t).count 91=(raw t).length
 | .num n=>aCg n.k
 | .take b ss=>by
  rw [txt,List.count_cons,List.count_append,aMc fun l hl=>?_]
  ·rfl
  ·rcases List.mem_cons.mp hl with rfl|hl
   ·exact aCg _
   ·obtain⟨s,_,rfl⟩:=List.mem_map.mp hl
    exact aCg _
 | .rest t y=>by
  rw [txt,List.count_cons,List.count_append,List.count_append,List.count_append,uG t,aCg]
  rfl
 | .cho a b c=>by
  rw [txt,List.count_cons,List.count_append,List.count_append,List.count_append,List.count_append,List.count_append,uG a,uG b,uG c,raw,List.length_append,List.length_append]
  show(raw a).length+(0+((raw b).length+(0+((raw c).length+0))))+0=_
  omega
 | .bin k a b=>by
  rw [txt,List.count_cons,List.count_append,List.count_cons,List.count_append,List.count_cons,List.count_append,uG a,uG b,aU5,raw,List.length_append]
  show(raw a).length+(0+((raw b).length+0)+0)+0+0=_
  omega
theorem pP:∀t:Tm,3*(raw t).length<=3 ^ ht t
 | .num _=>Nat.zero_le _
 | .take _ _=>by simp [raw,ht]
 | .rest t _=>by
  have h:=pP t
  simp only [raw,ht,Nat.pow_succ]
  omega
 | .cho a b c=>by
  have p:∀{x y m:Nat},x<=m->y<=3 ^ x->y<=3 ^ m:=fun h hb=>Nat.le_trans hb (Nat.pow_le_pow_right (by decide) h)
  have h1:=p (m:=max (ht a) (max (ht b) (ht c))) (by omega) (pP a)
  have h2:=p (m:=max (ht a) (max (ht b) (ht c))) (by omega) (pP b)
  have h3:=p (m:=max (ht a) (max (ht b) (ht c))) (by omega) (pP c)
  simp only [raw,ht,Nat.pow_succ,List.length_append]
  omega
 | .bin _ a b=>by
  have p:∀{x y m:Nat},x<=m->y<=3 ^ x->y<=3 ^ m:=fun h hb=>Nat.le_trans hb (Nat.pow_le_pow_right (by decide) h)
  have h1:=p (m:=max (ht a) (ht b)) (by omega) (pP a)
  have h2:=p (m:=max (ht a) (ht b)) (by omega) (pP b)
  simp only [raw,ht,Nat.pow_succ,List.length_append]
  omega
def aUl (z:List Nat):Prop:=z.length<=1000/\(z.length<=60∨z.count 91<=12)
theorem aJs {z:List Nat} {t:Tm} (s:aUl z) (e:txt t=z) (hf:ff t=none):dD t<=1000/\∃ks:List Tk,ks.length<18/\∀x∈raw t,x∈ks:=by
 have a:=jO t
 rw [e]at a
 refine⟨Nat.le_trans a s.1,raw t,?_,fun x hx=>hx⟩
 rcases s.2 with h|h
 ·have:=aF0 hf
  rw [e]at this
  omega
 ·have:=uG t
  rw [e]at this
  omega
inductive aH6 (d:Nat) (vs:List V) (H:Hp) (Q:VK) (z3_:XK):Prop
 |mk (v:V) (t:Tm) (q0_:vs=[v]) (q1_:TupAt H t v) (q2_:ht t<=d) (q3_:ff t=none) (q4_:dD t<=40) (q5_:∀H',bA H H'->Q (.str (tx (txt t))) H'):aH6 d vs H Q z3_
def aCz (d:Nat):Sp:=fun vs H Q z3_=>aH6 d vs H Q z3_
theorem wX:∀{ls:List (List Nat)},(∀l∈ls,l.length<=14)->(ls.map List.length).sum<=ls.length*14
 | [],_=>Nat.zero_le _
 |x::r,h=>by
  have h1:=h x List.mem_cons_self
  have h2:=wX (ls:=r) fun l hl=>h l (List.mem_cons_of_mem _ hl)
  rw [List.map_cons,List.sum_cons,List.length_cons,Nat.succ_mul]
  omega
abbrev aVg:List Str:=["_law_told_here","_law_one","_law_other"]
theorem aGq:aM ["_law_told_here","_law_one","_law_other"] ["_law_told_here"] (aH aD5):=bG
theorem aQt {f:Addr} {fd:FuncData} {d:Nat} (F:Fun K "_law_text" "_law_text" aD5 f fd) (c_text:Cal P w K mg base CX0 (d+1) "_law_text" ["_law_told_here"] (aCz d)) (T:Txt K mg):bC P w K mg base CX0 (d+2) f fd ["_law_told_here"] (aCz (d+1)):=by
 refine F.ok aGq (fun vs H Q E h=>?_) (fun cdv A outer s H vs Q E hr h=>?_)
 ·obtain⟨v,t,rfl,_⟩:=h
  rfl
 ·obtain⟨v,t,rfl,tu,hd,ok,pr,q⟩:=h
  refine⟨_,(@aB _ _ _ _ _ (bK (aN cF (@cU _ _ _ _ _ _ _ gK (pv 0) aG (fun _ _=>rfl)) aJ (aV _)) (@aD _ _ _ (@aL _ _ _ _ (cP jG rfl T.str boot_str (@aA _ _ _ _ _ (@cU _ _ _ _ _ _ _ gK (pv 0) aG (fun _ _=>rfl)) aC rfl)))) aR) (@aB _ _ _ _ _ (bK (aN cF (@cU _ _ _ _ _ _ _ gK (pv 0) aG (fun _ _=>rfl)) aJ (aV _)) (@aD _ _ _ (@aL _ _ _ _ (@aU _ _ _ _ _ _ _ _ dH (@aU _ _ _ _ _ _ _ _ dH aJ (lU PySem.F.plainAttrs_str PySem.F.slot_str_join PySem.F.type_str_join uW aJ (@aA _ _ _ _ _ (pM (own:=["_law_number_here"]) (cap:=[]) (g:=gR 0) (aH aD5) aVg rfl rfl (fun x h=>dZ h) (by decide+kernel) rfl (aCq (@aU _ _ _ _ _ _ _ _ aB6 (@cL _ _ _ _ _ (@aA _ _ _ _ _ (@cU _ _ _ _ _ _ _ gK (pv 0) aG (fun _ _=>rfl)) aC rfl)) (@cU _ _ _ _ _ _ _ gK (pv 0) aG (fun _ _=>rfl)))) (fun cl C s2 H2 fp=>(dC (i:=0) (show(["_law_number_here"]:List Str).Nodup by decide+kernel) rfl (Or.inl rfl) (Or.inr rfl))) (fun cl C s2 H2 fp=>(cP jG rfl T.str boot_str (@aA _ _ _ _ _ (pv 0) aC rfl)))) aC rfl))) aJ))) aR) (@aB _ _ _ _ _ (bK (aN cF (@cU _ _ _ _ _ _ _ gK (pv 0) aG (fun _ _=>rfl)) aJ (aV _)) (@aD _ _ _ (@aL _ _ _ _ (@aU _ _ _ _ _ _ _ _ dH (@aU _ _ _ _ _ _ _ _ dH (@aU _ _ _ _ _ _ _ _ dH (@aU _ _ _ _ _ _ _ _ dH aJ (cV c_text (hr.mo) rfl aP (@aA _ _ _ _ _ (@cU _ _ _ _ _ _ _ gK (pv 0) aG (fun _ _=>rfl)) aC rfl))) aJ) (cP jG rfl T.str boot_str (@aA _ _ _ _ _ (@cU _ _ _ _ _ _ _ gK (pv 0) aG (fun _ _=>rfl)) aC rfl))) aJ))) aR) (@aB _ _ _ _ _ (@aY _ _ 1 _ _ _ _ aGq.nd rfl (Or.inl rfl) (cV c_text (hr.mo) rfl aP (@aA _ _ _ _ _ (@cU _ _ _ _ _ _ _ gK (pv 0) aG (fun _ _=>rfl)) aC rfl)) rfl (by first|exact .inl rfl|exact .inr rfl)) (@aB _ _ _ _ _ (@aY _ _ 2 _ _ _ _ aGq.nd rfl (Or.inl rfl) (cV c_text (hr.mo) rfl aP (@aA _ _ _ _ _ (@cU _ _ _ _ _ _ _ gK (pv 0) aG (fun _ _=>rfl)) aC rfl)) rfl (by first|exact .inl rfl|exact .inr rfl)) (@aB _ _ _ _ _ (bK (aN cF (@cU _ _ _ _ _ _ _ gK (pv 0) aG (fun _ _=>rfl)) aJ (aV _)) (@aD _ _ _ (@aL _ _ _ _ (@aU _ _ _ _ _ _ _ _ dH (@aU _ _ _ _ _ _ _ _ dH (@aU _ _ _ _ _ _ _ _ dH (@aU _ _ _ _ _ _ _ _ dH (@aU _ _ _ _ _ _ _ _ dH (@aU _ _ _ _ _ _ _ _ dH aJ (pv 1)) aJ) (pv 2)) aJ) (cV c_text (hr.mo) rfl aP (@aA _ _ _ _ _ (@cU _ _ _ _ _ _ _ gK (pv 0) aG (fun _ _=>rfl)) aC rfl))) aJ))) aR) (@aD _ _ _ (@aL _ _ _ _ (@aU _ _ _ _ _ _ _ _ dH (@aU _ _ _ _ _ _ _ _ dH aJ (lU PySem.F.plainAttrs_str PySem.F.slot_str_join PySem.F.type_str_join uW aJ (@aA _ _ _ _ _ (@cO _ _ _ _ (@aA _ _ _ _ _ (pv 1) (@aA _ _ _ _ _ (@cU _ _ _ _ _ _ _ gK (pv 0) aG (fun _ _=>rfl)) (@aA _ _ _ _ _ (pv 2) aC rfl) rfl) rfl)) aC rfl))) aJ))))))))),?_⟩
  cases t with
  |num n=>
   obtain⟨n,rfl,h1,h2⟩:=aLq ok
   obtain⟨p,rfl,hp⟩:=tu
   refine⟨_,rfl,p,_,_,_,rfl,rfl,SqT.of hp,rfl,rfl,_,rfl,bD (decide_eq_true rfl) ?_⟩
   exact⟨_,rfl,p,_,_,_,rfl,rfl,SqT.of hp,rfl,n,rfl,jH (by omega),q H (bA.refl H)⟩
  |take b ss=>
   obtain⟨b,l,rfl,rfl,b1,b3,bd,l1,l3⟩:=aCk ok
   obtain⟨p,u,rfl,hp,hu⟩:=tu
   simp only at b1 b3 bd l1 l3
   rw [List.map_map]at hu
   have et:txt (.take (.i b) (l.map .i))=91::(glu [32] (itx b::l.map itx)++[93]):=by rw [txt,List.map_map];rfl
   rw [et]at q
   have hu:H u=some (.tup (l.map V.int)):=hu
   generalize hss:l=ss at*
   refine⟨_,rfl,p,_,_,_,rfl,rfl,SqT.of hp,rfl,rfl,_,rfl,aZ sF ?_⟩
   refine⟨_,rfl,p,_,_,_,rfl,rfl,SqT.of hp,rfl,rfl,_,rfl,bD (decide_eq_true rfl) ?_⟩
   refine⟨rfl,_,rfl,p,_,_,_,rfl,rfl,SqT.of hp,rfl,sz1,fun t1 n1=>?_⟩
   generalize e:upd H t1 _=H1
   obtain⟨s1,e1⟩:=bF n1 e
   refine⟨_,rfl,p,_,_,_,rfl,rfl,SqT.of (s1 _ _ hp),rfl,?_⟩
   refine⟨t1,u,_,_,rfl,rfl,SqT.of e1,SqT.of (s1 _ _ hu),by simp,by rw [List.length_map];show 1+_<=sizeLine;rw [sizeLine_eq];omega,fun z=>?_,fun _ t2 n2=>?_⟩
   ·exact absurd (show ss=[] by simpa using z) fun e=>by rw [e]at l1;simp at l1
   generalize e:upd H1 t2 _=H2
   obtain⟨s2,e2⟩:=bF n2 e
   have e2:H2 t2=some (.tup ((b::ss).map V.int)):=e2
   refine⟨t2,rfl,⟨_,SqT.of e2⟩,fun D hD=>?_⟩
   refine qT (K:=K) (a:=t2) (xs:=(b::ss).map V.int) (fun i acc σ H3=>(∃v0,σ=[v0])/\bA H2 H3/\H3 D=some (.lst acc)/\acc=(((b::ss).take i).map itx).map fun l=>V.str (tx l)) ⟨⟨_,rfl⟩,sameNew hD,aF,rfl⟩ (fun i acc σ H3 _ ⟨_,s3,_⟩=>SqT.of (s3 _ _ e2)) ?_ ?_
   ·rintro i x acc σ H3 hi hx ⟨⟨v0,rfl⟩,s3,hD3,rfl⟩
    obtain⟨n,rfl,hn⟩:=oX hx
    have nb:n.natAbs<10 ^ 13:=by
     rcases List.mem_cons.mp (List.mem_of_getElem? hn)with rfl|hm
     ·omega
     ·exact jW (bd n hm)
    refine⟨_,rfl,n,rfl,jH nb,?_⟩
    refine pH hD3 (small (by rw [List.length_map,List.length_map,List.length_take,List.length_cons];omega)) hi ⟨⟨_,rfl⟩,cN hD s3,aF,?_⟩
    rw [List.take_succ,hn,List.map_append,List.map_append]
    rfl
   ·rintro acc σ H3 ⟨_,s3,hD3,rfl⟩
    rw [List.length_map,List.take_length]at hD3
    have lb:∀l∈(b::ss).map itx,l.length<=14:=fun l hl=>by
     obtain⟨n,hn,rfl⟩:=List.mem_map.mp hl
     rcases List.mem_cons.mp hn with rfl|hm
     ·exact iI (by omega)
     ·exact iI (jW (bd n hm))
    have gl:=rQ [32] _ 14 lb
    rw [List.length_map,List.length_cons]at gl
    have gl:(glu [32] ((b::ss).map itx)).length<=(ss.length+1)*15:=gl
    refine⟨[32],D,(b::ss).map itx,congrArg V.str (aK [32] rfl),rfl,hD3,?_,?_⟩
    ·have:=wX lb
     rw [List.length_map,List.length_cons]at this⊢
     show _+_*1<=_
     omega
    refine pZ (aK [91] rfl) rfl (by show 1+_<=9000;omega) ?_
    refine pZ rfl (aK [93] rfl) (by rw [List.length_append];show 1+_+1<=9000;omega) ?_
    exact q H3 (s1.trans (s2.trans s3))
  |rest t1 y=>
   obtain⟨p,v1,rfl,hp,tu1⟩:=tu
   have hd1:ht t1+1<=d+1:=hd
   have pr':1+dD t1<=40:=pr
   obtain⟨oa,y,rfl,y1,y2⟩:=aB8 ok
   have la:=fC oa
   have yb:y.natAbs<10 ^ 13:=by omega
   have ly:=iI yb
   refine⟨_,rfl,p,_,_,_,rfl,rfl,SqT.of hp,rfl,rfl,_,rfl,aZ sF ?_⟩
   refine⟨_,rfl,p,_,_,_,rfl,rfl,SqT.of hp,rfl,rfl,_,rfl,aZ sF ?_⟩
   refine⟨_,rfl,p,_,_,_,rfl,rfl,SqT.of hp,rfl,rfl,_,rfl,bD (decide_eq_true rfl) ?_⟩
   have hT:([40]++txt t1++[32,114,101,115,116,32]++itx y++[41]).length<=8000:=by simp only [List.length_append,List.length_cons,List.length_nil];omega
   refine⟨_,rfl,p,_,_,_,rfl,rfl,SqT.of hp,rfl,v1,t1,rfl,tu1,by omega,oa,by omega,fun H1 s1=>?_⟩
   refine iU (aK [40] rfl) rfl (kY (kY (kY hT))) ?_
   dsimp only [tC]
   refine iU rfl (aK [32,114,101,115,116,32] rfl) (kY (kY hT)) ?_
   refine⟨_,rfl,p,_,_,_,rfl,rfl,SqT.of (s1 _ _ hp),rfl,y,rfl,jH yb,?_⟩
   refine iU rfl rfl (kY hT) ?_
   refine iU rfl (aK [41] rfl) hT ?_
   have:=q H1 s1
   rw [show txt (.rest t1 (.i y))=[40]++txt t1++[32,114,101,115,116,32]++itx y++[41] by rw [txt];simp [Nb.k]]at this
   exact this
  |cho t1 t2 t3=>
   obtain⟨p,v1,v2,v3,rfl,hp,tu1,tu2,tu3⟩:=tu
   have hd1:max (ht t1) (max (ht t2) (ht t3))+1<=d+1:=hd
   have pr':1+(dD t1+(dD t2+dD t3))<=40:=pr
   obtain⟨o1,o2,o3⟩:=aGy ok
   have l1:=fC o1
   have l2:=fC o2
   have l3:=fC o3
   refine⟨_,rfl,p,_,_,_,rfl,rfl,SqT.of hp,rfl,rfl,_,rfl,aZ sF ?_⟩
   refine⟨_,rfl,p,_,_,_,rfl,rfl,SqT.of hp,rfl,rfl,_,rfl,aZ sF ?_⟩
   refine⟨_,rfl,p,_,_,_,rfl,rfl,SqT.of hp,rfl,rfl,_,rfl,aZ sF ?_⟩
   refine⟨_,rfl,p,_,_,_,rfl,rfl,SqT.of hp,rfl,v1,t1,rfl,tu1,by omega,o1,by omega,fun H1 s1=>?_⟩
   refine⟨_,rfl,p,_,_,_,rfl,rfl,SqT.of (s1 _ _ hp),rfl,v2,t2,rfl,tu2.same s1,by omega,o2,by omega,fun H2 s2=>?_⟩
   have s12:=s1.trans s2
   refine⟨_,rfl,p,_,_,_,rfl,rfl,SqT.of (s12 _ _ hp),rfl,rfl,_,rfl,bD (decide_eq_true rfl) ?_⟩
   have hT:([40]++txt t1++[32,63,32]++txt t2++[32,58,32]++txt t3++[41]).length<=8000:=by simp only [List.length_append,List.length_cons,List.length_nil];omega
   refine⟨_,rfl,iU (aK [40] rfl) rfl (kY (kY (kY (kY (kY hT))))) ?_⟩
   dsimp only [tC]
   refine iU rfl (aK [32,63,32] rfl) (kY (kY (kY (kY hT)))) ?_
   refine⟨_,rfl,iU rfl rfl (kY (kY (kY hT))) ?_⟩
   refine iU rfl (aK [32,58,32] rfl) (kY (kY hT)) ?_
   refine⟨_,rfl,p,_,_,_,rfl,rfl,SqT.of (s12 _ _ hp),rfl,v3,t3,rfl,tu3.same s12,by omega,o3,by omega,fun H3 s3=>?_⟩
   refine iU rfl rfl (kY hT) ?_
   refine iU rfl (aK [41] rfl) hT ?_
   have:=q H3 (s12.trans s3)
   rw [show txt (.cho t1 t2 t3)=[40]++txt t1++[32,63,32]++txt t2++[32,58,32]++txt t3++[41] by rw [txt];simp]at this
   exact this
  |bin k t1 t2=>
   obtain⟨p,v1,v2,rfl,hp,tu1,tu2⟩:=tu
   have hd1:max (ht t1) (ht t2)+1<=d+1:=hd
   have pr':1+(dD t1+dD t2)<=40:=pr
   obtain⟨o1,o2⟩:=aG0 ok
   have l1:=fC o1
   have l2:=fC o2
   have lk:=aHy k
   obtain⟨n1,n2,n3,n4⟩:=aS7 k
   refine⟨_,rfl,p,_,_,_,rfl,rfl,SqT.of hp,rfl,rfl,_,rfl,aZ (sF n1) ?_⟩
   refine⟨_,rfl,p,_,_,_,rfl,rfl,SqT.of hp,rfl,rfl,_,rfl,aZ (sF n2) ?_⟩
   refine⟨_,rfl,p,_,_,_,rfl,rfl,SqT.of hp,rfl,rfl,_,rfl,aZ (sF n3) ?_⟩
   refine⟨_,rfl,p,_,_,_,rfl,rfl,SqT.of hp,rfl,v1,t1,rfl,tu1,by omega,o1,by omega,fun H1 s1=>?_⟩
   refine⟨_,rfl,p,_,_,_,rfl,rfl,SqT.of (s1 _ _ hp),rfl,v2,t2,rfl,tu2.same s1,by omega,o2,by omega,fun H2 s2=>?_⟩
   have s12:=s1.trans s2
   refine⟨_,rfl,p,_,_,_,rfl,rfl,SqT.of (s12 _ _ hp),rfl,rfl,_,rfl,aZ (sF n4) ?_⟩
   refine⟨rfl,_,rfl,_,rfl,p,_,_,_,rfl,rfl,SqT.of (s12 _ _ hp),rfl,_,rfl,sz3,fun l0 n0=>?_⟩
   generalize e:upd H2 l0 _=H3
   obtain⟨s3,e3⟩:=bF n0 e
   refine⟨[32],l0,[txt t1,sgn (opn k),txt t2],congrArg V.str (aK [32] rfl),rfl,?_,?_,?_⟩
   ·rw [e3]
    show some (HO.lst [V.str (tx (txt t1)),V.str (opn k),V.str (tx (txt t2))])=some (HO.lst [V.str (tx (txt t1)),V.str (tx (sgn (opn k))),V.str (tx (txt t2))])
    rw [show tx (sgn (opn k))=opn k from(aA8 (opn k)).symm]
   ·show(txt t1).length+((sgn (opn k)).length+((txt t2).length+0))+3*1<=100000
    omega
   have eg:glu [32] [txt t1,sgn (opn k),txt t2]=txt t1++([32]++(sgn (opn k)++([32]++txt t2))):=rfl
   have el:(glu [32] [txt t1,sgn (opn k),txt t2]).length<=8000:=by
    rw [eg]
    simp only [List.length_append,List.length_cons,List.length_nil]
    omega
   refine pZ (aK [40] rfl) rfl (by show 1+_<=9000;omega) ?_
   refine pZ rfl (aK [41] rfl) (by rw [List.length_append];show 1+_+1<=9000;omega) ?_
   have:=q H3 (s12.trans s3)
   rw [show txt (.bin k t1 t2)=[40]++glu [32] [txt t1,sgn (opn k),txt t2]++[41] by rw [eg,txt];simp]at this
   exact this
def aL3 (K:W.Frag) (N:Cn) (CN CG:Addr):Sp:=fun vs H Q E=>(∃z:List Nat,vs=[.str (tx z)]/\z.length<=8000/\(∀p,bB [.tm 12] z 0= .error p->∀H' dx,bA H H'->zJ H' dx (cG p)->E (.ref CN) (some dx) H')/\∀t,bQ TmM z 12 0= .ok (t,z.length)->
  (ff t=none->dD t<=1000/\∃ks:List Tk,ks.length<18/\∀x∈raw t,x∈ks)/\(∀x,aIa t (some x)->∀H' dx,bA H H'->zJ H' dx (.str x)->E (.ref CG) (some dx) H')/\(aIa t none->∀(v':V) (H':Hp),bA H H'->eO N H' t v'->Q v' H'))∨
 ∃(x:V) (t:Value),vs=[x]/\pW K H x t/\W.kitOne K t (.type "str")=some false/\∀H' dx,bA H H'->zJ H' dx .non->E (.ref CN) (some dx) H'
theorem aM9:aM ["text","term"] ["text"] (aH aNj):=bG
theorem aOd {f:Addr} {fd:FuncData} (F:Fun K "read_term" "read_term" aNj f fd) (c_written:Cal P w K mg base (CXe P w) 86 "read_written" ["text"] (aAq K N CN)) (c_check:Cal P w K mg base (CXe P w) 18 "check_term" ["term"] (aG8 N CG 13)):bC P w K mg base (CXe P w) 88 f fd ["text"] (aL3 K N CN CG):=by
 refine Fun.okE F aM9 (fun vs H Q E h=>?_) (fun X cdv A outer s H vs Q E eX hW hP hr h=>?_)
 ·rcases h with ⟨z,rfl,_⟩|⟨x,t,rfl,_⟩<;>rfl
 ·subst eX
  refine⟨_,(aB (aY (i:=1) aM9.nd rfl (Or.inl rfl) (cV c_written (hr.mo) rfl (cI rfl hW) (aA (pv 0) aC))) (aB (bY (cV c_check (hr.mo) rfl (cI rfl hW) (aA (pv 1) aC))) (aD (aL (pv 1))))),?_⟩
  rcases h with ⟨z,rfl,zl,qE,q⟩|⟨x,t,rfl,ty,no,qE⟩
  ·refine⟨_,rfl,.inl ⟨z,rfl,zl,qE,fun t e v' H1 s1 u1=>?_⟩⟩
   obtain⟨q1,q2,q3⟩:=q t e
   obtain⟨p,dx,fs,rfl,hp,hf⟩:=u1
   refine⟨_,rfl,p,dx,fs,t,rfl,hp,hf,aHz e,q1,fun x hx H' d' s' a'=>q2 x hx H' d' (s1.trans s') a',fun hn H2 s2=>?_⟩
   exact⟨_,rfl,q3 hn _ H2 (s1.trans s2) (eO.same s2 ⟨p,dx,fs,rfl,hp,hf⟩)⟩
  ·exact⟨_,rfl,.inr ⟨x,t,rfl,ty,no,fun H' d' s' a'=>qE H' d' s' a'⟩⟩
theorem aEw {f:Addr} {fd:FuncData} (F:Fun K "_law_text" "_law_text" aD5 f fd) (m:mg "_law_text"=some (.ref f)) (k:W.keepIn K (.ref f)=true) (b:Binds K fd ["_law_told_here"] []) (T:Txt K mg):∀d,Cal P w K mg base CX0 (d+1) "_law_text" ["_law_told_here"] (aCz d)
 |0=>⟨_,_,iD (fun vs H Q E ⟨_,t,_,_,h,_,_,_⟩=>absurd (mV t) (by omega)),m,k,b⟩
 |d+1=>⟨_,_,aQt F (aEw F m k b T d) T,m,k,b⟩
theorem gC {f:Addr} {fd:FuncData} {CX:CXT} {k:Nat} {m:Str} {ps:List Str} {sp:Sp} (cl:Cls K CR) (h:Meth K CR m f) (b:Binds K fd ps []) (F:bC P w K mg base CX k f fd ps sp):DR P w K mg base CX k CR m ps sp:=⟨fun C hC=>by
 have hC:C=CR:=hC
 subst hC
 exact⟨cl,f,fd,h,F,b⟩⟩
theorem aDe {fB fE fP fT:Addr} {gB gE gP fdT:FuncData} (c:Cf K CR FR) (n:aEv N CR) (M:aDv P w K mg base N) (T:Txt K mg) (NX:Nx K mg CN fT) (GT:bC P w K mg base CX0 1 fT fdT ["self","at"] (iC K)) (bT:Binds K fdT ["self","at"] []) (F1:Fun K "read_bracket" "TermReader.read_bracket" nZ fB gB) (F2:Fun K "read_behind" "TermReader.read_behind" oZ fE gE) (F3:Fun K "read_part" "TermReader.read_part" vO fP gP)
  (m1:Meth K CR "read_bracket" fB) (m2:Meth K CR "read_behind" fE) (m3:Meth K CR "read_part" fP) (b1:Binds K gB ["self","within"] []) (b2:Binds K gE ["self","one","word","within"] []) (b3:Binds K gP ["self","within"] [])
  (D_ahead:DR P w K mg base CX0 1 CR "ahead" ["self"] (jE CR)) (D_pass_by:DR P w K mg base (CXe P w) 4 CR "pass_by" ["self","signs"] (mF CR CN)) (D_read_figures:DR P w K mg base (CXe P w) 6 CR "read_figures" ["self"] (aBj CR CN)) (D_read_number:DR P w K mg base (CXe P w) 8 CR "read_number" ["self"] (aB9 CR CN)) (D_read_take:DR P w K mg base (CXe P w) 10 CR "read_take" ["self"] (aCr N CR CN)) (D_read_word:DR P w K mg base (CXe P w) 6 CR "read_word" ["self"] (vI CR CN)) (c_pairBy:Cal P w K mg base CX0 3 "pair_by" ["word","one","other"] (yV N)):∀d,DR P w K mg base (CXe P w) (6*d+12) CR "read_part" ["self","within"] (wR N CR CN d)
 |0=>by
  have D0:DR P w K mg base (CXe P w) 6 CR "read_part" ["self","within"] (fun _ _ _ _=>False):=gC c.cl m3 b3 (iD fun _ _ _ _ h=>h)
  have E0:DR P w K mg base (CXe P w) 6 CR "read_behind" ["self","one","word","within"] (fun _ _ _ _=>False):=gC c.cl m2 b2 (iD fun _ _ _ _ h=>h)
  have DB:=gC c.cl m1 b1 (aJm (N:=N) (k:=2) F1 c (by decide) D_pass_by D_read_word T NX GT bT D0 E0)
  exact gC c.cl m3 b3 (aG3 (d:=0) F3 M D_ahead D_read_number D_read_take DB)
 |d+1=>by
  have D:=aDe c n M T NX GT bT F1 F2 F3 m1 m2 m3 b1 b2 b3 D_ahead D_pass_by D_read_figures D_read_number D_read_take D_read_word c_pairBy d
  have DE:=gC c.cl m2 b2 (aKp F2 n M D_pass_by D_read_figures D c_pairBy)
  have DB:=gC c.cl m1 b1 (aM6 F1 n c D_pass_by D_read_word D DE T NX GT bT)
  exact gC c.cl m3 b3 (aG3 (d:=d+1) F3 M D_ahead D_read_number D_read_take DB)
inductive aEy (N:Cn) (d:Nat) (C:Addr) (vs:List V) (H:Hp) (Q:VK) (z3_:XK):Prop
 |mk (p dx:Addr) (fs:List (Str×V)) (t:Tm) (q0_:vs=[.ref p]) (q1_:H p=some (.ins (cls N t) dx fs)) (q2_:bZ N H fs t) (q3_:cls N t=C) (q4_:ht t<=d) (q5_:ff t=none) (q6_:(txt t).length<=4000) (q7_:∀H',bA H H'->Q (.str (tx (txt t))) H'):aEy N d C vs H Q z3_
def gH (N:Cn) (d:Nat) (C:Addr):Sp:=fun vs H Q z3_=>aEy N d C vs H Q z3_
def aO6 (s:Str) (a b:Tm):List Nat:=40::(txt a++(32::(sgn s++(32::(txt b++[41])))))
inductive zW (N:Cn) (d:Nat) (C:Addr) (vs:List V) (H:Hp) (Q:VK) (z3_:XK):Prop
 |mk (p dx:Addr) (fs:List (Str×V)) (j:Fin 5) (a b:Tm) (s:Str) (q0_:vs=[.ref p,.str s]) (q1_:H p=some (.ins (N.bin j) dx fs)) (q2_:bZ N H fs (.bin j a b)) (q3_:N.bin j=C) (q4_:ht (.bin j a b)<=d) (q5_:ff (.bin j a b)=none) (q6_:(txt a).length+(txt b).length<=4000) (q7_:(sgn s).length<=3) (q8_:∀H',bA H H'->Q (.str (tx (aO6 s a b))) H'):zW N d C vs H Q z3_
def aE7 (N:Cn) (d:Nat) (C:Addr):Sp:=fun vs H Q z3_=>zW N d C vs H Q z3_
abbrev DSh (P:Program) (w:World) (K:W.Frag) (mg:Str->Option Value) (base:Heap) (N:Cn) (d:Nat):Prop:=Dis P w K mg base CX0 (2*d+1) (IsC N) "shown" ["self"] (gH N d)
abbrev NoS (N:Cn):Prop:=∀(t:Tm) (fs:List (Str×V)) (H:Hp),bZ N H fs t->fs.lookup ("shown":Str)=none
theorem aNg:aM ["self"] ["self"] (aH aC2):=bG
theorem aJz {f C:Addr} {fd:FuncData} {d:Nat} (F:Fun K "shown" "Number.shown" aC2 f fd) (c:Cf K C ["value"]) (hC:∀t,cls N t=C->∃n,t= .num n) (T:Txt K mg):bC P w K mg base CX0 (d+1) f fd ["self"] (gH N d C):=by
 refine F.ok aNg (fun vs H Q E h=>?_) (fun cdv A outer s H vs Q E hr h=>?_)
 ·obtain⟨p,dx,fs,t,rfl,_⟩:=h
  rfl
 ·obtain⟨p,dx,fs,t,rfl,hp,hf,hc,hd,ok,pr,q⟩:=h
  refine⟨_,(aD (aL (cP jG rfl T.str boot_str (aA (bM (pv 0) rfl) aC)))),?_⟩
  obtain⟨n,rfl⟩:=hC t hc
  rw [hc]at hp
  obtain rfl:=hf
  obtain⟨n,rfl,h1,h2⟩:=aLq ok
  exact⟨_,rfl,p,C,dx,_,_,rfl,hp,c.cl,c.na _ (by simp),rfl,n,rfl,jH (by omega),q H (bA.refl H)⟩
abbrev aQo:List Str:=["self","numbers"]
theorem aD7:aM ["self","numbers"] ["self"] (aH vJ):=bG
theorem aJ3 {f C:Addr} {fd:FuncData} {d:Nat} (F:Fun K "shown" "Take.shown" vJ f fd) (c:Cf K C ["back","steps"]) (hC:∀t,cls N t=C->∃b ss,t= .take b ss) (T:Txt K mg):bC P w K mg base CX0 (d+1) f fd ["self"] (gH N d C):=by
 refine F.ok aD7 (fun vs H Q E h=>?_) (fun cdv A outer s H vs Q E hr h=>?_)
 ·obtain⟨p,dx,fs,t,rfl,_⟩:=h
  rfl
 ·obtain⟨p,dx,fs,t,rfl,hp,hf,hc,hd,ok,pr,q⟩:=h
  refine⟨_,(@aB _ _ _ _ _ (@aY _ _ 1 _ _ _ _ aD7.nd rfl (Or.inl rfl) (lU PySem.F.plainAttrs_str PySem.F.slot_str_join PySem.F.type_str_join uW aJ (@aA _ _ _ _ _ (pM (own:=["number"]) (cap:=[]) (g:=gR 0) (aH vJ) aQo rfl rfl (fun x h=>dZ h) (by decide+kernel) rfl (aCq (@aU _ _ _ _ _ _ _ _ aB6 (@cL _ _ _ _ _ (@aA _ _ _ _ _ (bM (pv 0) rfl) aC rfl)) (bM (pv 0) rfl))) (fun cl C s2 H2 fp=>(dC (i:=0) (show(["number"]:List Str).Nodup by decide+kernel) rfl (Or.inl rfl) (Or.inr rfl))) (fun cl C s2 H2 fp=>(cP jG rfl T.str boot_str (@aA _ _ _ _ _ (pv 0) aC rfl)))) aC rfl)) rfl (by first|exact .inl rfl|exact .inr rfl)) (@aD _ _ _ (@aL _ _ _ _ (aCi (bV sI (bV (aCt (pv 1)) (bV sI vB))))))),?_⟩
  obtain⟨b,ss,rfl⟩:=hC t hc
  rw [hc]at hp
  obtain⟨u,rfl,hu⟩:=hf
  obtain⟨b,l,rfl,rfl,b1,b3,bd,l1,l3⟩:=aCk ok
  simp only at b1 b3 bd l1 l3
  rw [List.map_map]at hu
  have et:txt (.take (.i b) (l.map .i))=91::(glu [32] (itx b::l.map itx)++[93]):=by rw [txt,List.map_map];rfl
  rw [et]at q
  have hu:H u=some (.tup (l.map V.int)):=hu
  generalize hss:l=ss at*
  refine⟨rfl,_,rfl,p,C,dx,_,_,rfl,hp,c.cl,c.na _ (by simp),rfl,sz1,fun t1 n1=>?_⟩
  generalize e:upd H t1 _=H1
  obtain⟨s1,e1⟩:=bF n1 e
  refine⟨_,rfl,p,C,dx,_,_,rfl,s1 _ _ hp,c.cl,c.na _ (by simp),rfl,?_⟩
  refine⟨t1,u,_,_,rfl,rfl,SqT.of e1,SqT.of (s1 _ _ hu),by simp,by rw [List.length_map];show 1+_<=sizeLine;rw [sizeLine_eq];omega,fun z=>?_,fun _ t2 n2=>?_⟩
  ·exact absurd (show ss=[] by simpa using z) fun e=>by rw [e]at l1;simp at l1
  generalize e:upd H1 t2 _=H2
  obtain⟨s2,e2⟩:=bF n2 e
  have e2:H2 t2=some (.tup ((b::ss).map V.int)):=e2
  refine⟨t2,rfl,⟨_,SqT.of e2⟩,fun D hD=>?_⟩
  refine qT (K:=K) (a:=t2) (xs:=(b::ss).map V.int) (fun i acc σ H3=>(∃v0,σ=[v0])/\bA H2 H3/\H3 D=some (.lst acc)/\acc=(((b::ss).take i).map itx).map fun l=>V.str (tx l)) ⟨⟨_,rfl⟩,sameNew hD,aF,rfl⟩ (fun i acc σ H3 _ ⟨_,s3,_⟩=>SqT.of (s3 _ _ e2)) ?_ ?_
  ·rintro i x acc σ H3 hi hx ⟨⟨v0,rfl⟩,s3,hD3,rfl⟩
   obtain⟨n,rfl,hn⟩:=oX hx
   have nb:n.natAbs<10 ^ 13:=by
    rcases List.mem_cons.mp (List.mem_of_getElem? hn)with rfl|hm
    ·omega
    ·exact jW (bd n hm)
   refine⟨_,rfl,n,rfl,jH nb,?_⟩
   refine pH hD3 (small (by rw [List.length_map,List.length_map,List.length_take,List.length_cons];omega)) hi ⟨⟨_,rfl⟩,cN hD s3,aF,?_⟩
   rw [List.take_succ,hn,List.map_append,List.map_append]
   rfl
  ·rintro acc σ H3 ⟨_,s3,hD3,rfl⟩
   rw [List.length_map,List.take_length]at hD3
   have lb:∀l∈(b::ss).map itx,l.length<=14:=fun l hl=>by
    obtain⟨n,hn,rfl⟩:=List.mem_map.mp hl
    rcases List.mem_cons.mp hn with rfl|hm
    ·exact iI (by omega)
    ·exact iI (jW (bd n hm))
   have gl:=rQ [32] _ 14 lb
   rw [List.length_map,List.length_cons]at gl
   have gl:(glu [32] ((b::ss).map itx)).length<=(ss.length+1)*15:=gl
   refine⟨[32],D,(b::ss).map itx,congrArg V.str (aK [32] rfl),rfl,hD3,?_,?_⟩
   ·have:=wX lb
    rw [List.length_map,List.length_cons]at this⊢
    show _+_*1<=_
    omega
   refine⟨by show 0+1<=sizeLine;decide,_,rfl,.inl ⟨_,rfl,bU (by omega),?_⟩⟩
   refine⟨bU (by show 1+_<=9000;omega),bU (by rw [List.length_append];show 1+_+1<=9000;omega),?_⟩
   exact q H3 (s1.trans (s2.trans s3))
theorem wV:aM ["self","sign","one","other"] ["self","sign"] (aH vK):=bG
theorem aI1 {f C:Addr} {fd:FuncData} {d:Nat} (F:Fun K "shown_with" "Paired.shown_with" vK f fd) (c:Cf K C ["one","other"]) (D_shown:DSh P w K mg base N d) (nS:NoS N):bC P w K mg base CX0 (2*d+2) f fd ["self","sign"] (aE7 N (d+1) C):=by
 refine F.ok wV (fun vs H Q E h=>?_) (fun cdv A outer s H vs Q E hr h=>?_)
 ·obtain⟨p,dx,fs,j,a,b,sg,rfl,_⟩:=h
  rfl
 ·obtain⟨p,dx,fs,j,a,b,sg,rfl,hp,hf,hc,hd,ok,pr,sl,q⟩:=h
  refine⟨_,(aB (aY (i:=2) wV.nd rfl (Or.inl rfl) (aO (bM (pv 0) rfl) D_shown (hr.mo) aP)) (aB (aY (i:=3) wV.nd rfl (Or.inl rfl) (aO (bM (pv 0) rfl) D_shown (hr.mo) aP)) (aD (aL (aCi (bV sI (bV (aCt (pv 2)) (bV sI (bV (aCt (pv 1)) (bV sI (bV (aCt (pv 3)) (bV sI vB)))))))))))),?_⟩
  rw [hc]at hp
  obtain⟨pa,da,fa,pb,db,fb,rfl,⟨ha,ga⟩,hb,gb⟩:=hf
  have hd':max (ht a) (ht b)+1<=d+1:=hd
  obtain⟨oa,ob⟩:=aG0 ok
  refine⟨_,rfl,p,C,dx,_,_,rfl,hp,c.cl,c.na _ (by simp),rfl,pa,_,da,fa,rfl,ha,isC N a,nS a fa H ga,pa,da,fa,a,rfl,ha,ga,rfl,by omega,oa,by omega,fun H1 s1=>?_⟩
  refine⟨_,rfl,p,C,dx,_,_,rfl,s1 _ _ hp,c.cl,c.na _ (by simp),rfl,pb,_,db,fb,rfl,s1 _ _ hb,isC N b,nS b fb H gb,pb,db,fb,b,rfl,s1 _ _ hb,gb.same s1,rfl,by omega,ob,by omega,fun H2 s2=>?_⟩
  refine⟨by show 0+1<=sizeLine;decide,_,rfl,.inl ⟨_,rfl,bU (by omega),bU (by show 1+_<=9000;omega),?_⟩⟩
  refine⟨bU (by rw [List.length_append];show 1+_+1<=9000;omega),_,rfl,.inl ⟨sgn sg,congrArg V.str (aA8 sg),bU (by omega),bU (by rw [List.length_append,List.length_append];show 1+_+1+_<=9000;omega),?_⟩⟩
  refine⟨bU (by rw [List.length_append,List.length_append,List.length_append];show 1+_+1+_+1<=9000;omega),_,rfl,.inl ⟨_,rfl,bU (by omega),bU (by rw [List.length_append,List.length_append,List.length_append,List.length_append];show 1+_+1+_+1+_<=9000;omega),?_⟩⟩
  refine⟨bU (by rw [List.length_append,List.length_append,List.length_append,List.length_append,List.length_append];show 1+_+1+_+1+_+1<=9000;omega),?_⟩
  have:=q H2 (s1.trans s2)
  rw [show aO6 sg a b=[40]++txt a++[32]++sgn sg++[32]++txt b++[41] by unfold aO6;simp]at this
  exact this
abbrev DSW (P:Program) (w:World) (K:W.Frag) (mg:Str->Option Value) (base:Heap) (N:Cn) (d:Nat):Prop:=Dis P w K mg base CX0 (2*d+2) (fun C=>∃k,C=N.bin k) "shown_with" ["self","sign"] (aE7 N (d+1))
abbrev NoW (N:Cn):Prop:=∀(t:Tm) (fs:List (Str×V)) (H:Hp),bZ N H fs t->fs.lookup ("shown_with":Str)=none
theorem aN3:aM ["self"] ["self"] (aH aBv):=bG
theorem aKt {f C:Addr} {fd:FuncData} {d:Nat} (F:Fun K "shown" "Added.shown" aBv f fd) (hC:∀t,cls N t=C->∃a b,t= .bin 0 a b) (D_shownW:DSW P w K mg base N d) (nW:NoW N):bC P w K mg base CX0 (2*d+3) f fd ["self"] (gH N (d+1) C):=by
 refine F.ok aN3 (fun vs H Q E h=>?_) (fun cdv A outer s H vs Q E hr h=>?_)
 ·obtain⟨p,dx,fs,t,rfl,_⟩:=h
  rfl
 ·obtain⟨p,dx,fs,t,rfl,hp,hf,hc,hd,ok,pr,q⟩:=h
  refine⟨_,(aD (aL (bH (pv 0) D_shownW (hr.mo) aP (aA aJ aC)))),?_⟩
  obtain⟨a,b,rfl⟩:=hC t hc
  have pr:(txt a).length+(txt b).length<=4000:=by simp only [txt,List.length_cons,List.length_append]at pr;omega
  exact⟨_,rfl,p,_,dx,fs,rfl,hp,⟨0,rfl⟩,nW _ fs H hf,p,dx,fs,0,a,b,_,rfl,hp,hf,rfl,hd,ok,pr,by decide,q⟩
theorem aLr:aM ["self"] ["self"] (aH aC8):=bG
theorem aJu {f C:Addr} {fd:FuncData} {d:Nat} (F:Fun K "shown" "Lessened.shown" aC8 f fd) (hC:∀t,cls N t=C->∃a b,t= .bin 1 a b) (D_shownW:DSW P w K mg base N d) (nW:NoW N):bC P w K mg base CX0 (2*d+3) f fd ["self"] (gH N (d+1) C):=by
 refine F.ok aLr (fun vs H Q E h=>?_) (fun cdv A outer s H vs Q E hr h=>?_)
 ·obtain⟨p,dx,fs,t,rfl,_⟩:=h
  rfl
 ·obtain⟨p,dx,fs,t,rfl,hp,hf,hc,hd,ok,pr,q⟩:=h
  refine⟨_,(aD (aL (bH (pv 0) D_shownW (hr.mo) aP (aA aJ aC)))),?_⟩
  obtain⟨a,b,rfl⟩:=hC t hc
  have pr:(txt a).length+(txt b).length<=4000:=by simp only [txt,List.length_cons,List.length_append]at pr;omega
  exact⟨_,rfl,p,_,dx,fs,rfl,hp,⟨1,rfl⟩,nW _ fs H hf,p,dx,fs,1,a,b,_,rfl,hp,hf,rfl,hd,ok,pr,by decide,q⟩
theorem aMg:aM ["self"] ["self"] (aH aCo):=bG
theorem aJ4 {f C:Addr} {fd:FuncData} {d:Nat} (F:Fun K "shown" "Multiplied.shown" aCo f fd) (hC:∀t,cls N t=C->∃a b,t= .bin 2 a b) (D_shownW:DSW P w K mg base N d) (nW:NoW N):bC P w K mg base CX0 (2*d+3) f fd ["self"] (gH N (d+1) C):=by
 refine F.ok aMg (fun vs H Q E h=>?_) (fun cdv A outer s H vs Q E hr h=>?_)
 ·obtain⟨p,dx,fs,t,rfl,_⟩:=h
  rfl
 ·obtain⟨p,dx,fs,t,rfl,hp,hf,hc,hd,ok,pr,q⟩:=h
  refine⟨_,(aD (aL (bH (pv 0) D_shownW (hr.mo) aP (aA aJ aC)))),?_⟩
  obtain⟨a,b,rfl⟩:=hC t hc
  have pr:(txt a).length+(txt b).length<=4000:=by simp only [txt,List.length_cons,List.length_append]at pr;omega
  exact⟨_,rfl,p,_,dx,fs,rfl,hp,⟨2,rfl⟩,nW _ fs H hf,p,dx,fs,2,a,b,_,rfl,hp,hf,rfl,hd,ok,pr,by decide,q⟩
theorem aL0:aM ["self"] ["self"] (aH aCh):=bG
theorem aJ0 {f C:Addr} {fd:FuncData} {d:Nat} (F:Fun K "shown" "Least.shown" aCh f fd) (hC:∀t,cls N t=C->∃a b,t= .bin 3 a b) (D_shownW:DSW P w K mg base N d) (nW:NoW N):bC P w K mg base CX0 (2*d+3) f fd ["self"] (gH N (d+1) C):=by
 refine F.ok aL0 (fun vs H Q E h=>?_) (fun cdv A outer s H vs Q E hr h=>?_)
 ·obtain⟨p,dx,fs,t,rfl,_⟩:=h
  rfl
 ·obtain⟨p,dx,fs,t,rfl,hp,hf,hc,hd,ok,pr,q⟩:=h
  refine⟨_,(aD (aL (bH (pv 0) D_shownW (hr.mo) aP (aA aJ aC)))),?_⟩
  obtain⟨a,b,rfl⟩:=hC t hc
  have pr:(txt a).length+(txt b).length<=4000:=by simp only [txt,List.length_cons,List.length_append]at pr;omega
  exact⟨_,rfl,p,_,dx,fs,rfl,hp,⟨3,rfl⟩,nW _ fs H hf,p,dx,fs,3,a,b,_,rfl,hp,hf,rfl,hd,ok,pr,by decide,q⟩
theorem aM3:aM ["self"] ["self"] (aH aBz):=bG
theorem aJl {f C:Addr} {fd:FuncData} {d:Nat} (F:Fun K "shown" "Most.shown" aBz f fd) (hC:∀t,cls N t=C->∃a b,t= .bin 4 a b) (D_shownW:DSW P w K mg base N d) (nW:NoW N):bC P w K mg base CX0 (2*d+3) f fd ["self"] (gH N (d+1) C):=by
 refine F.ok aM3 (fun vs H Q E h=>?_) (fun cdv A outer s H vs Q E hr h=>?_)
 ·obtain⟨p,dx,fs,t,rfl,_⟩:=h
  rfl
 ·obtain⟨p,dx,fs,t,rfl,hp,hf,hc,hd,ok,pr,q⟩:=h
  refine⟨_,(aD (aL (bH (pv 0) D_shownW (hr.mo) aP (aA aJ aC)))),?_⟩
  obtain⟨a,b,rfl⟩:=hC t hc
  have pr:(txt a).length+(txt b).length<=4000:=by simp only [txt,List.length_cons,List.length_append]at pr;omega
  exact⟨_,rfl,p,_,dx,fs,rfl,hp,⟨4,rfl⟩,nW _ fs H hf,p,dx,fs,4,a,b,_,rfl,hp,hf,rfl,hd,ok,pr,by decide,q⟩
theorem yC:aM ["self","one","by"] ["self"] (aH aC1):=bG
theorem aJ9 {f C:Addr} {fd:FuncData} {d:Nat} (F:Fun K "shown" "Rest.shown" aC1 f fd) (c:Cf K C ["one","by"]) (hC:∀t,cls N t=C->∃a y,t= .rest a y) (D_shown:DSh P w K mg base N d) (nS:NoS N):bC P w K mg base CX0 (2*d+2) f fd ["self"] (gH N (d+1) C):=by
 refine F.ok yC (fun vs H Q E h=>?_) (fun cdv A outer s H vs Q E hr h=>?_)
 ·obtain⟨p,dx,fs,t,rfl,_⟩:=h
  rfl
 ·obtain⟨p,dx,fs,t,rfl,hp,hf,hc,hd,ok,pr,q⟩:=h
  refine⟨_,(aB (aY (i:=1) yC.nd rfl (Or.inl rfl) (aO (bM (pv 0) rfl) D_shown (hr.mo) aP)) (aB (aY (i:=2) yC.nd rfl (Or.inl rfl) (bM (pv 0) rfl)) (aD (aL (aCi (bV sI (bV (aCt (pv 1)) (bV sI (bV (aCt (pv 2)) (bV sI vB)))))))))),?_⟩
  obtain⟨a,y,rfl⟩:=hC t hc
  rw [hc]at hp
  obtain⟨pa,da,fa,rfl,ha,ga⟩:=hf
  have hd':ht a+1<=d+1:=hd
  have pr:(txt a).length<=4000:=by simp only [txt,List.length_cons,List.length_append]at pr;omega
  obtain⟨oa,y,rfl,y1,y2⟩:=aB8 ok
  have yb:y.natAbs<10 ^ 13:=by omega
  have ly:=iI yb
  refine⟨_,rfl,p,C,dx,_,_,rfl,hp,c.cl,c.na _ (by simp),rfl,pa,_,da,fa,rfl,ha,isC N a,nS a fa H ga,pa,da,fa,a,rfl,ha,ga,rfl,by omega,oa,by omega,fun H1 s1=>?_⟩
  refine⟨_,rfl,p,C,dx,_,_,rfl,s1 _ _ hp,c.cl,c.na _ (by simp),rfl,?_⟩
  refine⟨by show 0+1<=sizeLine;decide,_,rfl,.inl ⟨_,rfl,bU (by omega),bU (by show 1+_<=9000;omega),?_⟩⟩
  refine⟨bU (by rw [List.length_append];show 1+_+6<=9000;omega),_,rfl,.inr ⟨y,rfl,jH yb,bU (by rw [List.length_append,List.length_append];show 1+_+6+_<=9000;omega),?_⟩⟩
  refine⟨bU (by rw [List.length_append,List.length_append,List.length_append];show 1+_+6+_+1<=9000;omega),?_⟩
  have:=q H1 s1
  rw [show txt (.rest a (.i y))=[40]++txt a++[32,114,101,115,116,32]++itx y++[41] by rw [txt];simp [Nb.k]]at this
  exact this
theorem qI:aM ["self","test","one","other"] ["self"] (aH aBn):=bG
theorem aIz {f C:Addr} {fd:FuncData} {d:Nat} (F:Fun K "shown" "Chosen.shown" aBn f fd) (c:Cf K C ["test","one","other"]) (hC:∀t,cls N t=C->∃a b e,t= .cho a b e) (D_shown:DSh P w K mg base N d) (nS:NoS N):bC P w K mg base CX0 (2*d+2) f fd ["self"] (gH N (d+1) C):=by
 refine F.ok qI (fun vs H Q E h=>?_) (fun cdv A outer s H vs Q E hr h=>?_)
 ·obtain⟨p,dx,fs,t,rfl,_⟩:=h
  rfl
 ·obtain⟨p,dx,fs,t,rfl,hp,hf,hc,hd,ok,pr,q⟩:=h
  refine⟨_,(aB (aY (i:=1) qI.nd rfl (Or.inl rfl) (aO (bM (pv 0) rfl) D_shown (hr.mo) aP)) (aB (aY (i:=2) qI.nd rfl (Or.inl rfl) (aO (bM (pv 0) rfl) D_shown (hr.mo) aP)) (aB (aY (i:=3) qI.nd rfl (Or.inl rfl) (aO (bM (pv 0) rfl) D_shown (hr.mo) aP)) (aD (aL (aCi (bV sI (bV (aCt (pv 1)) (bV sI (bV (aCt (pv 2)) (bV sI (bV (aCt (pv 3)) (bV sI vB))))))))))))),?_⟩
  obtain⟨a,b,e,rfl⟩:=hC t hc
  rw [hc]at hp
  obtain⟨pa,da,fa,pb,db,fb,pe,de,fe,rfl,⟨ha,ga⟩,⟨hb,gb⟩,he,ge⟩:=hf
  have hd':max (ht a) (max (ht b) (ht e))+1<=d+1:=hd
  have pr:(txt a).length+(txt b).length+(txt e).length<=4000:=by simp only [txt,List.length_cons,List.length_append]at pr;omega
  obtain⟨oa,ob,oe⟩:=aGy ok
  refine⟨_,rfl,p,C,dx,_,_,rfl,hp,c.cl,c.na _ (by simp),rfl,pa,_,da,fa,rfl,ha,isC N a,nS a fa H ga,pa,da,fa,a,rfl,ha,ga,rfl,by omega,oa,by omega,fun H1 s1=>?_⟩
  refine⟨_,rfl,p,C,dx,_,_,rfl,s1 _ _ hp,c.cl,c.na _ (by simp),rfl,pb,_,db,fb,rfl,s1 _ _ hb,isC N b,nS b fb H gb,pb,db,fb,b,rfl,s1 _ _ hb,gb.same s1,rfl,by omega,ob,by omega,fun H2 s2=>?_⟩
  have s12:=s1.trans s2
  refine⟨_,rfl,p,C,dx,_,_,rfl,s12 _ _ hp,c.cl,c.na _ (by simp),rfl,pe,_,de,fe,rfl,s12 _ _ he,isC N e,nS e fe H ge,pe,de,fe,e,rfl,s12 _ _ he,ge.same s12,rfl,by omega,oe,by omega,fun H3 s3=>?_⟩
  refine⟨by show 0+1<=sizeLine;decide,_,rfl,.inl ⟨_,rfl,bU (by omega),bU (by show 1+_<=9000;omega),?_⟩⟩
  refine⟨bU (by rw [List.length_append];show 1+_+3<=9000;omega),_,rfl,.inl ⟨_,rfl,bU (by omega),bU (by rw [List.length_append,List.length_append];show 1+_+3+_<=9000;omega),?_⟩⟩
  refine⟨bU (by rw [List.length_append,List.length_append,List.length_append];show 1+_+3+_+3<=9000;omega),_,rfl,.inl ⟨_,rfl,bU (by omega),bU (by rw [List.length_append,List.length_append,List.length_append,List.length_append];show 1+_+3+_+3+_<=9000;omega),?_⟩⟩
  refine⟨bU (by rw [List.length_append,List.length_append,List.length_append,List.length_append,List.length_append];show 1+_+3+_+3+_+1<=9000;omega),?_⟩
  have:=q H3 (s12.trans s3)
  rw [show txt (.cho a b e)=[40]++txt a++[32,63,32]++txt b++[32,58,32]++txt e++[41] by rw [txt];simp]at this
  exact this
theorem aTz (c:Nat):(!(Builtin.Str.occurrences (Str.ofString "0123456789") (tx [c]) 0 (Str.ofString "0123456789").length 1).isEmpty)=fO c:=by
 refine(StrLaws.found_one (Str.ofString "0123456789") c).trans ?_
 rw [Bool.eq_iff_iff,decide_eq_true_iff]
 exact aDn c
theorem vX {z:List Nat} {i c:Nat} {H:Hp} {Q:VK} (h:z[i]? =some c) (hz:z.length<=8000) (q:Q (.str (tx [c])) H):aS0 (.str (tx z)) (cG i) H Q:=⟨_,_,c,rfl,rfl,by rw [cJ];exact bU (by omega),by rw [iY];exact jZ h,q⟩
theorem aRi {z:List Nat} {k:Nat} {H:Hp} {Q:VK} (hz:z.length<=8000) (q:Q (.str (tx (z.take k))) H):aJe (.str (tx z)) none (some (k:Int)) H Q:=by
 refine⟨z,rfl,bU (by omega),?_⟩
 rw [iJ,show cH none 0 z.length=0 from rfl,List.drop_zero,Nat.sub_zero]
 rw [<-List.take_eq_take_min]
 exact q
theorem aNk {z:List Nat} {k:Nat} {H:Hp} {Q:VK} (hz:z.length<=8000) (q:Q (.str (tx (z.drop k))) H):aJe (.str (tx z)) (some (k:Int)) none H Q:=by
 refine⟨z,rfl,bU (by omega),?_⟩
 rw [iJ,show cH none z.length z.length=z.length from rfl]
 have e:(z.drop (min k z.length)).take (z.length-min k z.length)=z.drop k:=by
  rw [List.take_of_length_le (by rw [List.length_drop];omega)]
  rcases Nat.le_total k z.length with h|h
  ·rw [Nat.min_eq_left h]
  ·rw [Nat.min_eq_right h,List.drop_of_length_le (Nat.le_refl _),List.drop_of_length_le h]
 rw [e]
 exact q
theorem aVe {z:List Nat} {a b:Int} {k:Nat} {H:Hp} {Q:VK} (ea:a=(k:Int)) (eb:b=((k+1:Nat):Int)) (hz:z.length<=8000) (q:Q (.str (tx ((z.drop k).take 1))) H):aJe (.str (tx z)) (some a) (some b) H Q:=by
 subst ea eb
 refine⟨z,rfl,bU (by omega),?_⟩
 rw [iJ,iJ]
 have e:(z.drop (min k z.length)).take (min (k+1) z.length-min k z.length)=(z.drop k).take 1:=by
  rcases Nat.lt_or_ge k z.length with h|h
  ·rw [Nat.min_eq_left (Nat.le_of_lt h),Nat.min_eq_left h,show k+1-k=1 by omega]
  ·rw [Nat.min_eq_right h,List.drop_of_length_le (Nat.le_refl _),List.drop_of_length_le h,List.take_nil,List.take_nil]
 rw [e]
 exact q
theorem qY {a b m:Nat} (h:a<=m) (hb:b<=3 ^ a):b<=3 ^ m:=Nat.le_trans hb (Nat.pow_le_pow_right (by decide) h)
theorem mH:∀t:Tm,2*dD t+1<=3 ^ ht t
 | .num _=>by simp [dD,ht]
 | .take _ _=>by simp [dD,ht]
 | .rest t _=>by
  have h:=mH t
  have:0<3 ^ ht t:=Nat.pow_pos (by decide)
  simp only [dD,ht,Nat.pow_succ]
  omega
 | .cho a b c=>by
  have h1:=qY (m:=max (ht a) (max (ht b) (ht c))) (by omega) (mH a)
  have h2:=qY (m:=max (ht a) (max (ht b) (ht c))) (by omega) (mH b)
  have h3:=qY (m:=max (ht a) (max (ht b) (ht c))) (by omega) (mH c)
  simp only [dD,ht,Nat.pow_succ]
  omega
 | .bin _ a b=>by
  have h1:=qY (m:=max (ht a) (ht b)) (by omega) (mH a)
  have h2:=qY (m:=max (ht a) (ht b)) (by omega) (mH b)
  simp only [dD,ht,Nat.pow_succ]
  omega
theorem aQe (n:Nat):eqV (cG n) (cG n)=true:=by simp [eqV]
def gG (s:Bool) (z:List Nat) (g:Nat):Bool×Nat:=if s=true then(match dW z g with| .error p=>(false,p)| .ok (_,g')=>(true,g'))else(match cC z g with| .error p=>(false,p)| .ok (_,g')=>(true,g'))
def aE4 (z:List Nat) (g:Nat):Bool×Nat:=match cC z g with| .error p=>(false,p)| .ok (_,g')=>(true,g')
theorem aP0 (z:List Nat) (g:Nat):aE4 z g=if z[g]? =some 48 then(true,g+1)else(decide (0<dX 13 (z.drop g)),g+dX 13 (z.drop g)):=by
 unfold aE4 cC
 cases hg:z[g]? with
 |none=>rw [cX hg];rfl
 |some c=>
  dsimp only
  by_cases hd:fO c=true
  ·rw [if_pos hd]
   by_cases h0:c=48
   ·rw [if_pos h0,if_pos (by rw [h0])]
   ·rw [if_neg h0,if_neg (fun e=>h0 (Option.some.inj e)),aQ hg,oM (k:=12) hd]
    rw [decide_eq_true (by omega)]
  ·rw [if_neg hd,if_neg (fun e=>hd (by cases e;rfl)),aQ hg,dX,if_neg hd]
   rfl
theorem aSo (z:List Nat) (g:Nat):gG true z g=if z[g]? =some 45 then(if z[g+1]? =some 48 then(false,g+1)else aE4 z (g+1))else aE4 z g:=by
 unfold gG dW aE4
 rw [if_pos rfl]
 by_cases h1:z[g]? =some 45
 ·rw [if_pos h1,if_pos h1]
  by_cases h2:z[g+1]? =some 48
  ·rw [if_pos h2,if_pos h2]
  ·rw [if_neg h2,if_neg h2]
   cases cC z (g+1)<;>rfl
 ·rw [if_neg h1,if_neg h1]
  cases cC z g<;>rfl
theorem aTb (z:List Nat) (g:Nat):gG false z g=aE4 z g:=rfl
inductive aAg (vs:List V) (H:Hp) (Q:VK) (z3_:XK):Prop
 |mk (z:List Nat) (g:Nat) (s:Bool) (q0_:vs=[.str (tx z),cG g,.bl s]) (q1_:z.length<=8000) (q2_:∀(t:Addr) (H':Hp),bA H H'->H' t=some (.tup [.bl (gG s z g).1,cG (gG s z g).2])->Q (.ref t) H'):aAg vs H Q z3_
def xH:Sp:=fun vs H Q z3_=>aAg vs H Q z3_
theorem eq1 {z:List Nat} {g x:Nat}:decide (V.str (tx ((z.drop g).take 1))=V.str (tx [x]))=decide (z[g]? =some x):=by
 rw [decide_eq_decide]
 cases hg:z[g]? with
 |none=>
  rw [kJ hg]
  exact⟨fun e=>by have:=cZ (V.str.inj e);(cases this),fun e=>by cases e⟩
 |some c=>
  rw [take1 hg]
  exact⟨fun e=>by have:=cZ (V.str.inj e);cases this;rfl,fun e=>by cases e;rfl⟩
theorem slG {z:List Nat} {g:Nat} {H:Hp} {Q:VK} (hz:z.length<=8000) (q:Q (.str (tx ((z.drop g).take 1))) H):aJe (.str (tx z)) (some (g:Int)) (some ((g:Int)+1)) H Q:=aVe rfl (by omega) hz q
theorem aQc {k:Nat} {l:List Nat}:∀{j:Nat},j<=k->(∀i,i<j->∃c,l[i]? =some c/\fO c=true)->(j=k∨∀c,l[j]? =some c->fO c=false)->dX k l=j:=by
 induction k generalizing l with
 |zero=>intro j h _ _;rw [dX];omega
 |succ k ih=>
  intro j hj hd he
  cases l with
  |nil=>
   cases j with
   |zero=>rfl
   |succ j=>obtain⟨c,e,_⟩:=hd 0 (by omega);cases e
  |cons x l=>
   cases j with
   |zero=>
    rcases he with he|he
    ·cases he
    ·rw [dX,if_neg (by rw [he x rfl];exact Bool.false_ne_true)]
   |succ j=>
    obtain⟨c,e,d⟩:=hd 0 (by omega)
    cases e
    rw [dX,if_pos d,ih (j:=j) (by omega) (fun i hi=>by have:=hd (i+1) (by omega);simpa using this) (he.imp (by omega) fun h c hc=>h c (by simpa using hc))]
theorem qO:aM ["_law_text_here","_law_at","_law_signed","_law_first"] ["_law_text_here","_law_at","_law_signed"] (aH aC5):=bG
theorem aKv {f:Addr} {fd:FuncData} (F:Fun K "_law_number_end" "_law_number_end" aC5 f fd):bC P w K mg base CX0 1 f fd ["_law_text_here","_law_at","_law_signed"] xH:=by
 refine F.ok qO (fun vs H Q E h=>?_) (fun cdv A outer s H vs Q E hr h=>?_)
 ·obtain⟨z,g,sg,rfl,_⟩:=h
  rfl
 ·obtain⟨z,g,sg,rfl,z8,q⟩:=h
  refine⟨_,(aB (bK (PW.pt (mZ (iV (pv 2)) (mG (aN cF (cT fK (pv 0) (bO (pv 1)) (bO (aU bJ (pv 1) aG))) aJ (aV _))))) (aB (aY (i:=1) qO.nd rfl (Or.inl rfl) (aU bJ (pv 1) aG)) (aD (bK (aN cF (cT fK (pv 0) (bO (pv 1)) (bO (aU bJ (pv 1) aG))) aJ (aV _)) (aD (aL (cL (aA lJ (aA (pv 1) aC))))) aR))) aR) (aB (aY (i:=3) qO.nd rfl (Or.inl rfl) (pv 1)) (aB (lF PassesOwn.never (PW.pt (mZ (aN uJ (cT fK (pv 0) (bO (pv 1)) (bO (aU bJ (pv 1) aG))) aJ (aV _)) (mZ (aN aAl (cU wI (pv 0) (pv 1) (fun _ _=>rfl)) aJ rfl) (mG (aN yR (pv 1) (aU bJ (pv 3) aG) (aV _)))))) (aB (aY (i:=1) qO.nd rfl (Or.inl rfl) (aU bJ (pv 1) aG)) (aD (bK (aN cF (cU wI (pv 0) (pv 3) (fun _ _=>rfl)) aJ (aV _)) (aD (aL (cL (aA lJ (aA (pv 1) aC))))) aR)))) (aD (aL (cL (aA (jC aA0 (pv 1) (pv 3) (aV _)) (aA (pv 1) aC)))))))),?_⟩
  refine(fun(rest:∀(σ:L2.St) (g1:Nat),σ=[some (.str (tx z)),some (cG g1),some (.bl sg),none]->(∀(t:Addr) (H':Hp),bA H H'->H' t=some (.tup [.bl (aE4 z g1).1,cG (aE4 z g1).2])->Q (.ref t) H')->(?R:L2.St->Prop) σ)=> ?main) ?restp
  case main=>
   refine⟨_,rfl,_,rfl,?_⟩
   by_cases hs:sg=true
   ·have q1:=q
    rw [hs,aSo]at q1
    refine bD hs ?_
    refine⟨_,rfl,_,rfl,_,rfl,_,rfl,_,_,rfl,rfl,_,rfl,slG z8 ⟨rfl,_,rfl,?_⟩⟩
    rw [show Str.ofString "-"=tx [45]from aK [45] rfl,eq1]
    by_cases h45:z[g]? =some 45
    ·rw [if_pos h45]at q1
     refine bD (decide_eq_true h45) ?_
     refine⟨_,rfl,_,_,rfl,rfl,?_⟩
     refine⟨_,rfl,_,rfl,_,rfl,_,rfl,_,_,rfl,rfl,_,rfl,slG (g:=g+1) z8 ⟨rfl,_,rfl,?_⟩⟩
     rw [show Str.ofString "0"=tx [48]from aK [48] rfl,eq1]
     by_cases h48:z[g+1]? =some 48
     ·rw [if_pos h48]at q1
      refine bD (decide_eq_true h48) ?_
      refine⟨_,rfl,sz2,fun t nt=>?_⟩
      exact q1 t _ (sameNew nt) aF
     ·rw [if_neg h48]at q1
      refine aZ (decide_eq_false h48) ?_
      generalize hσ:List.set _ 1 _=σ
      exact rest σ (g+1) hσ.symm q1
    ·rw [if_neg h45]at q1
     refine aZ (decide_eq_false h45) ?_
     exact rest _ g rfl q1
   ·have q1:=q
    have hs:=Bool.eq_false_iff.mpr hs
    rw [hs,aTb]at q1
    refine aZ hs (fU ?_)
    exact rest _ g rfl q1
  case restp=>
   rintro σ g rfl q
   rw [aP0]at q
   refine⟨_,rfl,?_⟩
   refine⟨fun m σ H2=>∃j:Nat,m=13-j/\j<=13/\σ=[some (.str (tx z)),some (cG (g+j)),some (.bl sg),some (cG g)]/\H2=H/\(∀i,i<j->∃c,(z.drop g)[i]? =some c/\fO c=true)/\(0<j->z[g]? ≠some 48),⟨13,0,rfl,by omega,rfl,rfl,fun i hi=>by omega,fun h=>by omega⟩,?_⟩
   rintro m σ H2 ⟨j,rfl,jl,rfl,rfl,dj,n48⟩
   refine(fun(out:(j=13∨∀c,(z.drop g)[j]? =some c->fO c=false)->(?O:Prop))=> ?mainW) ?outp
   case mainW=>
    refine⟨_,rfl,_,rfl,_,rfl,_,rfl,_,_,rfl,rfl,_,rfl,slG (g:=g+j) z8 ⟨rfl,_,rfl,?_⟩⟩
    cases hg:z[g+j]? with
    |none=>
     rw [kJ hg]
     refine aZ (by rw [decide_eq_true (show V.str (tx [])=V.str (Str.ofString "")from congrArg V.str (aK [] rfl).symm)];rfl) (fU ?_)
     exact out (.inr fun c hc=>by rw [List.getElem?_drop,hg]at hc;cases hc)
    |some c=>
     rw [take1 hg]
     refine bD (by rw [decide_eq_false fun e=>by have:=cZ ((V.str.inj e).trans (aK [] rfl));cases this];rfl) ?_
     refine⟨_,rfl,_,rfl,vX hg z8 ⟨_,_,rfl,rfl,_,rfl,?_⟩⟩
     rw [aTz]
     cases hd:fO c with
     |false=>
      refine fU (fU ?_)
      exact out (.inr fun c' hc=>by rw [List.getElem?_drop,hg]at hc;cases hc;exact hd)
     |true=>
      refine nO ?_
      refine⟨_,rfl,_,rfl,_,_,rfl,rfl,_,_,rfl,rfl,_,rfl,?_⟩
      by_cases j13:j<13
      ·refine bD (decide_eq_true (by omega)) ?_
       refine⟨fun σ' H'=>∃m',m'<13-j/\_,fun _ _ z=>z,?_⟩
       refine⟨_,rfl,_,_,rfl,rfl,?_⟩
       obtain⟨c0,hc0⟩:∃c0,z[g]? =some c0:=by
        have:g+j<z.length:=(List.getElem?_eq_some_iff.mp hg).1
        exact⟨_,List.getElem?_eq_getElem (by omega)⟩
       refine⟨_,rfl,_,rfl,vX hc0 z8 ⟨rfl,_,rfl,?_⟩⟩
       by_cases h48:c0=48
       ·have j0:j=0:=by
         rcases Nat.eq_zero_or_pos j with h|h
         ·exact h
         ·exact absurd (by rw [hc0,h48]) (n48 h)
        subst j0
        rw [if_pos (by rw [hc0,h48])]at q
        refine bD (decide_eq_true (congrArg (fun x=>V.str (tx [x])) h48)) ?_
        refine⟨_,rfl,sz2,fun t nt=>?_⟩
        exact q t _ (sameNew nt) aF
       ·refine aZ (decide_eq_false fun e=>h48 (by have:=cZ (V.str.inj e);cases this;rfl)) ?_
        refine⟨13-(j+1),by omega,j+1,rfl,by omega,rfl,rfl,fun i hi=>?_,fun _ e=>h48 (by rw [hc0]at e;cases e;rfl)⟩
        rcases Nat.lt_or_ge i j with l|ge
        ·exact dj i l
        ·rw [show i=j by omega,List.getElem?_drop]
         exact⟨c,hg,hd⟩
      ·refine aZ (decide_eq_false (by omega)) ?_
       exact out (.inl (by omega))
   case outp=>
    intro ho
    have hr:=aQc jl dj ho
    by_cases h48:z[g]? =some 48
    ·exfalso
     rcases Nat.eq_zero_or_pos j with h|h
     ·subst h
      rcases ho with ho|ho
      ·cases ho
      ·have:=ho 48 (by rw [List.getElem?_drop];exact h48)
       cases this
     ·exact n48 h h48
    ·rw [if_neg h48,hr]at q
     refine⟨_,rfl,_,rfl,_,_,rfl,rfl,_,rfl,sz2,fun t nt=>?_⟩
     refine q t _ (sameNew nt) ?_
     rw [aF]
     show some (HO.tup [V.bl (decide ((g:Int)<((g+j:Nat):Int))),cG (g+j)])=_
     rw [show decide ((g:Int)<((g+j:Nat):Int))=decide (0<j)from decide_eq_decide.mpr (by omega)]
def eQ:Wn->List Nat
 | .tm _=>[116,101,114,109]
 | .num=>[110,117,109,98,101,114]
 | .by_=>[98,121]
 | .more k=>[109,111,114,101,32,48+k]
 | .made _=>[109,97,100,101]
 | .sg l=>l
 |_=>[]
def lits:List (List Nat):=[[41],[32],[32,58,32],[43,32],[45,32],[42,32],[63,32],[114,101,115,116,32],[109,97,120,32],[109,105,110,32]]
def lZ (S:List Wn):Nat:=(S.map eQ).count [41]
def OkW:Wn->Nat->Prop
 | .tm d,c=>d+c=12
 | .made d,c=>d+c=12
 | .more k,_=>k<=2
 | .num,_=>True
 | .by_,_=>True
 | .sg l,_=>l∈lits
 |_,_=>False
def OkS:List Wn->Prop
 | []=>True
 |x::S=>OkW x (lZ S)/\OkS S
theorem cnt_cons (x:Wn) (S:List Wn):lZ (x::S)=lZ S+if eQ x=[41]then 1 else 0:=by
 unfold lZ
 rw [List.map_cons,List.count_cons]
 congr 1
 by_cases h:eQ x=[41]
 ·rw [if_pos h,if_pos (by rw [h];rfl)]
 ·rw [if_neg h,if_neg (by simpa using h)]
theorem aB1 {x:Wn} {S:List Wn} (h:eQ x≠[41]):lZ (x::S)=lZ S:=by rw [cnt_cons,if_neg h];rfl
def hv (S:List Wn):List V:=(S.map fun x=>V.str (tx (eQ x))).reverse
theorem dO (x:Wn) (S:List Wn):hv (x::S)=hv S++[V.str (tx (eQ x))]:=by unfold hv;rw [List.map_cons,List.reverse_cons]
theorem aFp (S:List Wn):(hv S).length=S.length:=by unfold hv;rw [List.length_reverse,List.length_map]
theorem aNb (a:List Nat):∀l:List (List Nat),(l.map tx).count (tx a)=l.count a
 | []=>rfl
 |x::l=>by
  rw [List.map_cons,List.count_cons,List.count_cons,aNb a l]
  congr 1
  by_cases h:x=a
  ·rw [h];simp
  ·rw [if_neg (by simpa using fun e=>h (cZ e)),if_neg (by simpa using h)]
theorem aMd (S:List Wn):hv S=((S.map fun x=>tx (eQ x)).reverse).map V.str/\((S.map fun x=>tx (eQ x)).reverse).count (tx [41])=lZ S:=by
 refine⟨?_,?_⟩
 ·unfold hv;rw [List.map_reverse,List.map_map];rfl
 ·rw [List.count_reverse]
  unfold lZ
  rw [show(S.map fun x=>tx (eQ x))=(S.map eQ).map tx by rw [List.map_map];rfl,aNb]
def hdM:List Wn->Bool
 | .made _::_=>true
 |_=>false
def tQ (x:Wn) (S:List Wn) (z:List Nat) (g:Nat) (S':List Wn) (g':Nat):Prop:=bB (x::S) (z.drop g) g=bB S' (z.drop g') g'/\OkS S'/\g'<=z.length/\S'.length<=S.length+4/\(g<g'∨(hdM (x::S)=true/\hdM S'=false/\g'=g))
def Told (hp:Addr) (x:Wn) (S:List Wn) (z:List Nat) (g:Nat) (H:Hp) (Q:VK):Prop:=∀(t:Addr) (H':Hp) (b:Bool) (p:Nat),Kp hp H H'->H' t=some (.tup [.bl b,cG p])->
 (b=false->bB (x::S) (z.drop g) g= .error p)->(b=true->∃S',H' hp=some (.lst (hv S'))/\tQ x S z g S' p)->Q (.ref t) H'
inductive aDb (vs:List V) (H:Hp) (Q:VK) (z3_:XK):Prop
 |mk (d:Nat) (S:List Wn) (z:List Nat) (g:Nat) (hp:Addr) (q0_:vs=[.str (tx z),cG g,.ref hp]) (q1_:z.length<=1000) (q2_:g<=z.length) (q3_:H hp=some (.lst (hv S))) (q4_:OkS (.made d::S)) (q5_:S.length<=8900) (q6_:Told hp (.made d) S z g H Q):aDb vs H Q z3_
def aH1:Sp:=fun vs H Q z3_=>aDb vs H Q z3_
inductive zR (vs:List V) (H:Hp) (Q:VK) (z3_:XK):Prop
 |mk (x:Wn) (S:List Wn) (z:List Nat) (g:Nat) (hp:Addr) (q0_:vs=[.str (tx (eQ x)),.str (tx z),cG g,.ref hp]) (q1_:z.length<=1000) (q2_:g<=z.length) (q3_:H hp=some (.lst (hv S))) (q4_:OkS (x::S)) (q5_:S.length<=8900) (q6_:Told hp x S z g H Q):zR vs H Q z3_
def aE1:Sp:=fun vs H Q z3_=>zR vs H Q z3_
def aGl (w:List Nat) (d:Nat):List Wn:=if w=[114,101,115,116,32]then [.by_]else if w=[63,32]then [.tm d,.sg [32,58,32],.tm d]else [.tm d]
theorem gY {d g c:Nat} {S:List Wn} {z w:List Nat} (hg:z[g]? =some c) (h:(c,w)∈[(43,[43,32]),(45,[45,32]),(42,[42,32]),(63,[63,32]),(114,[114,101,115,116,32])]∨(c=109/\((z[g+1]? =some 105/\w=[109,105,110,32])∨(z[g+1]? ≠some 105/\w=[109,97,120,32])))):
  bB (.made d::S) (z.drop g) g=bB (.sg w::(aGl w d++S)) (z.drop g) g:=by
 rw [aQ hg]
 rcases h with h|⟨rfl,h⟩
 ·simp only [List.mem_cons,Prod.mk.injEq,List.not_mem_nil,or_false]at h
  rcases h with ⟨rfl,rfl⟩|⟨rfl,rfl⟩|⟨rfl,rfl⟩|⟨rfl,rfl⟩|⟨rfl,rfl⟩<;>rfl
 ·rcases h with ⟨h,rfl⟩|⟨h,rfl⟩
  ·show bB (.mm d::S) (z.drop (g+1)) (g+1)=bB (.sg [105,110,32]:: .tm d::S) (z.drop (g+1)) (g+1)
   rw [aQ h]
   rfl
  ·show bB (.mm d::S) (z.drop (g+1)) (g+1)=bB (.sg [97,120,32]:: .tm d::S) (z.drop (g+1)) (g+1)
   cases hg1:z[g+1]? with
   |none=>rw [cX hg1];rfl
   |some x=>
    rw [aQ hg1]
    by_cases h97:x=97
    ·subst h97;rfl
    ·have h105:¬x=105:=fun e=>h (by rw [hg1,e])
     simp only [bB,nxt,if_neg h97,if_neg h105]
theorem aPo {d g:Nat} {S:List Wn} {z:List Nat} (h:∀c,z[g]? =some c->c∉[43,45,42,63,114,109]):bB (.made d::S) (z.drop g) g= .error g:=by
 cases hg:z[g]? with
 |none=>rw [cX hg];rfl
 |some c=>
  have n:=h c hg
  simp only [List.mem_cons,List.not_mem_nil,or_false,not_or]at n
  rw [aQ hg]
  simp only [bB,nxt,if_neg (show¬(c=43∨c=45∨c=42) by omega),if_neg n.2.2.2.1,if_neg n.2.2.2.2.1,if_neg n.2.2.2.2.2]
theorem aT3 {w:List Nat} {d:Nat} {S:List Wn} (hw:w∈lits) (hw2:w≠[41]) (h:OkS (.made d::S)):OkS (.sg w::(aGl w d++S))/\(.sg w::(aGl w d++S):List Wn).length<=S.length+4:=by
 obtain⟨h1,h2⟩:=h
 have h1:d+lZ S=12:=h1
 unfold aGl
 by_cases e1:w=[114,101,115,116,32]
 ·rw [if_pos e1]
  exact⟨⟨hw,True.intro,h2⟩,by simp⟩
 ·rw [if_neg e1]
  by_cases e2:w=[63,32]
  ·rw [if_pos e2]
   refine⟨⟨hw,?_,(show [32,58,32]∈lits by decide),h1,h2⟩,by simp⟩
   show d+lZ (.sg [32,58,32]:: .tm d::S)=12
   rw [aB1 (x:= .sg [32,58,32]) (by decide),aB1 (x:= .tm d) (show([116,101,114,109]:List Nat)≠[41] by decide)]
   exact h1
  ·rw [if_neg e2]
   exact⟨⟨hw,h1,h2⟩,by simp⟩
def wds (m:Str):List (Key×V):=[(.inr "+",.str "+ "),(.inr "-",.str "- "),(.inr "*",.str "* "),(.inr "?",.str "? "),(.inr "r",.str "rest "),(.inr "m",.str m)]
theorem aSy (m:Str):jU [] (wds m)=wds m:=rfl
theorem aQ9 (m m':Str):putK (wds m) (.inr "m") (.str m')=wds m':=rfl
theorem key_ne {x:String} {l a:List Nat} (hx:Str.ofString x=tx a) (h:l≠a):¬(Sum.inr (Str.ofString x):Key)=Sum.inr (tx l):=fun e=>h (cZ ((Sum.inr.inj e).symm.trans hx))
theorem nY {x:String} {a:List Nat} (hx:Str.ofString x=tx a):(Sum.inr (Str.ofString x):Key)=Sum.inr (tx a):=congrArg Sum.inr hx
def wOf (m:Str) (l:List Nat):Option Str:=if l=[43]then some "+ " else if l=[45]then some "- " else if l=[42]then some "* " else if l=[63]then some "? " else if l=[114]then some "rest " else if l=[109]then some m else none
theorem aPm (m:Str) (l:List Nat):uP (wds m) (.inr (tx l))=(wOf m l).map V.str:=by
 unfold wds wOf
 by_cases h1:l=[43]
 ·rw [if_pos h1,h1,eZ (nY (aK [43] rfl))];rfl
 rw [if_neg h1,eY (key_ne (aK [43] rfl) h1)]
 by_cases h2:l=[45]
 ·rw [if_pos h2,h2,eZ (nY (aK [45] rfl))];rfl
 rw [if_neg h2,eY (key_ne (aK [45] rfl) h2)]
 by_cases h3:l=[42]
 ·rw [if_pos h3,h3,eZ (nY (aK [42] rfl))];rfl
 rw [if_neg h3,eY (key_ne (aK [42] rfl) h3)]
 by_cases h4:l=[63]
 ·rw [if_pos h4,h4,eZ (nY (aK [63] rfl))];rfl
 rw [if_neg h4,eY (key_ne (aK [63] rfl) h4)]
 by_cases h5:l=[114]
 ·rw [if_pos h5,h5,eZ (nY (aK [114] rfl))];rfl
 rw [if_neg h5,eY (key_ne (aK [114] rfl) h5)]
 by_cases h6:l=[109]
 ·rw [if_pos h6,h6,eZ (nY (aK [109] rfl))];rfl
 rw [if_neg h6,eY (key_ne (aK [109] rfl) h6)]
 rfl
theorem sl2 {z:List Nat} {g:Nat} {H:Hp} {Q:VK} (hz:z.length<=8000) (q:Q (.str (tx ((z.drop g).take 2))) H):aJe (.str (tx z)) (some (g:Int)) (some ((g:Int)+2)) H Q:=by
 refine⟨z,rfl,bU (by omega),?_⟩
 rw [iJ,show(g:Int)+2=((g+2:Nat):Int) by omega,iJ]
 have e:(z.drop (min g z.length)).take (min (g+2) z.length-min g z.length)=(z.drop g).take 2:=by
  rcases Nat.lt_or_ge g z.length with h|h
  ·rw [Nat.min_eq_left (Nat.le_of_lt h)]
   rcases Nat.lt_or_ge (g+2) z.length with h2|h2
   ·rw [Nat.min_eq_left (Nat.le_of_lt h2),show g+2-g=2 by omega]
   ·rw [Nat.min_eq_right h2,List.take_of_length_le (by rw [List.length_drop];omega),List.take_of_length_le (by rw [List.length_drop];omega)]
  ·rw [Nat.min_eq_right h,List.drop_of_length_le (Nat.le_refl _),List.drop_of_length_le h,List.take_nil,List.take_nil]
 rw [e]
 exact q
theorem aR8 {z:List Nat} {g:Nat}:(z.drop g).take 2=[109,105]↔z[g]? =some 109/\z[g+1]? =some 105:=by
 constructor
 ·intro h
  have h0:((z.drop g).take 2)[0]? =some 109:=by rw [h];rfl
  have h1:((z.drop g).take 2)[1]? =some 105:=by rw [h];rfl
  rw [List.getElem?_take_of_lt (by omega),List.getElem?_drop]at h0 h1
  exact⟨h0,h1⟩
 ·rintro⟨h0,h1⟩
  rw [aQ h0,aQ h1]
  rfl
theorem wl {x:String} {l:List Nat} (h:(Str.ofString x).cps.toList=l):(Str.ofString x)=tx l:=aK l h
theorem aGd {z:List Nat} {g d:Nat} {S:List Wn} {m w:Str} (hm:m=if(z.drop g).take 2=[109,105]then("min ":Str)else "max ") (h:wOf m ((z.drop g).take 1)=some w):
  ∃l,w=tx l/\l∈lits/\l≠[41]/\(w=("rest ":Str)↔l=[114,101,115,116,32])/\(w=("? ":Str)↔l=[63,32])/\bB (.made d::S) (z.drop g) g=bB (.sg l::(aGl l d++S)) (z.drop g) g:=by
 have two:∀l:List Nat,(tx l=("rest ":Str)↔l=[114,101,115,116,32])/\(tx l=("? ":Str)↔l=[63,32]):=fun l=>⟨⟨fun e=>cZ (e.trans (aK [114,101,115,116,32] rfl)),fun e=>by rw [e];exact(aK [114,101,115,116,32] rfl).symm⟩,fun e=>cZ (e.trans (aK [63,32] rfl)),fun e=>by rw [e];exact(aK [63,32] rfl).symm⟩
 cases hg:z[g]? with
 |none=>rw [kJ hg]at h;cases h
 |some c=>
  rw [take1 hg]at h
  unfold wOf at h
  split at h
  ·rename_i e;cases e;cases h
   exact⟨[43,32],aK _ rfl,by decide,by decide,by rw [wl (l:=[43,32]) rfl];exact(two _).1,by rw [wl (l:=[43,32]) rfl];exact(two _).2,gY hg (.inl (by simp))⟩
  split at h
  ·rename_i e;cases e;cases h
   exact⟨[45,32],aK _ rfl,by decide,by decide,by rw [wl (l:=[45,32]) rfl];exact(two _).1,by rw [wl (l:=[45,32]) rfl];exact(two _).2,gY hg (.inl (by simp))⟩
  split at h
  ·rename_i e;cases e;cases h
   exact⟨[42,32],aK _ rfl,by decide,by decide,by rw [wl (l:=[42,32]) rfl];exact(two _).1,by rw [wl (l:=[42,32]) rfl];exact(two _).2,gY hg (.inl (by simp))⟩
  split at h
  ·rename_i e;cases e;cases h
   exact⟨[63,32],aK _ rfl,by decide,by decide,by rw [wl (l:=[63,32]) rfl];exact(two _).1,by rw [wl (l:=[63,32]) rfl];exact(two _).2,gY hg (.inl (by simp))⟩
  split at h
  ·rename_i e;cases e;cases h
   exact⟨[114,101,115,116,32],aK _ rfl,by decide,by decide,by rw [wl (l:=[114,101,115,116,32]) rfl];exact(two _).1,by rw [wl (l:=[114,101,115,116,32]) rfl];exact(two _).2,gY hg (.inl (by simp))⟩
  split at h
  ·rename_i e;cases e;cases h
   by_cases hi:(z.drop g).take 2=[109,105]
   ·rw [if_pos hi]at hm
    rw [hm]
    exact⟨[109,105,110,32],aK _ rfl,by decide,by decide,by rw [wl (l:=[109,105,110,32]) rfl];exact(two _).1,by rw [wl (l:=[109,105,110,32]) rfl];exact(two _).2,gY hg (.inr ⟨rfl,.inl ⟨(aR8.mp hi).2,rfl⟩⟩)⟩
   ·rw [if_neg hi]at hm
    rw [hm]
    exact⟨[109,97,120,32],aK _ rfl,by decide,by decide,by rw [wl (l:=[109,97,120,32]) rfl];exact(two _).1,by rw [wl (l:=[109,97,120,32]) rfl];exact(two _).2,gY hg (.inr ⟨rfl,.inr ⟨fun e=>hi (aR8.mpr ⟨hg,e⟩),rfl⟩⟩)⟩
  ·cases h
theorem aKl {z:List Nat} {g d:Nat} {S:List Wn} {m:Str} (h:wOf m ((z.drop g).take 1)=none):bB (.made d::S) (z.drop g) g= .error g:=aPo fun c hg hm=>by
 rw [take1 hg]at h
 simp only [List.mem_cons,List.not_mem_nil,or_false]at hm
 rcases hm with rfl|rfl|rfl|rfl|rfl|rfl<;>(simp [wOf]at h)
theorem aCm:aM ["_law_text_here","_law_at","_law_heap","_law_words","_law_word_here"] ["_law_text_here","_law_at","_law_heap"] (aH aCp):=bG
theorem aLi {f:Addr} {fd:FuncData} (F:Fun K "_law_word" "_law_word" aCp f fd):bC P w K mg base CX0 1 f fd ["_law_text_here","_law_at","_law_heap"] aH1:=by
 refine F.ok aCm (fun vs H Q E h=>?_) (fun cdv A outer s H vs Q E hr h=>?_)
 ·obtain⟨d,S,z,g,hp,rfl,_⟩:=h
  rfl
 ·obtain⟨d,S,z,g,hp,rfl,zl,gl,hh,ok,sl,q⟩:=h
  have hu:(A.deeper (envOfC (Str.ofString "_law_word") (aH aCp) s.heap.objs.size f cdv)).units+1<cLine:=by have:=wU hr;omega
  have z8:z.length<=8000:=by omega
  refine⟨_,(@aB _ _ _ _ _ (@aY _ _ 3 _ _ _ _ aCm.nd rfl (Or.inl rfl) (@aH9 _ _ _ _ _ (@iQ _ _ _ _ _ _ _ _ _ aJ aJ (@iQ _ _ _ _ _ _ _ _ _ aJ aJ (@iQ _ _ _ _ _ _ _ _ _ aJ aJ (@iQ _ _ _ _ _ _ _ _ _ aJ aJ (@iQ _ _ _ _ _ _ _ _ _ aJ aJ (@iQ _ _ _ _ _ _ _ _ _ aJ aJ aIc)))))) rfl rfl (fun z=>nomatch z) (by decide)) rfl (by first|exact .inl rfl|exact .inr rfl)) (@aB _ _ _ _ _ (bK (aN cF (cT fK (pv 0) (bO (pv 1)) (bO (@aU _ _ _ _ _ _ _ _ bJ (pv 1) aG))) aJ (aV _)) (@aD _ _ _ (aQ8 hu (pv 3) aJ aJ rfl)) aR) (@aB _ _ _ _ _ (@aY _ _ 4 _ _ _ _ aCm.nd rfl (Or.inl rfl) (@aD3 _ _ _ _ _ _ _ _ _ hu (pv 3) (cT fK (pv 0) (bO (pv 1)) (bO (@aU _ _ _ _ _ _ _ _ bJ (pv 1) aG))) aJ ⟨rfl,rfl,rfl,rfl⟩) rfl (by first|exact .inl rfl|exact .inr rfl)) (@aB _ _ _ _ _ (bK (aN cF (pv 4) aJ (aV _)) (@aD _ _ _ (@aL _ _ _ _ (@cL _ _ _ _ _ (@aA _ _ _ _ _ lJ (@aA _ _ _ _ _ (pv 1) aC rfl) rfl)))) aR) (@aB _ _ _ _ _ (bY (lU PySem.F.plainAttrs_list PySem.F.slot_list_extend PySem.F.type_list_extend lQ (pv 2) (@aA _ _ _ _ _ (@aD3 _ _ _ _ _ _ _ _ _ hu (@aH9 _ _ _ _ _ (@iQ _ _ _ _ _ _ _ _ _ aJ (@cO _ _ _ _ (@aA _ _ _ _ _ aJ aC rfl)) (@iQ _ _ _ _ _ _ _ _ _ aJ (@cO _ _ _ _ (@aA _ _ _ _ _ aJ (@aA _ _ _ _ _ aJ (@aA _ _ _ _ _ aJ aC rfl) rfl) rfl)) aIc)) rfl rfl (fun z=>nomatch z) (by decide)) (pv 4) (@cO _ _ _ _ (@aA _ _ _ _ _ aJ aC rfl)) ⟨rfl,rfl,rfl,rfl⟩) aC rfl))) (@aB _ _ _ _ _ (bY (lU PySem.F.plainAttrs_list PySem.F.slot_list_append PySem.F.type_list_append sO (pv 2) (@aA _ _ _ _ _ (pv 4) aC rfl))) (@aD _ _ _ (@aL _ _ _ _ (@cL _ _ _ _ _ (@aA _ _ _ _ _ lJ (@aA _ _ _ _ _ (pv 1) aC rfl) rfl)))))))))),?_⟩
  refine fun dp nd=>⟨aF,wds "max ",rfl,by decide,?_⟩
  rw [aSy]
  have pd:hp≠dp:=fun e=>by rw [e,nd]at hh;cases hh
  have hd1:upd (upd H dp (.dK [])) dp (.dK (wds "max ")) dp=some (.dK (wds "max ")):=aF
  have s1:bA H (upd (upd H dp (.dK [])) dp (.dK (wds "max "))):=cN nd (sameNew nd)
  generalize upd (upd H dp (.dK [])) dp (.dK (wds "max "))=H1 at hd1 s1
  refine(fun(rest:∀(H2:Hp) (m:Str),(m=if(z.drop g).take 2=[109,105]then("min ":Str)else "max ")->bA H H2->H2 dp=some (.dK (wds m))->(?R:Hp->Prop) H2)=> ?main) ?restp
  case main=>
   refine⟨_,rfl,_,rfl,_,rfl,_,rfl,_,_,rfl,rfl,_,rfl,sl2 z8 ⟨rfl,_,rfl,?_⟩⟩
   by_cases hm:(z.drop g).take 2=[109,105]
   ·refine bD (decide_eq_true (by rw [hm];exact congrArg V.str (aK [109,105] rfl).symm)) ?_
    refine⟨_,rfl,dp,_,rfl,.inl ⟨wds "max ",.inr "m",hd1,rfl,by decide,rfl⟩,?_⟩
    rw [aQ9]
    have s2:bA H (upd H1 dp (.dK (wds "min "))):=cN nd s1
    have hd2:upd H1 dp (.dK (wds "min ")) dp=some (.dK (wds "min ")):=aF
    generalize upd H1 dp (.dK (wds "min "))=H2 at s2 hd2
    exact rest H2 _ (by rw [if_pos hm]) s2 hd2
   ·refine aZ (decide_eq_false fun e=>hm (cZ ((V.str.inj e).trans (aK [109,105] rfl)))) ?_
    exact rest H1 _ (by rw [if_neg hm]) s1 hd1
  case restp=>
   intro H2 m hm s2 hd2
   have hh2:=s2 _ _ hh
   refine⟨_,rfl,dp,rfl,.inl ⟨_,.inl hd2⟩,_,rfl,_,rfl,_,rfl,_,rfl,_,_,rfl,rfl,_,rfl,slG z8 ?_⟩
   refine⟨_,.inl ⟨wds m,.inr (tx ((z.drop g).take 1)),.inl hd2,rfl,rfl⟩,?_⟩
   rw [aPm]
   cases hw:wOf m ((z.drop g).take 1)with
   |none=>
    refine⟨_,rfl,rfl,_,rfl,bD (decide_eq_true rfl) ?_⟩
    refine⟨_,rfl,sz2,fun t nt=>?_⟩
    exact q t _ false g (Kp.of (s2.trans (sameNew nt))) aF (fun _=>aKl hw) fun e=>by cases e
   |some wd=>
    obtain⟨l,rfl,ll,l41,r1,r2,me⟩:=aGd (d:=d) (S:=S) hm hw
    obtain⟨ok2,len2⟩:=aT3 ll l41 ok
    have lne:tx l≠Str.ofString "":=fun e=>by
     have:=cZ (e.trans (aK [] rfl))
     rw [this]at ll
     revert ll
     decide
    refine⟨_,rfl,rfl,_,rfl,aZ (decide_eq_false fun e=>lne (V.str.inj e)) ?_⟩
    refine⟨_,rfl,.inl ⟨rfl,_,SqL.of hh2⟩,?_⟩
    refine fun dq nq=>⟨sz1,fun p1 n1=>?_⟩
    have a0:=bF (o:= .dK []) nq rfl
    generalize upd H2 dq (.dK [])=H3 at n1 a0⊢
    obtain⟨s3,e3⟩:=a0
    have a1:=bF (o:= .lst [V.str "by"]) n1 rfl
    refine⟨sz3,fun p2 n2=>?_⟩
    generalize upd H3 p1 _=H4 at n2 a1⊢
    obtain⟨s4,e4⟩:=a1
    have a2:=bF (o:= .lst [V.str "term",V.str " : ",V.str "term"]) n2 rfl
    generalize upd H4 p2 _=H5 at a2⊢
    obtain⟨s5,e5⟩:=a2
    refine⟨s5 _ _ (s4 _ _ e3),[(.inr "rest ",.ref p1),(.inr "? ",.ref p2)],rfl,(by show 2<=15;decide),?_⟩
    have e6:upd H5 dq (.dK (jU [] [(.inr "rest ",.ref p1),(.inr "? ",.ref p2)])) dq=some (.dK [(.inr "rest ",V.ref p1),(.inr "? ",V.ref p2)]):=aF
    have s6:bA H2 (upd H5 dq (.dK (jU [] [(.inr "rest ",.ref p1),(.inr "? ",.ref p2)]))):=cN nq (s3.trans (s4.trans s5))
    have p1q:p1≠dq:=fun e=>by rw [e,e3]at n1;cases n1
    have p2q:p2≠dq:=fun e=>by rw [e,s4 _ _ e3]at n2;cases n2
    have f1:upd H5 dq (.dK (jU [] [(.inr "rest ",.ref p1),(.inr "? ",.ref p2)])) p1=some (.lst [V.str "by"]):=by rw [aX p1q];exact s5 _ _ e4
    have f2:upd H5 dq (.dK (jU [] [(.inr "rest ",.ref p1),(.inr "? ",.ref p2)])) p2=some (.lst [V.str "term",V.str " : ",V.str "term"]):=by rw [aX p2q];exact e5
    generalize upd H5 dq (.dK (jU [] [(.inr "rest ",.ref p1),(.inr "? ",.ref p2)]))=H6 at e6 s6 f1 f2⊢
    refine⟨dq,rfl,.inl ⟨_,.inl e6⟩,_,rfl,sz1,fun p3 n3=>?_⟩
    have a7:=bF (o:= .lst [V.str "term"]) n3 rfl
    generalize upd H6 p3 _=H7 at a7⊢
    obtain⟨s7,e7⟩:=a7
    have hh7:=s7 _ _ (s6 _ _ hh2)
    have s27:=s2.trans (s6.trans s7)
    refine⟨_,.inl ⟨_,.inr (tx l),.inl (s7 _ _ e6),rfl,rfl⟩,?_⟩
    obtain⟨pl,xs,ev,el,eb⟩:∃(pl:Addr) (xs:List V),(uP ([(.inr "rest ",V.ref p1),(.inr "? ",V.ref p2)]:List (Key×V)) (.inr (tx l))).getD (.ref p3)=V.ref pl/\H7 pl=some (.lst xs)/\hv S++xs++[V.str (tx l)]=hv (.sg l::(aGl l d++S)):=by
     unfold aGl
     by_cases c1:l=[114,101,115,116,32]
     ·refine⟨p1,_,by rw [c1,eZ (nY (aK [114,101,115,116,32] rfl))];rfl,s7 _ _ f1,?_⟩
      rw [if_pos c1,dO]
      show _=hv (.by_::S)++_
      rw [dO,show(tx (eQ .by_))=Str.ofString "by" from(aK [98,121] rfl).symm]
      rfl
     ·rw [if_neg c1,eY (key_ne (aK [114,101,115,116,32] rfl) c1)]
      by_cases c2:l=[63,32]
      ·refine⟨p2,_,by rw [c2,eZ (nY (aK [63,32] rfl))];rfl,s7 _ _ f2,?_⟩
       rw [if_pos c2,dO]
       show _=hv (.tm d:: .sg [32,58,32]:: .tm d::S)++_
       rw [dO,dO,dO,show(tx (eQ (.tm d)))=Str.ofString "term" from(aK [116,101,114,109] rfl).symm,show(tx (eQ (.sg [32,58,32])))=Str.ofString " : " from(aK [32,58,32] rfl).symm]
       simp [eQ]
      ·refine⟨p3,_,by rw [eY (key_ne (aK [63,32] rfl) c2)];rfl,e7,?_⟩
       rw [if_neg c2,dO]
       show _=hv (.tm d::S)++_
       rw [dO,show(tx (eQ (.tm d)))=Str.ofString "term" from(aK [116,101,114,109] rfl).symm]
       rfl
    rw [ev]
    have xl:(hv S++xs).length+1<=S.length+4:=by
     have:=congrArg List.length eb
     rw [aFp,List.length_append]at this
     show(hv S++xs).length+ [V.str (tx l)].length<=_
     rw [this]
     exact len2
    refine⟨hp,pl,hv S,xs,rfl,rfl,hh7,el,bU (by rw [<-List.length_append];omega),?_⟩
    refine⟨_,rfl,.inl ⟨rfl,_,SqL.of aF⟩,_,rfl,hp,hv S++xs,_,rfl,rfl,aF,bU (by omega),?_⟩
    refine⟨_,rfl,sz2,fun t nt=>?_⟩
    have thp:t≠hp:=fun e=>by rw [e,aF]at nt;cases nt
    refine q t _ true g ?_ aF (fun e=>by cases e) fun _=>⟨_,?_,me,ok2,gl,len2,.inr ⟨rfl,rfl,rfl⟩⟩
    ·exact fun b o hb nb=>by
      have tb:b≠t:=fun e=>by
       rw [e]at hb nb
       rw [aX nb,aX nb,s27 _ _ hb]at nt
       cases nt
      rw [aX tb,aX nb,aX nb]
      exact s27 _ _ hb
    ·rw [aX (Ne.symm thp),aF]
     exact congrArg (fun x=>some (HO.lst x)) eb
theorem aEq {d g:Nat} {S:List Wn} {z:List Nat} (h:z[g]? ≠some 40∨d=0) (h91:z[g]? ≠some 91):bB (.tm d::S) (z.drop g) g=if(gG true z g).1=true then bB S (z.drop (gG true z g).2) (gG true z g).2 else .error (gG true z g).2:=by
 unfold gG
 rw [if_pos rfl]
 by_cases h40:z[g]? =some 40
 ·have d0:d=0:=h.resolve_left fun n=>n h40
  subst d0
  have hn:dW z g= .error g:=by unfold dW cC;rw [if_neg (by rw [h40];decide),h40];rfl
  rw [hn,aQ h40]
  rfl
 ·rw [tW (M:=TmM) h40]
  unfold iZ
  rw [if_neg h91]
  cases dW z g<;>rfl
theorem aGp {g:Nat} {S:List Wn} {z:List Nat}:bB (.num::S) (z.drop g) g=if(gG true z g).1=true then bB S (z.drop (gG true z g).2) (gG true z g).2 else .error (gG true z g).2:=by
 rw [qL]
 unfold gG
 rw [if_pos rfl]
 cases dW z g<;>rfl
theorem aI6 {g:Nat} {S:List Wn} {z:List Nat}:bB (.by_::S) (z.drop g) g=if(gG false z g).1=true then bB S (z.drop (gG false z g).2) (gG false z g).2 else .error (gG false z g).2:=by
 rw [uU]
 unfold gG
 cases cC z g<;>rfl
theorem aQq {s:Bool} {z:List Nat} {g:Nat} (h:(gG s z g).1=true):g<(gG s z g).2/\(gG s z g).2<=z.length:=by
 have fg:∀g m g',cC z g= .ok (m,g')->g<g':=fun g m g' e=>by
  unfold cC at e
  cases hg:z[g]? with
  |none=>rw [hg]at e;cases e
  |some c=>
   rw [hg]at e
   dsimp only at e
   split at e
   ·rename_i hd
    split at e
    ·cases e;omega
    ·cases e
     rw [aQ hg,oM (k:=12) hd]
     omega
   ·cases e
 have fl:∀g m g',cC z g= .ok (m,g')->g<g'/\g'<=z.length:=fun g m g' e=>⟨fg g m g' e,vL e⟩
 cases s with
 |false=>
  unfold gG at h⊢
  cases e:cC z g with
  |error p=>rw [e]at h;cases h
  |ok v=>exact fl g v.1 v.2 e
 |true=>
  unfold gG at h⊢
  rw [if_pos rfl]at h⊢
  cases e:dW z g with
  |error p=>rw [e]at h;cases h
  |ok v=>
   show g<v.2/\v.2<=z.length
   unfold dW at e
   split at e
   ·split at e
    ·cases e
    ·cases e1:cC z (g+1)with
     |error p=>rw [e1]at e;cases e
     |ok u=>
      rw [e1]at e
      cases e
      have:=fl (g+1) u.1 u.2 e1
      exact⟨Nat.lt_trans (Nat.lt_succ_self g) this.1,this.2⟩
   ·cases e1:cC z g with
    |error p=>rw [e1]at e;cases e
    |ok u=>rw [e1]at e;cases e;exact fl g u.1 u.2 e1
theorem aIi {z:List Nat}:∀{l:List Nat} {g j:Nat},j<=l.length->(∀i,i<j->z[g+i]? =l[i]?)->(j=l.length->pas l z g= .ok (g+j))/\(∀c,l[j]? =some c->z[g+j]? ≠some c->pas l z g= .error (g+j))
 | [],g,j,hj,_=>by
  have:j=0:=by simpa using hj
  subst this
  exact⟨fun _=>rfl,fun c h=>by cases h⟩
 |x::l,g,0,_,_=>⟨fun h=>by simp at h,fun c h hz=>by
   cases h
   rw [Nat.add_zero]at hz⊢
   rw [pas,if_neg hz]⟩
 |x::l,g,j+1,hj,hi=>by
  have h0:=hi 0 (by omega)
  have h0:z[g]? =some x:=h0
  obtain⟨a,b⟩:=aIi (z:=z) (l:=l) (g:=g+1) (j:=j) (by simpa using hj) fun i h=>by
   have:=hi (i+1) (by omega)
   rw [show g+1+i=g+(i+1) by omega]
   simpa using this
  rw [pas,if_pos h0,show g+(j+1)=g+1+j by omega]
  exact⟨fun h=>a (by simpa using h),fun c h hz=>b c (by simpa using h) hz⟩
theorem aRb:∀l∈lits,l.length<=5/\1<=l.length:=by decide
theorem aO4:∀l∈lits,l≠[116,101,114,109]/\l≠[110,117,109,98,101,114]/\l≠[98,121]/\l.take 4≠[109,111,114,101]/\l≠[109,97,100,101]:=by decide
theorem sE {hp:Addr} {x:Wn} {S:List Wn} {z:List Nat} {g:Nat} {H:Hp} {Q:VK} (q:Told hp x S z g H Q) (hh:H hp=some (.lst (hv S))) {t:Addr} {H':Hp} {b:Bool} {p:Nat} (s:bA H H') (e:H' t=some (.tup [.bl b,cG p])) (h1:b=false->bB (x::S) (z.drop g) g= .error p) (h2:b=true->tQ x S z g S p):Q (.ref t) H':=
 q t H' b p (Kp.of s) e h1 fun hb=>⟨S,s _ _ hh,h2 hb⟩
theorem xZ {hp:Addr} {x:Wn} {S S':List Wn} {z:List Nat} {g p:Nat} {H H1:Hp} {Q:VK} (q:Told hp x S z g H Q) (hh:H hp=some (.lst (hv S))) (s:bA H H1) {xs:List V} (e:xs=hv S') (st:tQ x S z g S' p) {t:Addr} (nt:upd H1 hp (.lst xs) t=none):Q (.ref t) (upd (upd H1 hp (.lst xs)) t (.tup [.bl true,cG p])):=by
 have thp:t≠hp:=fun e=>by rw [e,aF]at nt;cases nt
 refine q t _ true p ?_ aF (fun e=>by cases e) fun _=>⟨S',?_,st⟩
 ·exact fun b o hb nb=>by
   have tb:b≠t:=fun e=>by
    rw [e]at hb nb
    rw [aX nb,s _ _ hb]at nt
    cases nt
   rw [aX tb,aX nb]
   exact s _ _ hb
 ·rw [aX (Ne.symm thp),aF,e]
theorem wx {x:String} {l m:List Nat} (h:(Str.ofString x).cps.toList=m):decide (V.str (tx l)=V.str (Str.ofString x))=decide (l=m):=by
 rw [decide_eq_decide,aK m h]
 exact⟨fun e=>cZ (V.str.inj e),fun e=>by rw [e]⟩
theorem hv4 (S:List Wn) (a b c d:Wn):hv S++[V.str (tx (eQ a)),V.str (tx (eQ b)),V.str (tx (eQ c)),V.str (tx (eQ d))]=hv (d::c::b::a::S):=by
 rw [dO,dO,dO,dO]
 simp
theorem hv2 (S:List Wn) (a b:Wn):hv S++[V.str (tx (eQ a)),V.str (tx (eQ b))]=hv (b::a::S):=by
 rw [dO,dO]
 simp
theorem wT {x:String} {l m:List Nat} (h:(Str.ofString x).cps.toList=m) (e:l=m):decide (V.str (tx l)=V.str (Str.ofString x))=true:=by rw [wx h];exact decide_eq_true e
theorem wF {x:String} {l m:List Nat} (h:(Str.ofString x).cps.toList=m) (e:l≠m):decide (V.str (tx l)=V.str (Str.ofString x))=false:=by rw [wx h];exact decide_eq_false e
theorem aUh (a b:Str):eqV (.str a) (.str b)=decide (b=a):=by
 rw [Bool.eq_iff_iff,decide_eq_true_iff]
 show(a==b)=true↔_
 rw [beq_iff_eq]
 exact eq_comm
theorem in3 {K:W.Frag} {H:Hp} {Q:VK} {p:Addr} {a b c y:Str} (hp:H p=some (.tup [.str a,.str b,.str c])) (q:Q (.bl (decide (y=a∨y=b∨y=c))) H):aNv K false (.str y) (.ref p) H Q:=by
 refine⟨.fl (.str y),p,_,[.fl (.str a),.fl (.str b),.fl (.str c)],iW.den K (Av:=Av0) _ ⟨rfl,rfl⟩,rfl,.inr (SqT.of hp),cQ.dens K (Av:=Av0) _ (.cons ⟨rfl,rfl⟩ (.cons ⟨rfl,rfl⟩ (.cons ⟨rfl,rfl⟩ .nil))),by simp [D.dep,D.deps],?_⟩
 have e:([D.fl (.str a),.fl (.str b),.fl (.str c)].any fun e=>e.eq (.fl (.str y)))=decide (y=a∨y=b∨y=c):=by
  rw [Bool.eq_iff_iff,decide_eq_true_iff]
  simp only [List.any_cons,List.any_nil,D.eq,aUh,Bool.or_eq_true,decide_eq_true_iff,Bool.or_false]
 rw [if_neg Bool.false_ne_true,e]
 exact q
theorem aMh {k g:Nat} {S:List Wn} {z:List Nat} (h:k=0∨z[g]? ≠some 32):bB (.more k::S) (z.drop g) g=if decide (z[g]? =some 93)=true then bB S (z.drop (g+if decide (z[g]? =some 93)=true then 1 else 0)) (g+if decide (z[g]? =some 93)=true then 1 else 0)else .error (g+if decide (z[g]? =some 93)=true then 1 else 0):=by
 have e:dR k z g= .ok ([],g):=by
  cases k with
  |zero=>rfl
  |succ k=>rw [dR,if_neg (h.resolve_left (by omega))]
 rw [tU,e]
 dsimp only
 rw [pas]
 by_cases h9:z[g]? =some 93
 ·rw [if_pos h9,decide_eq_true h9];rfl
 ·rw [if_neg h9,decide_eq_false h9];rfl
theorem aDf {j:Nat} (h:j<=1):itx ((NumText.digitsVal [48+(j+1)]:Nat)-1:Int)=[48+j]:=by
 match j,h with
 |0,_=>exact(mX 0).trans (rK (by decide))
 |1,_=>exact(mX 1).trans (rK (by decide))
theorem aOk (j:Nat):Str.ofString "more "++tx [48+j]=tx (eQ (.more j)):=by
 rw [aK [109,111,114,101,32] rfl]
 exact tV _ _
theorem aHq {σ:L2.St} {H:Hp} {Q:Option Int->Hp->Prop} (q:Q none H):aHv σ H Q:=q
theorem aTj {l:List Nat} (h1:l≠[116,101,114,109]) (h2:l≠[110,117,109,98,101,114]) (h3:l≠[98,121]):¬(tx l=Str.ofString "term"∨tx l=Str.ofString "number"∨tx l=Str.ofString "by"):=fun h=>by
 rcases h with h|h|h
 ·exact h1 (cZ (h.trans (aK [116,101,114,109] rfl)))
 ·exact h2 (cZ (h.trans (aK [110,117,109,98,101,114] rfl)))
 ·exact h3 (cZ (h.trans (aK [98,121] rfl)))
theorem xU:aM ["_law_want","_law_text_here","_law_at","_law_heap","_law_good"] ["_law_want","_law_text_here","_law_at","_law_heap"] (aH aBk):=bG
theorem aJ5 {f:Addr} {fd:FuncData} (F:Fun K "_law_wanted" "_law_wanted" aBk f fd) (c_numEnd:Cal P w K mg base CX0 1 "_law_number_end" ["_law_text_here","_law_at","_law_signed"] xH) (c_wordW:Cal P w K mg base CX0 1 "_law_word" ["_law_text_here","_law_at","_law_heap"] aH1) (T:Txt K mg):bC P w K mg base CX0 2 f fd ["_law_want","_law_text_here","_law_at","_law_heap"] aE1:=by
 refine F.ok xU (fun vs H Q E h=>?_) (fun cdv A outer s H vs Q E hr h=>?_)
 ·obtain⟨x,S,z,g,hp,rfl,_⟩:=h
  rfl
 ·obtain⟨x,S,z,g,hp,rfl,zl,gl,hh,ok,sl,q⟩:=h
  have hu:=wU hr
  have z8:z.length<=8000:=by omega
  have hl:=aFp S
  refine⟨_,(@aB _ _ _ _ _ (bK (PW.pt (mZ (aN cF (pv 0) aJ (aV _)) (mZ (aN cF (cT fK (pv 1) (bO (pv 2)) (bO (@aU _ _ _ _ _ _ _ _ bJ (pv 2) aG))) aJ (aV _)) (mG (aN yR (lU PySem.F.plainAttrs_list PySem.F.slot_list_count PySem.F.type_list_count aOs (pv 3) (@aA _ _ _ _ _ aJ aC rfl)) aG (aV _)))))) (@aB _ _ _ _ _ (bY (lU PySem.F.plainAttrs_list PySem.F.slot_list_extend PySem.F.type_list_extend lQ (pv 3) (@aA _ _ _ _ _ (@cO _ _ _ _ (@aA _ _ _ _ _ aJ (@aA _ _ _ _ _ aJ (@aA _ _ _ _ _ aJ (@aA _ _ _ _ _ aJ aC rfl) rfl) rfl) rfl)) aC rfl))) (@aD _ _ _ (@aL _ _ _ _ (@cL _ _ _ _ _ (@aA _ _ _ _ _ lJ (@aA _ _ _ _ _ (@aU _ _ _ _ _ _ _ _ bJ (pv 2) aG) aC rfl) rfl))))) aR) (@aB _ _ _ _ _ (bK (PW.pt (mZ (aN cF (pv 0) aJ (aV _)) (mG (aN cF (cT fK (pv 1) (bO (pv 2)) (bO (@aU _ _ _ _ _ _ _ _ bJ (pv 2) aG))) aJ (aV _))))) (@aB _ _ _ _ _ (bY (lU PySem.F.plainAttrs_list PySem.F.slot_list_extend PySem.F.type_list_extend lQ (pv 3) (@aA _ _ _ _ _ (@cO _ _ _ _ (@aA _ _ _ _ _ aJ (@aA _ _ _ _ _ aJ (@aA _ _ _ _ _ aJ (@aA _ _ _ _ _ aJ aC rfl) rfl) rfl) rfl)) aC rfl))) (@aD _ _ _ (@aL _ _ _ _ (@cL _ _ _ _ _ (@aA _ _ _ _ _ lJ (@aA _ _ _ _ _ (@aU _ _ _ _ _ _ _ _ bJ (pv 2) aG) aC rfl) rfl))))) aR) (@aB _ _ _ _ _ (bK (aN (aSr hu) (pv 0) (@cL _ _ _ _ _ (@aA _ _ _ _ _ aJ (@aA _ _ _ _ _ aJ (@aA _ _ _ _ _ aJ aC rfl) rfl) rfl)) rfl) (@aD _ _ _ (@aL _ _ _ _ (cV c_numEnd (hr.mo) rfl aP (@aA _ _ _ _ _ (pv 1) (@aA _ _ _ _ _ (pv 2) (@aA _ _ _ _ _ (jC uJ (pv 0) aJ (aV _)) aC rfl) rfl) rfl)))) aR) (@aB _ _ _ _ _ (bK (aN cF (cT fK (pv 0) vR (bO aG)) aJ (aV _)) (@aB _ _ _ _ _ (bK (PW.pt (aFb (aN cF (pv 0) aJ (aV _)) (yS (aN uJ (cT fK (pv 1) (bO (pv 2)) (bO (@aU _ _ _ _ _ _ _ _ bJ (pv 2) aG))) aJ (aV _))))) (@aD _ _ _ (@aL _ _ _ _ (@cL _ _ _ _ _ (@aA _ _ _ _ _ (jC cF (cT fK (pv 1) (bO (pv 2)) (bO (@aU _ _ _ _ _ _ _ _ bJ (pv 2) aG))) aJ (aV _)) (@aA _ _ _ _ _ (@aU _ _ _ _ _ _ _ _ bJ (pv 2) (cP tY rfl T.int boot_int (@aA _ _ _ _ _ (jC cF (cT fK (pv 1) (bO (pv 2)) (bO (@aU _ _ _ _ _ _ _ _ bJ (pv 2) aG))) aJ (aV _)) aC rfl))) aC rfl) rfl)))) aR) (@aB _ _ _ _ _ (bY (lU PySem.F.plainAttrs_list PySem.F.slot_list_extend PySem.F.type_list_extend lQ (pv 3) (@aA _ _ _ _ _ (@cO _ _ _ _ (@aA _ _ _ _ _ (@aU _ _ _ _ _ _ _ _ dH aJ (cP jG rfl T.str boot_str (@aA _ _ _ _ _ (@aU _ _ _ _ _ _ _ _ qC (cP aA6 rfl T.int boot_int (@aA _ _ _ _ _ (cT fK (pv 0) (bO aG) vR) aC rfl)) aG) aC rfl))) (@aA _ _ _ _ _ aJ aC rfl) rfl)) aC rfl))) (@aD _ _ _ (@aL _ _ _ _ (@cL _ _ _ _ _ (@aA _ _ _ _ _ lJ (@aA _ _ _ _ _ (@aU _ _ _ _ _ _ _ _ bJ (pv 2) aG) aC rfl) rfl)))))) aR) (@aB _ _ _ _ _ (bK (aN cF (pv 0) aJ (aV _)) (@aD _ _ _ (@aL _ _ _ _ (cV c_wordW (hr.mo) rfl aP (@aA _ _ _ _ _ (pv 1) (@aA _ _ _ _ _ (pv 2) (@aA _ _ _ _ _ (pv 3) aC rfl) rfl) rfl)))) aR) (@aB _ _ _ _ _ (@aY _ _ 4 _ _ _ _ xU.nd rfl (Or.inl rfl) aG rfl (by first|exact .inl rfl|exact .inr rfl)) (@aB _ _ _ _ _ (lF PassesOwn.never (PW.pt (mZ (aN yR (pv 4) (bN fD (by rfl) T.len PySem.boot_len (@aA _ _ _ _ _ (pv 0) aC rfl)) (aV _)) (mG (aN cF (cT fK (pv 1) (bO (@aU _ _ _ _ _ _ _ _ bJ (pv 2) (pv 4))) (bO (@aU _ _ _ _ _ _ _ _ bJ (@aU _ _ _ _ _ _ _ _ bJ (pv 2) (pv 4)) aG))) (@cU _ _ _ _ _ _ _ wI (pv 0) (pv 4) (fun _ _=>rfl)) (aV _))))) (@aD _ _ _ (@aY _ _ 4 _ _ _ _ xU.nd rfl (Or.inl rfl) (@aU _ _ _ _ _ _ _ _ bJ (pv 4) aG) rfl (by first|exact .inl rfl|exact .inr rfl)))) (@aD _ _ _ (@aL _ _ _ _ (@cL _ _ _ _ _ (@aA _ _ _ _ _ (jC cF (pv 4) (bN fD (by rfl) T.len PySem.boot_len (@aA _ _ _ _ _ (pv 0) aC rfl)) (aV _)) (@aA _ _ _ _ _ (@aU _ _ _ _ _ _ _ _ bJ (pv 2) (pv 4)) aC rfl) rfl))))))))))),?_⟩
  have stay:∀{y:Wn} {b:Bool} {p:Nat},OkS (y::S)->bB (y::S) (z.drop g) g=(if b=true then bB S (z.drop p) p else .error p)->(b=true->g<p/\p<=z.length)->(b=false->bB (y::S) (z.drop g) g= .error p)/\(b=true->tQ y S z g S p):=fun{y b p} oy e h=>by
   refine⟨fun hb=>by rw [e,hb];rfl,fun hb=>?_⟩
   rw [hb,if_pos rfl]at e
   exact⟨e,oy.2,(h hb).2,by omega,.inl (h hb).1⟩
  have numC:∀(y:Wn) (sg:Bool) (H1:Hp) {b:Bool},b=sg->OkS (y::S)->Told hp y S z g H Q->bA H H1->(bB (y::S) (z.drop g) g=if(gG sg z g).1=true then bB S (z.drop (gG sg z g).2) (gG sg z g).2 else .error (gG sg z g).2)->xH [.str (tx z),cG g,.bl b] H1 Q E0:=fun y sg H1 b hb oy qy s1 hm=>by
   subst hb
   refine⟨z,g,b,rfl,z8,fun t H2 s2 e2=>?_⟩
   obtain⟨a,b⟩:=stay oy hm fun hb=>aQq hb
   exact sE qy hh (s1.trans s2) e2 a b
  have up1:∀{S':List Wn} {y:Wn},bB (y::S) (z.drop g) g=bB S' (z.drop (g+1)) (g+1)->OkS S'->g<z.length->S'.length<=S.length+4->tQ y S z g S' (g+1):=fun e o l n=>⟨e,o,l,n,.inl (Nat.lt_succ_self g)⟩
  cases x with
  |tm d=>
   have od:d+lZ S=12:=ok.1
   refine⟨_,rfl,rfl,_,rfl,bD (wT rfl rfl) ?_⟩
   refine⟨_,rfl,_,rfl,_,rfl,_,rfl,_,_,rfl,rfl,_,rfl,slG z8 ⟨rfl,_,rfl,?_⟩⟩
   rw [show Str.ofString "("=tx [40]from aK [40] rfl,eq1]
   refine(fun(r1:(z[g]? ≠some 40∨d=0)->(?R1:Prop))=> ?main1) ?rest1
   case main1=>
    by_cases h40:z[g]? =some 40
    ·refine bD (decide_eq_true h40) ?_
     obtain⟨c1,c2⟩:=aMd S
     refine⟨_,rfl,.inl ⟨rfl,_,SqL.of hh⟩,hp,_,_,rfl,rfl,by rw [hh,c1],_,_,rfl,rfl,_,rfl,?_⟩
     rw [show Str.ofString ")"=tx [41]from aK [41] rfl,c2]
     by_cases hc:lZ S<12
     ·refine bD (decide_eq_true (by omega)) ?_
      obtain⟨e,rfl⟩:∃e,d=e+1:=⟨d-1,by omega⟩
      refine⟨_,rfl,.inl ⟨rfl,_,SqL.of hh⟩,sz4,fun p1 n1=>?_⟩
      generalize ge:upd H p1 _=H1
      obtain⟨s1,e1⟩:=bF n1 ge
      refine⟨hp,p1,hv S,_,rfl,rfl,s1 _ _ hh,e1,bU (by rw [hl];show _+4<=_;omega),?_⟩
      refine⟨_,rfl,_,_,rfl,rfl,sz2,fun t nt=>?_⟩
      have gz:=(List.getElem?_eq_some_iff.mp h40).1
      refine xZ (S':= .tm e:: .sg [32]:: .made e:: .sg [41]::S) (p:=g+1) q hh s1 ?_ (up1 ?_ ?_ gz (by simp)) nt
      ·rw [<-hv4,show(Str.ofString "made")=tx (eQ (.made e))from aK [109,97,100,101] rfl,show(Str.ofString " ")=tx (eQ (.sg [32]))from aK [32] rfl,show(Str.ofString "term")=tx (eQ (.tm e))from aK [116,101,114,109] rfl]
       rfl
      ·rw [aQ h40];rfl
      ·have k1:lZ (.sg [41]::S)=lZ S+1:=by rw [cnt_cons];rfl
       have k2:lZ (.made e:: .sg [41]::S)=lZ S+1:=by rw [aB1 (x:= .made e) (show([109,97,100,101]:List Nat)≠[41] by decide),k1]
       have k3:lZ (.sg [32]:: .made e:: .sg [41]::S)=lZ S+1:=by rw [aB1 (x:= .sg [32]) (by decide),k2]
       refine⟨?_,(show [32]∈lits by decide),?_,(show [41]∈lits by decide),ok.2⟩
       ·show e+lZ (.sg [32]:: .made e:: .sg [41]::S)=12
        rw [k3];omega
       ·show e+lZ (.sg [41]::S)=12
        rw [k1];omega
     ·refine aZ (decide_eq_false (by omega)) ?_
      exact r1 (.inr (by omega))
    ·refine aZ (decide_eq_false h40) (fU ?_)
     exact r1 (.inl h40)
   case rest1=>
    intro h40
    refine⟨_,rfl,rfl,_,rfl,bD (wT rfl rfl) ?_⟩
    refine⟨_,rfl,_,rfl,_,rfl,_,rfl,_,_,rfl,rfl,_,rfl,slG z8 ⟨rfl,_,rfl,?_⟩⟩
    rw [show Str.ofString "["=tx [91]from aK [91] rfl,eq1]
    by_cases h91:z[g]? =some 91
    ·refine bD (decide_eq_true h91) ?_
     refine⟨_,rfl,.inl ⟨rfl,_,SqL.of hh⟩,sz4,fun p1 n1=>?_⟩
     generalize ge:upd H p1 _=H1
     obtain⟨s1,e1⟩:=bF n1 ge
     refine⟨hp,p1,hv S,_,rfl,rfl,s1 _ _ hh,e1,bU (by rw [hl];show _+4<=_;omega),?_⟩
     refine⟨_,rfl,_,_,rfl,rfl,sz2,fun t nt=>?_⟩
     have gz:=(List.getElem?_eq_some_iff.mp h91).1
     refine xZ (S':= .num:: .sg [32]:: .num:: .more 2::S) (p:=g+1) q hh s1 ?_ (up1 ?_ ⟨True.intro,(show [32]∈lits by decide),True.intro,(show 2<=2 by decide),ok.2⟩ gz (by simp)) nt
     ·rw [<-hv4,show(Str.ofString "more 2")=tx (eQ (.more 2))from aK [109,111,114,101,32,50] rfl,show(Str.ofString " ")=tx (eQ (.sg [32]))from aK [32] rfl,show(Str.ofString "number")=tx (eQ .num)from aK [110,117,109,98,101,114] rfl]
     ·rw [aQ h91];rfl
    ·refine aZ (decide_eq_false h91) ?_
     refine⟨_,rfl,sz3,fun p1 n1=>?_⟩
     generalize ge:upd H p1 _=H1
     obtain⟨s1,e1⟩:=bF n1 ge
     refine in3 e1 ⟨_,rfl,bD (decide_eq_true (.inl (aK [116,101,114,109] rfl).symm)) ?_⟩
     refine⟨_,rfl,_,rfl,_,rfl,rfl,?_⟩
     exact numC (.tm d) true H1 (congrArg not (wF (m:=[98,121]) rfl (show([116,101,114,109]:List Nat)≠[98,121] by decide))) ok q s1 (aEq h40 h91)
  |num=>
   refine⟨_,rfl,rfl,_,rfl,aZ (wF (m:=[116,101,114,109]) rfl (show([110,117,109,98,101,114]:List Nat)≠[116,101,114,109] by decide)) (fU ?_)⟩
   refine⟨_,rfl,rfl,_,rfl,aZ (wF (m:=[116,101,114,109]) rfl (show([110,117,109,98,101,114]:List Nat)≠[116,101,114,109] by decide)) (fU ?_)⟩
   refine⟨_,rfl,sz3,fun p1 n1=>?_⟩
   generalize ge:upd H p1 _=H1
   obtain⟨s1,e1⟩:=bF n1 ge
   refine in3 e1 ⟨_,rfl,bD (decide_eq_true (.inr (.inl (aK [110,117,109,98,101,114] rfl).symm))) ?_⟩
   refine⟨_,rfl,_,rfl,_,rfl,rfl,?_⟩
   exact numC .num true H1 (congrArg not (wF (m:=[98,121]) rfl (show([110,117,109,98,101,114]:List Nat)≠[98,121] by decide))) ok q s1 aGp
  |by_=>
   refine⟨_,rfl,rfl,_,rfl,aZ (wF (m:=[116,101,114,109]) rfl (show([98,121]:List Nat)≠[116,101,114,109] by decide)) (fU ?_)⟩
   refine⟨_,rfl,rfl,_,rfl,aZ (wF (m:=[116,101,114,109]) rfl (show([98,121]:List Nat)≠[116,101,114,109] by decide)) (fU ?_)⟩
   refine⟨_,rfl,sz3,fun p1 n1=>?_⟩
   generalize ge:upd H p1 _=H1
   obtain⟨s1,e1⟩:=bF n1 ge
   refine in3 e1 ⟨_,rfl,bD (decide_eq_true (.inr (.inr (aK [98,121] rfl).symm))) ?_⟩
   refine⟨_,rfl,_,rfl,_,rfl,rfl,?_⟩
   exact numC .by_ false H1 (congrArg not (wT (m:=[98,121]) rfl rfl)) ok q s1 aI6
  |more k=>
   have ne:∀l:List Nat,l.length≠6∨l.head? ≠some 109->eQ (.more k)≠l:=fun l h e=>by rw [<-e]at h;rcases h with h|h<;>exact h rfl
   refine⟨_,rfl,rfl,_,rfl,aZ (wF (m:=[116,101,114,109]) rfl (ne _ (by decide))) (fU ?_)⟩
   refine⟨_,rfl,rfl,_,rfl,aZ (wF (m:=[116,101,114,109]) rfl (ne _ (by decide))) (fU ?_)⟩
   refine⟨_,rfl,sz3,fun p1 n1=>?_⟩
   generalize ge:upd H p1 _=H1
   obtain⟨s1,e1⟩:=bF n1 ge
   refine in3 e1 ⟨_,rfl,aZ (decide_eq_false (aTj (ne _ (by decide)) (ne _ (by decide)) (ne _ (by decide)))) ?_⟩
   have hh1:=s1 _ _ hh
   refine⟨_,rfl,_,rfl,aRi (k:=4) (by show 6<=8000;decide) ⟨rfl,_,rfl,bD (wT (m:=[109,111,114,101]) rfl rfl) ?_⟩⟩
   have he:decide (V.str (tx ((z.drop g).take 1))=V.str (Str.ofString "]"))=decide (z[g]? =some 93):=by rw [show Str.ofString "]"=tx [93]from aK [93] rfl,eq1]
   have h0:decide (V.str (tx (eQ (.more k)))=V.str (Str.ofString "more 0"))=decide (k=0):=by
    rw [wx (m:=[109,111,114,101,32,48]) rfl,decide_eq_decide]
    exact⟨fun e=>by have:=(List.cons.inj (List.cons.inj (List.cons.inj (List.cons.inj (List.cons.inj (List.cons.inj e).2).2).2).2).2).1;omega,fun e=>by rw [e];rfl⟩
   refine(fun(fin:(k=0∨z[g]? ≠some 32)->(?R2:Prop))=> ?main2) ?fin2
   case main2=>
    refine⟨_,rfl,rfl,_,rfl,?_⟩
    by_cases k0:k=0
    ·refine bD (h0.trans (decide_eq_true k0)) (nO ?_)
     exact fin (.inl k0)
    ·refine aZ (h0.trans (decide_eq_false k0)) ?_
     refine⟨_,rfl,_,rfl,_,rfl,_,rfl,_,_,rfl,rfl,_,rfl,slG z8 ⟨rfl,_,rfl,?_⟩⟩
     rw [show Str.ofString " "=tx [32]from aK [32] rfl,eq1]
     by_cases h32:z[g]? =some 32
     ·refine aZ (by rw [decide_eq_true h32];rfl) ?_
      obtain⟨j,rfl⟩:∃j,k=j+1:=⟨k-1,by omega⟩
      have j1:j<=1:=by have:j+1<=2:=ok.1;omega
      have gz:=(List.getElem?_eq_some_iff.mp h32).1
      have ji:((NumText.digitsVal [48+(j+1)]:Nat)-1:Int)=(j:Int):=by
       match j,j1 with
       |0,_=>rfl
       |1,_=>rfl
      refine⟨_,rfl,.inl ⟨rfl,_,SqL.of hh1⟩,_,rfl,_,rfl,?_⟩
      refine aHq (aNk (k:=5) (by show 6<=8000;decide) ⟨[48+(j+1)],rfl,by simp,?_,(by show 1<=640;decide),_,_,rfl,rfl,_,rfl,?_,_,_,rfl,rfl,?_,sz2,fun p2 n2=>?_⟩)
      ·intro c hc
       rw [List.mem_singleton.mp hc]
       omega
      ·rw [ji]
       match j,j1 with
       |0,_=>decide
       |1,_=>decide
      ·rw [aDf j1,cJ]
       exact bU (show 5+1<=9000 by decide)
      rw [aDf j1,aOk]
      generalize ge2:upd H1 p2 _=H2
      obtain⟨s2,e2⟩:=bF n2 ge2
      refine⟨hp,p2,hv S,_,rfl,rfl,s2 _ _ hh1,e2,bU (by rw [hl];show _+2<=_;omega),?_⟩
      refine⟨_,rfl,_,_,rfl,rfl,sz2,fun t nt=>?_⟩
      refine xZ (S':= .num:: .more j::S) (p:=g+1) q hh (s1.trans s2) ?_ (up1 ?_ ⟨True.intro,(show j<=2 by omega),ok.2⟩ gz (by simp)) nt
      ·rw [<-hv2,show(Str.ofString "number")=tx (eQ .num)from aK [110,117,109,98,101,114] rfl]
      ·rw [aQ h32];rfl
     ·refine bD (by rw [decide_eq_false h32];rfl) ?_
      exact fin (.inr h32)
   case fin2=>
    intro hf
    refine⟨_,rfl,_,rfl,_,rfl,_,rfl,_,_,rfl,rfl,_,rfl,slG z8 ⟨rfl,?_⟩⟩
    refine⟨_,rfl,_,rfl,_,rfl,_,rfl,_,rfl,_,_,rfl,rfl,_,rfl,slG z8 ⟨rfl,.inr ⟨_,rfl,_,_,rfl,rfl,sz2,fun t nt=>?_⟩⟩⟩
    obtain⟨a,b⟩:=stay ok (aMh hf) fun hb=>by
     rw [if_pos hb]
     have:=(List.getElem?_eq_some_iff.mp (of_decide_eq_true hb)).1
     omega
    refine sE q hh (s1.trans (sameNew nt)) (aF.trans ?_) a b
    rw [he]
    by_cases h9:decide (z[g]? =some 93)=true
    ·rw [h9];rfl
    ·rw [Bool.eq_false_iff.mpr h9];rfl
  |made d=>
   refine⟨_,rfl,rfl,_,rfl,aZ (wF (m:=[116,101,114,109]) rfl (show([109,97,100,101]:List Nat)≠[116,101,114,109] by decide)) (fU ?_)⟩
   refine⟨_,rfl,rfl,_,rfl,aZ (wF (m:=[116,101,114,109]) rfl (show([109,97,100,101]:List Nat)≠[116,101,114,109] by decide)) (fU ?_)⟩
   refine⟨_,rfl,sz3,fun p1 n1=>?_⟩
   generalize ge:upd H p1 _=H1
   obtain⟨s1,e1⟩:=bF n1 ge
   refine in3 e1 ⟨_,rfl,aZ (decide_eq_false (aTj (show([109,97,100,101]:List Nat)≠_ by decide) (show([109,97,100,101]:List Nat)≠_ by decide) (show([109,97,100,101]:List Nat)≠_ by decide))) ?_⟩
   have hh1:=s1 _ _ hh
   refine⟨_,rfl,_,rfl,aRi (k:=4) (by show 4<=8000;decide) ⟨rfl,_,rfl,aZ (wF (m:=[109,111,114,101]) rfl (show([109,97,100,101]:List Nat)≠_ by decide)) ?_⟩⟩
   refine⟨_,rfl,rfl,_,rfl,bD (wT (m:=[109,97,100,101]) rfl rfl) ?_⟩
   refine⟨_,rfl,_,rfl,_,rfl,?_⟩
   refine⟨d,S,z,g,hp,rfl,zl,gl,hh1,ok,sl,fun t H' b p kp e h1 h2=>?_⟩
   exact q t H' b p (fun a o ha na=>kp a o (s1 _ _ ha) na) e h1 h2
  |sg l=>
   obtain⟨w1,w2,w3,w4,w5⟩:=aO4 l ok.1
   refine⟨_,rfl,rfl,_,rfl,aZ (wF (m:=[116,101,114,109]) rfl w1) (fU ?_)⟩
   refine⟨_,rfl,rfl,_,rfl,aZ (wF (m:=[116,101,114,109]) rfl w1) (fU ?_)⟩
   refine⟨_,rfl,sz3,fun p1 n1=>?_⟩
   generalize ge:upd H p1 _=H1
   obtain⟨s1,e1⟩:=bF n1 ge
   refine in3 e1 ⟨_,rfl,aZ (decide_eq_false (aTj w1 w2 w3)) ?_⟩
   have hh1:=s1 _ _ hh
   obtain⟨l5,l1⟩:=aRb l ok.1
   have l8:l.length<=8000:=by omega
   refine⟨_,rfl,_,rfl,aRi (k:=4) l8 ⟨rfl,_,rfl,aZ (wF (m:=[109,111,114,101]) rfl w4) ?_⟩⟩
   refine⟨_,rfl,rfl,_,rfl,aZ (wF (m:=[109,97,100,101]) rfl w5) ?_⟩
   refine⟨fun m σ H2=>∃j:Nat,m=l.length-j/\j<=l.length/\σ=[some (.str (tx l)),some (.str (tx z)),some (cG g),some (.ref hp),some (cG j)]/\H2=H1/\∀i,i<j->z[g+i]? =l[i]?,⟨l.length,0,rfl,by omega,rfl,rfl,fun i hi=>by omega⟩,?_⟩
   rintro m σ H2 ⟨j,rfl,jl,rfl,rfl,fj⟩
   refine(fun(out:(j=l.length∨∃c,l[j]? =some c/\z[g+j]? ≠some c)->(?O:Prop))=> ?mainW) ?outp
   case mainW=>
    refine⟨_,rfl,_,rfl,_,rfl,by rw [cJ];exact bU (by omega),_,_,rfl,rfl,_,rfl,?_⟩
    by_cases hj:j<l.length
    ·refine bD (decide_eq_true (by rw [cJ];omega)) ?_
     have hc:l[j]? =some l[j]:=List.getElem?_eq_getElem hj
     refine⟨_,rfl,_,rfl,_,rfl,_,_,rfl,rfl,_,rfl,_,rfl,_,rfl,_,_,rfl,rfl,_,_,rfl,rfl,_,rfl,slG (g:=g+j) z8 ⟨_,rfl,_,rfl,vX hc l8 ⟨rfl,_,rfl,?_⟩⟩⟩
     rw [eq1]
     by_cases hz:z[g+j]? =some l[j]
     ·refine bD (decide_eq_true hz) ?_
      refine⟨fun σ' H'=>∃m',m'<l.length-j/\_,fun _ _ z=>z,?_⟩
      refine⟨_,rfl,_,_,rfl,rfl,?_⟩
      refine⟨l.length-(j+1),by omega,j+1,rfl,hj,rfl,rfl,fun i hi=>?_⟩
      rcases Nat.lt_or_ge i j with h|h
      ·exact fj i h
      ·rw [show i=j by omega,hz,hc]
     ·refine aZ (decide_eq_false hz) ?_
      exact out (.inr ⟨_,hc,hz⟩)
    ·refine aZ (decide_eq_false (by rw [cJ];omega)) (fU ?_)
     exact out (.inl (by omega))
   case outp=>
    intro ho
    obtain⟨f1,f2⟩:=aIi jl fj
    refine⟨_,rfl,_,rfl,_,rfl,by rw [cJ];exact bU (by omega),rfl,_,rfl,_,rfl,_,_,rfl,rfl,sz2,fun t nt=>?_⟩
    refine sE (b:=decide (j=l.length)) (p:=g+j) q hh (s1.trans (sameNew nt)) (aF.trans ?_) ?_ ?_
    ·exact congrArg (fun b=>some (HO.tup [V.bl b,cG (g+j)])) (decide_eq_decide.mpr ⟨fun e=>by have:=V.int.inj e;rw [cJ]at this;omega,fun e=>by rw [cJ,e]⟩)
    ·intro hb
     obtain⟨c,hc,hz⟩:=ho.resolve_left (of_decide_eq_false hb)
     rw [dN,f2 c hc hz]
    ·intro hb
     have hb:=of_decide_eq_true hb
     have hz:g+j<=z.length:=by
      have h:=fj (j-1) (by omega)
      rw [List.getElem?_eq_getElem (show j-1<l.length by omega)]at h
      have:=(List.getElem?_eq_some_iff.mp h).1
      omega
     refine⟨by rw [dN,f1 hb],ok.2,hz,by omega,.inl (by omega)⟩
  |neg=>exact ok.1.elim
  |digs k=>exact ok.1.elim
  |mm k=>exact ok.1.elim
theorem aBb {H:Hp}:∀l:List Str,cQ Av0 H (l.map fun k:Str=> .fl (.str k)) (l.map V.str)
 | []=>rfl
 |n::ns=>⟨_,_,rfl,⟨rfl,rfl⟩,aBb ns⟩
theorem aAs:∀l:List Str,D.deps (l.map fun k:Str=>D.fl (.str k))=0
 | []=>by rw [List.map_nil,D.deps]
 |n::ns=>by rw [List.map_cons,D.deps,D.dep,aAs ns];rfl
theorem aSw {K:W.Frag} {H:Hp} {Q:VK} {S:List Wn} {p d:Addr} (h1:H p=some (.lst (hv S))) (h2:H d=some (.lst [])) (q:Q (.bl (!decide (S=[]))) H):aTa K true (.ref p) (.ref d) H Q:=by
 rw [(aMd S).1]at h1
 have eS:decide (S=[])=decide ((S.map fun x=>tx (eQ x)).reverse=[]):=decide_eq_decide.mpr (by simp)
 rw [eS]at q
 generalize (S.map fun x=>tx (eQ x)).reverse=l at h1 q
 have dn:=aAs l
 refine⟨.ls (l.map fun k:Str=> .fl (.str k)),.ls [],iW.den K (Av:=Av0) _ ⟨p,_,rfl,id,h1,aBb l⟩,iW.den K (Av:=Av0) _ ⟨d,_,rfl,id,h2,rfl⟩,by simp only [D.dep,D.deps];omega,?_⟩
 have:(D.ls (l.map fun k:Str=> .fl (.str k))).eq (.ls [])=decide (l=[]):=by
  cases l with
  |nil=>rfl
  |cons a l=>rw [decide_eq_false (by simp)];rfl
 rw [if_pos rfl,this]
 exact q
def jL (z:List Nat):Bool×Nat:=match bB [.tm 12] z 0 with| .ok p=>(true,p)| .error p=>(false,p)
inductive yO (vs:List V) (H:Hp) (Q:VK) (z3_:XK):Prop
 |mk (z:List Nat) (q0_:vs=[.str (tx z)]) (q1_:z.length<=1000) (q2_:∀(t:Addr) (H':Hp),bA H H'->H' t=some (.tup [.bl (jL z).1,cG (jL z).2])->Q (.ref t) H'):yO vs H Q z3_
def zY:Sp:=fun vs H Q z3_=>yO vs H Q z3_
def hdN (S:List Wn):Nat:=if hdM S=true then 1 else 0
theorem aS1 (S:List Wn):hdN S<=1:=by unfold hdN;split<;>omega
theorem aKh {x:Wn} {S S':List Wn} {z:List Nat} {g g':Nat} (h:tQ x S z g S' g'):2*(z.length-g')+hdN S'<2*(z.length-g)+hdN (x::S):=by
 obtain⟨_,_,hl,_,h⟩:=h
 rcases h with h|⟨h1,h2,rfl⟩
 ·have:=aS1 S'
  omega
 ·unfold hdN
  rw [if_pos h1,if_neg (by rw [h2];exact Bool.false_ne_true)]
  omega
theorem lN:aM ["_law_text_here","_law_heap","_law_at","_law_good"] ["_law_text_here"] (aH yE):=bG
theorem aGm {f:Addr} {fd:FuncData} (F:Fun K "_law_longest" "_law_longest" yE f fd) (c_wanted:Cal P w K mg base CX0 2 "_law_wanted" ["_law_want","_law_text_here","_law_at","_law_heap"] aE1) (T:Txt K mg):bC P w K mg base CX0 3 f fd ["_law_text_here"] zY:=by
 refine F.ok lN (fun vs H Q E h=>?_) (fun cdv A outer s H vs Q E hr h=>?_)
 ·obtain⟨z,rfl,_⟩:=h
  rfl
 ·obtain⟨z,rfl,zl,q⟩:=h
  have hu:=wU hr
  refine⟨_,(@aB _ _ _ _ _ (@aY _ _ 1 _ _ _ _ lN.nd rfl (Or.inl rfl) (@cO _ _ _ _ (@aA _ _ _ _ _ aJ aC rfl)) rfl (by first|exact .inl rfl|exact .inr rfl)) (@aB _ _ _ _ _ (@aY _ _ 2 _ _ _ _ lN.nd rfl (Or.inl rfl) aG rfl (by first|exact .inl rfl|exact .inr rfl)) (@aB _ _ _ _ _ (lF PassesOwn.never (aN (aS5 hu) (pv 1) (@cO _ _ _ _ aC) (aV _)) (@aB _ _ _ _ _ (aBq (cV c_wanted (hr.mo) rfl aP (@aA _ _ _ _ _ (aTo PySem.F.plainAttrs_list PySem.F.slot_list_pop PySem.F.type_list_pop aSt (pv 1)) (@aA _ _ _ _ _ (pv 0) (@aA _ _ _ _ _ (pv 2) (@aA _ _ _ _ _ (pv 1) aC rfl) rfl) rfl) rfl)) (aNf rfl (qM (dC (i:=3) lN.nd rfl (Or.inl rfl)) (qM (dC (i:=2) lN.nd rfl (Or.inl rfl)) aHj)))) (@aD _ _ _ (bK (mQ (iV (pv 3))) (@aD _ _ _ (@aL _ _ _ _ (@cL _ _ _ _ _ (@aA _ _ _ _ _ lJ (@aA _ _ _ _ _ (pv 2) aC rfl) rfl)))) aR)))) (@aD _ _ _ (@aL _ _ _ _ (@cL _ _ _ _ _ (@aA _ _ _ _ _ (jC cF (pv 2) (bN fD (by rfl) T.len PySem.boot_len (@aA _ _ _ _ _ (pv 0) aC rfl)) (aV _)) (@aA _ _ _ _ _ (pv 2) aC rfl) rfl))))))),?_⟩
  refine⟨sz1,fun hp np=>?_⟩
  generalize ge:upd H hp _=H1
  obtain⟨s1,e1⟩:=bF np ge
  have e1:H1 hp=some (.lst (hv [.tm 12])):=e1.trans (by rw [dO,show(Str.ofString "term")=tx (eQ (.tm 12))from aK [116,101,114,109] rfl];rfl)
  refine⟨fun m σ H2=>∃(S:List Wn) (g:Nat) (gd:Option V),m=2*(z.length-g)+hdN S/\σ=[some (.str (tx z)),some (.ref hp),some (cG g),gd]/\bA H H2/\H2 hp=some (.lst (hv S))/\OkS S/\g<=z.length/\bB [.tm 12] z 0=bB S (z.drop g) g/\S.length+3*(2*(z.length-g)+hdN S)<=6*z.length+4,⟨_,[.tm 12],0,none,rfl,rfl,s1,e1,⟨rfl,True.intro⟩,Nat.zero_le _,by rw [List.drop_zero],by show 1+3*(2*(z.length-0)+0)<=_;omega⟩,?_⟩
  rintro m σ H2 ⟨S,g,gd,rfl,rfl,s2,e2,ok,gl,me,ml⟩
  refine⟨_,rfl,sz0,fun d3 n3=>?_⟩
  generalize ge:upd H2 d3 _=H3
  obtain⟨s3,e3⟩:=bF n3 ge
  refine aSw (s3 _ _ e2) e3 ⟨_,rfl,?_⟩
  cases S with
  |nil=>
   refine fU ?_
   refine⟨_,rfl,_,rfl,_,rfl,by rw [cJ];exact bU (by omega),rfl,_,rfl,sz2,fun t nt=>?_⟩
   refine q t _ ((s2.trans s3).trans (sameNew nt)) (aF.trans ?_)
   unfold jL
   rw [me]
   by_cases hg:g=z.length
   ·rw [hg,List.drop_length]
    rw [show decide (cG z.length=V.int ((tx z).length:Int))=true from decide_eq_true (by rw [cJ])]
    rfl
   ·rw [List.drop_eq_getElem_cons (show g<z.length by omega)]
    rw [show decide (cG g=V.int ((tx z).length:Int))=false from decide_eq_false fun e=>hg (by have:=V.int.inj e;rw [cJ]at this;omega)]
    rfl
  |cons x S=>
   refine nO ?_
   have hl:=aFp (x::S)
   rw [List.length_cons]at hl ml
   refine⟨fun σ' H'=>∃m',m'<2*(z.length-g)+hdN (x::S)/\_,fun _ _ z=>z,?_⟩
   refine⟨_,rfl,.inl ⟨rfl,_,SqL.of (s3 _ _ e2)⟩,hp,_,V.str (tx (eQ x)),rfl,rfl,s3 _ _ e2,by rw [dO];simp,?_⟩
   rw [show(hv (x::S)).dropLast=hv S by rw [dO,List.dropLast_concat]]
   have s4:bA H (upd H3 hp (.lst (hv S))):=cN np (s2.trans s3)
   refine⟨_,rfl,_,rfl,_,rfl,x,S,z,g,hp,rfl,zl,gl,aF,ok,by omega,fun t H5 b p k5 e5 hf ht=>?_⟩
   have s5:bA H H5:=fun a o ha=>k5 a o (s4 a o ha) fun e=>by rw [e,np]at ha;cases ha
   refine⟨t,_,rfl,SqT.of e5,rfl,_,_,rfl,_,_,rfl,rfl,?_⟩
   refine⟨_,rfl,_,rfl,?_⟩
   cases b with
   |false=>
    refine nO ?_
    refine⟨_,rfl,sz2,fun t2 n2=>?_⟩
    refine q t2 _ (s5.trans (sameNew n2)) (aF.trans ?_)
    unfold jL
    rw [me,hf rfl]
   |true=>
    refine fU ?_
    obtain⟨S',hS',st⟩:=ht rfl
    have lt:=aKh st
    have ln:=st.2.2.2.1
    exact⟨_,lt,S',p,_,rfl,rfl,s5,hS',st.2.1,st.2.2.1,me.trans st.1,by omega⟩
def aUf:List Nat:=[48,49,50,51,52,53,54,55,56,57,45,43,42,63,58,91,93,40,41,32,109,105,110,97,120,114,101,115,116,46,49,32,40,91]
theorem aVb {r:Nat} {H:Hp} {Q:VK} (hr:r<34) (q:∀c,Q (.str (tx [c])) H):aS0 (.str (Str.ofString "0123456789-+*?:[]() minaxrest.1 ([")) (cG r) H Q:=by
 rw [aK aUf rfl]
 exact vX (List.getElem?_eq_getElem (show r<aUf.length from hr)) (by show 34<=8000;decide) (q _)
theorem aPw {z s:List Nat} {i j:Nat} (h:s.length<=1):(z.take i++s++z.drop (i+j)).length<=z.length+1/\(z.take i++s++z.drop (i+j)).count 91<=z.count 91+1:=by
 have a:s.count 91<=1:=Nat.le_trans List.count_le_length h
 have b:(z.drop (i+j)).count 91<=(z.drop i).count 91:=by
  rw [<-List.drop_drop]
  exact(List.drop_sublist j (z.drop i)).count_le 91
 have c:(z.take i).count 91+(z.drop i).count 91=z.count 91:=by rw [<-List.count_append,List.take_append_drop]
 refine⟨?_,?_⟩
 ·rw [List.length_append,List.length_append,List.length_take,List.length_drop]
  omega
 ·rw [List.count_append,List.count_append]
  omega
theorem aIn:∀{ls:List (List Nat)},(∀l∈ls,l.length=1)->(ls.map List.length).sum=ls.length
 | [],_=>rfl
 |l::ls,bd=>by rw [List.map_cons,List.sum_cons,bd l List.mem_cons_self,aIn fun x hx=>bd x (List.mem_cons_of_mem _ hx),List.length_cons];omega
inductive aEn (vs:List V) (H:Hp) (Q:VK) (z3_:XK):Prop
 |mk (a:Addr) (q0_:vs=[.ref a]) (q1_:bW H a) (q2_:∀(z:List Nat) (H':Hp),aUl z->Kp a H H'->bW H' a->Q (.str (tx z)) H'):aEn vs H Q z3_
def aG4:Sp:=fun vs H Q z3_=>aEn vs H Q z3_
abbrev aS4:List Str:=["_law_well_here","_law_signs","_law_text_here","_law_k","_law_at","_law_sign"]
theorem mR:aM ["_law_well_here","_law_signs","_law_text_here","_law_k","_law_at","_law_sign"] ["_law_well_here"] (aH aCv):=bG
theorem aN2 {f:Addr} {fd:FuncData} (F:Fun K "_law_drawn" "_law_drawn" aCv f fd) (c_draw:Cal P w K mg base CX0 1 "_law_draw" ["_law_well_here","_law_most"] qG) (c_some:Cal P w K mg base CX0 3 "_law_some_takes" ["_law_well_here","_law_lines"] aMx)
  (c_told:Cal P w K mg base CX0 6 "_law_told" ["_law_well_here","_law_some","_law_deep"] (aCn 4)) (c_text:Cal P w K mg base CX0 5 "_law_text" ["_law_told_here"] (aCz 4)) (T:Txt K mg):bC P w K mg base CX0 7 f fd ["_law_well_here"] aG4:=by
 refine F.ok mR (fun vs H Q E h=>?_) (fun cdv A outer s H vs Q E hr h=>?_)
 ·obtain⟨a,rfl,_⟩:=h
  rfl
 ·obtain⟨a,rfl,wa,q⟩:=h
  refine⟨_,(@aB _ _ _ _ _ (@aY _ _ 1 _ _ _ _ mR.nd rfl (Or.inr rfl) aJ rfl (by first|exact .inl rfl|exact .inr rfl)) (@aB _ _ _ _ _ (bK (aN cF (cV c_draw (hr.mo) rfl aP (@aA _ _ _ _ _ (pv 0) (@aA _ _ _ _ _ aG aC rfl) rfl)) aG (aV _)) (@aD _ _ _ (@aL _ _ _ _ (lU PySem.F.plainAttrs_str PySem.F.slot_str_join PySem.F.type_str_join uW aJ (@aA _ _ _ _ _ (pM (own:=["_law_k"]) (cap:=[("_law_well_here",0),("_law_signs",1)]) (g:=gR 0) (aH aCv) aS4 rfl rfl (fun x h=>dZ h) (by decide+kernel) rfl (lV rfl T.range (@aA _ _ _ _ _ (cV c_draw (hr.mo) rfl aP (@aA _ _ _ _ _ (pv 0) (@aA _ _ _ _ _ aG aC rfl) rfl)) aC rfl)) (fun cl C s2 H2 fp=>(dC (i:=0) (show(["_law_k","_law_well_here","_law_signs"]:List Str).Nodup by decide+kernel) rfl (Or.inl rfl) (Or.inr rfl))) (fun cl C s2 H2 fp=>(@cU _ _ _ _ _ _ _ wI (pv 2) (cV c_draw (hr.mo) rfl aP (@aA _ _ _ _ _ (pv 1) (@aA _ _ _ _ _ aG aC rfl) rfl)) (fun _ _=>rfl)))) aC rfl)))) aR) (@aB _ _ _ _ _ (@aY _ _ 2 _ _ _ _ mR.nd rfl (Or.inl rfl) (cV c_text (hr.mo) rfl aP (@aA _ _ _ _ _ (cV c_told (hr.mo) rfl aP (@aA _ _ _ _ _ (pv 0) (@aA _ _ _ _ _ (cV c_some (hr.mo) rfl aP (@aA _ _ _ _ _ (pv 0) (@aA _ _ _ _ _ (@aU _ _ _ _ _ _ _ _ bJ aG (cV c_draw (hr.mo) rfl aP (@aA _ _ _ _ _ (pv 0) (@aA _ _ _ _ _ aG aC rfl) rfl))) aC rfl) rfl)) (@aA _ _ _ _ _ aG aC rfl) rfl) rfl)) aC rfl)) rfl (by first|exact .inl rfl|exact .inr rfl)) (@aB _ _ _ _ _ (yH PassesOwn.never rfl (lV rfl T.range (@aA _ _ _ _ _ (cV c_draw (hr.mo) rfl aP (@aA _ _ _ _ _ (pv 0) (@aA _ _ _ _ _ aG aC rfl) rfl)) aC rfl)) (dC (i:=3) mR.nd rfl (Or.inl rfl)) (@aB _ _ _ _ _ (@aY _ _ 4 _ _ _ _ mR.nd rfl (Or.inl rfl) (cV c_draw (hr.mo) rfl aP (@aA _ _ _ _ _ (pv 0) (@aA _ _ _ _ _ (@aU _ _ _ _ _ _ _ _ bJ (bN fD (by rfl) T.len PySem.boot_len (@aA _ _ _ _ _ (pv 2) aC rfl)) aG) aC rfl) rfl)) rfl (by first|exact .inl rfl|exact .inr rfl)) (@aB _ _ _ _ _ (@aY _ _ 5 _ _ _ _ mR.nd rfl (Or.inl rfl) (@cU _ _ _ _ _ _ _ dU (@cO _ _ _ _ (@aA _ _ _ _ _ aJ (@aA _ _ _ _ _ (@cU _ _ _ _ _ _ _ wI (pv 1) (cV c_draw (hr.mo) rfl aP (@aA _ _ _ _ _ (pv 0) (@aA _ _ _ _ _ aG aC rfl) rfl)) (fun _ _=>rfl)) aC rfl) rfl)) (cV c_draw (hr.mo) rfl aP (@aA _ _ _ _ _ (pv 0) (@aA _ _ _ _ _ aG aC rfl) rfl)) (fun _ _=>rfl)) rfl (by first|exact .inl rfl|exact .inr rfl)) (@aD _ _ _ (@aY _ _ 2 _ _ _ _ mR.nd rfl (Or.inl rfl) (@aU _ _ _ _ _ _ _ _ dH (@aU _ _ _ _ _ _ _ _ dH (cT fK (pv 2) vR (bO (pv 4))) (pv 5)) (cT fK (pv 2) (bO (@aU _ _ _ _ _ _ _ _ bJ (pv 4) (cV c_draw (hr.mo) rfl aP (@aA _ _ _ _ _ (pv 0) (@aA _ _ _ _ _ aG aC rfl) rfl)))) vR)) rfl (by first|exact .inl rfl|exact .inr rfl)))))) (@aD _ _ _ (@aL _ _ _ _ (pv 2))))))),?_⟩
  refine⟨_,rfl,a,3,rfl,wa,by decide,by decide,fun n0 H1 hn0 k1 w1=>⟨rfl,_,rfl,?_⟩⟩
  by_cases h0:n0=0
  ·refine bD (decide_eq_true (by rw [h0];rfl)) ?_
   refine⟨rfl,_,rfl,a,61,rfl,w1,by decide,by decide,fun n2 H2 hn2 k2 w2=>?_⟩
   refine⟨(n2:Int),rfl,by omega,by omega,fun D hD=>?_⟩
   have k12:=k1.trans k2
   have hDn:=k12.free w2 hD
   have hDa:D≠a:=w2.ne hD
   refine qD (fun i acc σ H3=>∃(v0:Option V) (ls:List (List Nat)),σ=[v0,some (.ref a),some (.str (Str.ofString "0123456789-+*?:[]() minaxrest.1 (["))]/\Kp a H H3/\bW H3 a/\H3 D=some (.lst acc)/\acc=(ls.map fun l=>V.str (tx l))/\ls.length=i/\∀l∈ls,l.length=1) ⟨_,[],rfl,k12.new hD,w2.new hD,aF,rfl,rfl,fun l hl=>nomatch hl⟩ ?_ ?_
   ·rintro i acc σ H3 hi ⟨v0,ls,rfl,k3,w3,hD3,rfl,hll,bd⟩
    refine⟨_,rfl,_,rfl,a,34,rfl,w3,by decide,by decide,fun r H4 hr4 k4 w4=>aVb (by omega) fun c=>?_⟩
    have hD4:=k4 _ _ hD3 hDa
    refine pH hD4 (small (by rw [List.length_map];omega)) hi ⟨_,ls++[[c]],rfl,(k3.trans k4).upd hDn,w4.upd hDa,aF,by rw [List.map_append];rfl,by rw [List.length_append,hll];rfl,fun z hz=>?_⟩
    rcases List.mem_append.mp hz with m|m
    ·exact bd z m
    ·rw [List.mem_singleton.mp m];rfl
   ·rintro acc σ H3 ⟨v0,ls,rfl,k3,w3,hD3,rfl,hll,bd⟩
    have gl:=rQ [] ls 1 fun l hl=>Nat.le_of_eq (bd l hl)
    have gl:(glu [] ls).length<=ls.length*1:=gl
    refine⟨[],D,ls,congrArg V.str (aK [] rfl),rfl,hD3,?_,?_⟩
    ·have e:=aIn bd
     rw [e]
     show _+_*0<=_
     omega
    ·exact q _ H3 ⟨by omega,.inl (by omega)⟩ k3 w3
  ·refine aZ (decide_eq_false fun e=>h0 (by have:=V.int.inj e;omega)) ?_
   refine⟨_,rfl,_,rfl,_,rfl,a,3,rfl,w1,by decide,by decide,fun n1 H2 hn1 k2 w2=>⟨_,_,rfl,rfl,?_⟩⟩
   refine⟨a,1+n1,rfl,w2,by omega,by omega,fun so ps H3 k3 w3 hso e3 pk3 aJ8=>?_⟩
   have nso:so≠a:=w2.ne hso
   have S3:qH H3 so ps:=⟨e3,fun x hx=>⟨(pk3 x hx).1,(pk3 x hx).2.2⟩,by omega⟩
   refine⟨a,so,ps,2,rfl,w3,nso,S3,by decide,fun v t H4 k4 w4 u4 ht4 hf rw4=>?_⟩
   have ht4:ht t<=3:=ht4
   have p3:3 ^ ht t<=3 ^ 3:=Nat.pow_le_pow_right (by decide) ht4
   have c3:(3:Nat) ^ 3=27:=by decide
   have pl:=mH t
   have rl:=pP t
   have r91:=uG t
   have tl:=fC hf
   refine⟨v,t,rfl,u4,by omega,hf,by omega,fun H5 s5=>?_⟩
   have w5:=w4.same s5
   have k5:Kp a H H5:=(((k1.trans k2).trans k3).trans k4).same s5
   refine⟨_,rfl,a,4,rfl,w5,by decide,by decide,fun n6 H6 hn6 k6 w6=>?_⟩
   refine⟨(n6:Int),rfl,by omega,by omega,?_⟩
   refine aAd (fun i σ H=>∃(v3 v4 v5:Option V) (z:List Nat),σ=[some (.ref a),some (.str (Str.ofString "0123456789-+*?:[]() minaxrest.1 ([")),some (.str (tx z)),v3,v4,v5]/\Kp a _ H/\bW H a/\z.length<=910+i/\z.count 91<=9+i) ⟨_,_,_,txt t,rfl,k5.trans k6,w6,by omega,by omega⟩ ?_ ?_
   ·rintro i σ H7 hi ⟨v3,v4,v5,z,rfl,k7,w7,zl,zc⟩
    have z8:z.length<=8000:=by omega
    refine⟨_,rfl,_,rfl,_,rfl,by rw [cJ];exact bU (by omega),_,_,rfl,rfl,a,_,rfl,w7,by omega,by rw [cJ];omega,fun g H8 hg k8 w8=>?_⟩
    refine⟨_,rfl,_,rfl,a,34,rfl,w8,by decide,by decide,fun r H9 hr9 k9 w9=>aVb (by omega) fun c=>?_⟩
    refine⟨sz2,fun l9 n9=>?_⟩
    generalize ge:upd H9 l9 _=HA
    obtain⟨sA,eA⟩:=bF n9 ge
    refine⟨_,rfl,a,2,rfl,w9.same sA,by decide,by decide,fun b HB hb kB wB=>?_⟩
    obtain⟨sg,he,sl1⟩:∃sg:List Nat,([V.str (Str.ofString ""),V.str (tx [c])]:List V)[b]? =some (V.str (tx sg))/\sg.length<=1:=by
     match b,(show b<2 by omega)with
     |0,_=>exact⟨[],congrArg (fun s=>some (V.str s)) (aK [] rfl),by decide⟩
     |1,_=>exact⟨[c],rfl,Nat.le_refl _⟩
    refine⟨l9,_,_,_,rfl,rfl,SqL.of (kB _ _ eA (w9.ne n9)),jZ he,?_⟩
    have ed:∀j,_:=fun j=>aPw (z:=z) (s:=sg) (i:=g) (j:=j) sl1
    have tk:(z.take g++sg).length<=8000:=by rw [List.length_append,List.length_take];omega
    refine⟨_,rfl,_,rfl,_,rfl,aRi z8 ⟨_,rfl,iU rfl rfl tk ?_⟩⟩
    refine⟨_,rfl,_,rfl,_,rfl,a,2,rfl,wB,by decide,by decide,fun j HC hj kC wC=>⟨_,_,rfl,rfl,_,rfl,aHq (aNk (k:=g+j) z8 (iU rfl rfl (by have:=(ed j).1;omega) ?_))⟩⟩
    have:=ed j
    exact⟨_,_,_,_,rfl,((((k7.trans k8).trans k9).same sA).trans kB).trans kC,wC,by omega,by omega⟩
   ·rintro σ H7 ⟨v3,v4,v5,z,rfl,k7,w7,zl,zc⟩
    exact⟨_,rfl,q z H7 ⟨by omega,.inr (by omega)⟩ k7 w7⟩
theorem aQf {X:Cx} {x:Str} {C:Addr} {pos:Pos} (hg:Gl X x) (hm:X.mg x=some (.ref C)) (hd:(x==("__debug__":Str))=false:=by decide):PE X (.Name x pos) (tC (.ref C)):=vN (v:= .ref C) hg hm rfl hd
structure ExB (K:W.Frag) (CT CG CN:Addr):Prop where
 nn:W.exmOne K (.ref CN) (.ref CN)=some true
 gn:W.exmOne K (.ref CG) (.ref CN)=some false
 gg:W.exmOne K (.ref CG) (.ref CG)=some true
 gt:W.kitOne K (.ref CG) (.ref CT)=some true
 askG:gZ K CG
 askN:gZ K CN
 hd:W.hasDictIn K CN=true
 at_:W.findIn K (.ref CN) "at"=some none
structure MgB (mg:Str->Option Value) (CT CG CN:Addr):Prop where
 mgT:mg "TileError"=some (.ref CT)
 mgG:mg "NoTerm"=some (.ref CG)
 mgN:mg "NoText"=some (.ref CN)
inductive aOm (K:W.Frag) (vs:List V) (H:Hp) (Q:VK) (z3_:XK):Prop
 |mk (a:Addr) (ns:List Int) (q0_:vs=[.ref a]) (q1_:SqL K H a (ns.map V.int)) (q2_:∀H',Q (.bl true) H'):aOm K vs H Q z3_
def aIx (K:W.Frag):Sp:=fun vs H Q z3_=>aOm K vs H Q z3_
theorem SqL.sm {K:W.Frag} {a:Addr} {H H':Hp} {xs:List V} (k:bA H H') (h:SqL K H a xs):SqL K H' a xs:=by
 rcases h with (h|⟨o,h⟩)|h
 ·exact .inl (.inl (k _ _ h))
 ·exact .inl (.inr ⟨o,k _ _ h⟩)
 ·exact .inr h
def aU7 (z:List Nat) (x:Str) (v:V):Prop:=((jL z).1=false/\x="refused"/\v=cG (jL z).2)∨((jL z).1=true/\((x="read"/\v= .str (tx z))∨(x="beyond"/\v= .bl true)))
theorem aQ3 {z:List Nat} {p:Nat} (h:bB [.tm 12] z 0= .error p):jL z=(false,p):=by unfold jL;rw [h]
theorem aEg {z:List Nat} {t:Tm} (h:bQ TmM z 12 0= .ok (t,z.length)):(jL z).1=true:=by
 unfold jL
 rw [wD (M:=TmM),h]
 dsimp only
 rw [if_pos rfl]
abbrev tpD (x:Str) (v:V):D:= .tp [.fl (.str x),.fl v]
theorem aMo {x:Str} {v:V} (ev:eqV v v=true):(tpD x v).eq (tpD x v)=true:=by simp only [D.eq,D.eqs,ev,show eqV (.str x) (.str x)=true by simp [eqV],Bool.and_true]
theorem yD {K:W.Frag} {H:Hp} {x:Str} {v:V} {p:Addr} (fv:gJ v=true) (h:H p=some (.tup [.str x,v])):iW Av0 H (tpD x v) (.ref p):=⟨p,_,rfl,h,.cons ⟨rfl,rfl⟩ (.cons ⟨rfl,fv⟩ .nil)⟩
theorem aTx {K:W.Frag} {H:Hp} {Q:VK} {x:Str} {v:V} {p d t:Addr} (fv:gJ v=true) (ev:eqV v v=true) (h1:H p=some (.tup [.str x,v])) (h2:H d=some (.lst [.ref t])) (h3:H t=some (.tup [.str x,v])) (q:Q (.bl false) H):aNv K true (.ref p) (.ref d) H Q:=by
 refine⟨tpD x v,d,_,[tpD x v],iW.den K (Av:=Av0) _ (yD (K:=K) fv h1),rfl,.inl (SqL.of h2),cQ.dens K (Av:=Av0) _ (.cons (yD (K:=K) fv h3) .nil),by simp [D.dep,D.deps],?_⟩
 simp only [List.any_cons,aMo ev,Bool.true_or,if_true,Bool.not_true]
 exact q
theorem aSx {K:W.Frag} {H:Hp} {Q:VK} {x y u:Str} {v a b:V} {p d t s:Addr} (fv:gJ v=true) (ev:eqV v v=true) (fa:gJ a=true) (fb:gJ b=true) (h1:H p=some (.tup [.str x,v])) (h2:H d=some (.lst [.ref t,.ref s])) (h3:H t=some (.tup [.str y,a])) (h4:H s=some (.tup [.str u,b])) (hm:(x=y/\v=a)∨(x=u/\v=b)) (q:Q (.bl false) H):aNv K true (.ref p) (.ref d) H Q:=by
 refine⟨tpD x v,d,_,[tpD y a,tpD u b],iW.den K (Av:=Av0) _ (yD (K:=K) fv h1),rfl,.inl (SqL.of h2),cQ.dens K (Av:=Av0) _ (.cons (yD (K:=K) fa h3) (.cons (yD (K:=K) fb h4) .nil)),by simp [D.dep,D.deps],?_⟩
 have e:([tpD y a,tpD u b].any fun e=>e.eq (tpD x v))=true:=by
  rcases hm with ⟨rfl,rfl⟩|⟨rfl,rfl⟩
  ·simp only [List.any_cons,aMo ev,Bool.true_or]
  ·simp only [List.any_cons,aMo ev,Bool.true_or,Bool.or_true]
 rw [e]
 exact q
theorem oG:aM ["_law_script","_law_k","_law_text_here","_law_good","_law_at","_law_found","e","_law_due"] ["_law_script"] (aH aKx):=bG
theorem aTw {f:Addr} {fd:FuncData} (F:Fun K "law" "law" aKx f fd) (c_well:Cal P w K mg base CX0 2 "_law_well" ["_law_script","_law_k"] (aL8 K)) (c_drawn:Cal P w K mg base CX0 7 "_law_drawn" ["_law_well_here"] aG4) (c_longest:Cal P w K mg base CX0 3 "_law_longest" ["_law_text_here"] zY) (c_read:Cal P w K mg base (CXe P w) 88 "read_term" ["text"] (aL3 K N CN CG)) (D_shown:DSh P w K mg base N 13) (nS:NoS N) (M:MgB mg CT CG CN) (Z:ExB K CT CG CN) (T:Txt K mg):bC P w K mg base CX0 90 f fd ["_law_script"] (aIx K):=by
 refine F.ok oG (fun vs H Q E h=>?_) (fun cdv A outer s H vs Q E hr h=>?_)
 ·obtain⟨a,ns,rfl,_⟩:=h
  rfl
 ·obtain⟨a0,ns0,rfl,hS,q⟩:=h
  have hu:=wU hr
  refine⟨_,(@aB _ _ _ _ _ (yH PassesOwn.never rfl (lV rfl T.range (@aA _ _ _ _ _ aG aC rfl)) (dC (i:=1) oG.nd rfl (Or.inl rfl)) (@aB _ _ _ _ _ (@aY _ _ 2 _ _ _ _ oG.nd rfl (Or.inl rfl) (cV c_drawn (hr.mo) rfl aP (@aA _ _ _ _ _ (cV c_well (hr.mo) rfl aP (@aA _ _ _ _ _ (pv 0) (@aA _ _ _ _ _ (pv 1) aC rfl) rfl)) aC rfl)) rfl (by first|exact .inl rfl|exact .inr rfl)) (@aB _ _ _ _ _ (aBq (cV c_longest (hr.mo) rfl aP (@aA _ _ _ _ _ (pv 2) aC rfl)) (aNf rfl (qM (dC (i:=3) oG.nd rfl (Or.inl rfl)) (qM (dC (i:=4) oG.nd rfl (Or.inl rfl)) aHj)))) (@aB _ _ _ _ _ (@aY _ _ 5 _ _ _ _ oG.nd rfl (Or.inl rfl) jK rfl (by first|exact .inl rfl|exact .inr rfl)) (@aB _ _ _ _ _ (aPr (i:=6) rfl rfl rfl M.mgN rfl M.mgG oG.nd rfl rfl rfl (fun pins W E' hW=>aD (@aY _ _ 5 _ _ _ _ oG.nd rfl (Or.inl rfl) (@cL _ _ _ _ _ (@aA _ _ _ _ _ aJ (@aA _ _ _ _ _ (aO (aUj c_read (hr.mo) rfl (aVk hW) (@aA _ _ _ _ _ (pv 2) aC rfl)) D_shown (hr.mo) aP) aC rfl) rfl)) rfl (by first|exact .inl rfl|exact .inr rfl))) (fun e'=>aD (@aY _ _ 5 _ _ _ _ oG.nd rfl (Or.inl rfl) (@cL _ _ _ _ _ (@aA _ _ _ _ _ aJ (@aA _ _ _ _ _ (aK2 (K:=K) rfl (pv 6) rfl) aC rfl) rfl)) rfl (by first|exact .inl rfl|exact .inr rfl))) (fun e'=>aD (@aY _ _ 5 _ _ _ _ oG.nd rfl (Or.inl rfl) (@cL _ _ _ _ _ (@aA _ _ _ _ _ aJ (@aA _ _ _ _ _ (bN (r:=aU3 K) (aKm rfl) rfl T.isinstance boot_isinstance (@aA _ _ _ _ _ (pv 6) (@aA _ _ _ _ _ (aQf rfl M.mgT) aC rfl) rfl)) aC rfl) rfl)) rfl (by first|exact .inl rfl|exact .inr rfl)))) (@aB _ _ _ _ _ (@aY _ _ 7 _ _ _ _ oG.nd rfl (Or.inl rfl) (@cU _ _ _ _ _ _ _ dU (@cO _ _ _ _ (@aA _ _ _ _ _ (@cO _ _ _ _ (@aA _ _ _ _ _ (@cL _ _ _ _ _ (@aA _ _ _ _ _ aJ (@aA _ _ _ _ _ (pv 4) aC rfl) rfl)) aC rfl)) (@aA _ _ _ _ _ (@cO _ _ _ _ (@aA _ _ _ _ _ (@cL _ _ _ _ _ (@aA _ _ _ _ _ aJ (@aA _ _ _ _ _ (pv 2) aC rfl) rfl)) (@aA _ _ _ _ _ (@cL _ _ _ _ _ (@aA _ _ _ _ _ aJ (@aA _ _ _ _ _ lJ aC rfl) rfl)) aC rfl) rfl)) aC rfl) rfl)) (cP tY rfl T.int boot_int (@aA _ _ _ _ _ (pv 3) aC rfl)) (fun _ _=>rfl)) rfl (by first|exact .inl rfl|exact .inr rfl)) (@aD _ _ _ (bK (aN (aK6 hu) (pv 5) (pv 7) rfl) (@aD _ _ _ (@aL _ _ _ _ lJ)) aR)))))))) (@aD _ _ _ (@aL _ _ _ _ lJ))),?_⟩
  refine⟨3,rfl,by decide,by decide,?_⟩
  refine aAd (fun i σ H2=>∃v1 v2 v3 v4 v5 v6 v7:Option V,σ=[some (.ref a0),v1,v2,v3,v4,v5,v6,v7]/\SqL K H2 a0 (ns0.map V.int)) ⟨_,_,_,_,_,_,_,rfl,hS⟩ ?_ ?_
  ·rintro i σ H hi ⟨v1,v2,v3,v4,v5,v6,v7,rfl,hS⟩
   refine⟨_,rfl,_,rfl,a0,ns0,0+i,rfl,hS,fun wp H1 s1 hw w1=>?_⟩
   refine⟨wp,rfl,w1,fun z H2 sm k2 w2=>?_⟩
   have s02:bA H H2:=fun a o ha=>k2 a o (s1 a o ha) fun e=>by rw [e,hw]at ha;cases ha
   refine⟨_,rfl,z,rfl,sm.1,fun t3 H3 s3 e3=>?_⟩
   have s03:=s02.trans s3
   refine⟨t3,_,rfl,SqT.of e3,rfl,_,_,rfl,_,_,rfl,rfl,?_⟩
   have z8:=sm.1
   refine(fun(rest:∀(σ:L2.St) (H4:Hp) (p:Addr) (x:Str) (v:V),(∃v6:Option V,σ=[some (.ref a0),some (.int (0+(i:Int))),some (.str (tx z)),some (.bl (jL z).1),some (cG (jL z).2),some (.ref p),v6,v7])->bA H3 H4->H4 p=some (.tup [.str x,v])->aU7 z x v->(?R:L2.St->Hp->Prop) σ H4)=> ?main) ?restp
   case main=>
    refine⟨_,rfl,.inl ⟨z,rfl,by omega,fun p em H4 dx s4 a4=>?_,fun t e=>⟨fun hf=>aJs sm (aH2 e) hf,fun x hx H4 dx s4 a4=>?_,fun hn v' H4 s4 u4=>?_⟩⟩⟩
    ·refine⟨CN,dx,rfl,rfl,.inl ⟨Z.nn,fun e he=>?_⟩⟩
     generalize g:upd H4 e (zO e CN dx)=H5
     obtain⟨s5,e5⟩:=bF he g
     refine⟨_,rfl,e,CN,dx,[("at",cG p)],cG p,rfl,e5,s5 _ _ (show H4 dx=some (.xd [("at",cG p)])from a4),Z.askN,Z.hd,Z.at_,rfl,sz2,fun t ht=>?_⟩
     generalize g:upd H5 t _=H6
     obtain⟨s6,e6⟩:=bF ht g
     dsimp only [gR,Ends.gone1]
     generalize hσ:List.set _ 6 none=σ
     exact rest σ H6 t _ _ ⟨_,hσ.symm⟩ (s4.trans (s5.trans s6)) e6 (.inl (by rw [aQ3 em];exact⟨rfl,rfl,rfl⟩))
    ·refine⟨CG,dx,rfl,rfl,.inr ⟨Z.gn,Z.gg,fun e he=>?_⟩⟩
     generalize g:upd H4 e (zO e CG dx)=H5
     obtain⟨s5,e5⟩:=bF he g
     refine⟨_,rfl,e,CG,dx,.ref CT,CT,true,rfl,e5,Z.askG,.inl ⟨rfl,Z.gt⟩,sz2,fun t ht=>?_⟩
     generalize g:upd H5 t _=H6
     obtain⟨s6,e6⟩:=bF ht g
     dsimp only [gR,Ends.gone1]
     generalize hσ:List.set _ 6 none=σ
     exact rest σ H6 t _ _ ⟨_,hσ.symm⟩ (s4.trans (s5.trans s6)) e6 (.inr ⟨aEg (by assumption),.inr ⟨rfl,rfl⟩⟩)
    ·obtain⟨p,dx,fs,rfl,hp,hf⟩:=u4
     have hff:ff t=none:=by
      rcases hn with ⟨_,z⟩|⟨z,_⟩
      ·exact absurd rfl z
      ·exact z
     have ez:=aH2 e
     refine⟨p,_,dx,fs,rfl,hp,isC N t,nS t fs H4 hf,p,dx,fs,t,rfl,hp,hf,rfl,aHz e,hff,by rw [ez];omega,fun H5 s5=>?_⟩
     rw [ez]
     refine⟨sz2,fun t ht=>?_⟩
     generalize g:upd H5 t _=H6
     obtain⟨s6,e6⟩:=bF ht g
     dsimp only [gR]
     generalize hσ:List.set _ 5 _=σ
     exact rest σ H6 t _ _ ⟨_,hσ.symm⟩ (s4.trans (s5.trans s6)) e6 (.inr ⟨aEg e,.inl ⟨rfl,rfl⟩⟩)
   case restp=>
    rintro σ H4 p x v ⟨v6,rfl⟩ s4 e4 due
    have hS4:SqL K H4 a0 (ns0.map V.int):=KZ.SqL.sm (s03.trans s4) hS
    refine⟨_,rfl,sz2,fun t1 n1=>?_⟩
    generalize g:upd H4 t1 _=H5
    obtain⟨s5,e5⟩:=bF n1 g
    refine⟨sz1,fun l1 n2=>?_⟩
    generalize g:upd H5 l1 _=H6
    obtain⟨s6,e6⟩:=bF n2 g
    refine⟨_,rfl,sz2,fun t2 n3=>?_⟩
    generalize g:upd H6 t2 _=H7
    obtain⟨s7,e7⟩:=bF n3 g
    refine⟨sz2,fun t4 n4=>?_⟩
    generalize g:upd H7 t4 _=H8
    obtain⟨s8,e8⟩:=bF n4 g
    refine⟨sz2,fun l2 n5=>?_⟩
    generalize g:upd H8 l2 _=H9
    obtain⟨s9,e9⟩:=bF n5 g
    refine⟨sz2,fun l3 n6=>?_⟩
    generalize g:upd H9 l3 _=HA
    obtain⟨sA,eA⟩:=bF n6 g
    have s9A:=s9.trans sA
    have s8A:=s8.trans s9A
    have s6A:=s7.trans s8A
    have s5A:=s6.trans s6A
    have s4A:=s5.trans s5A
    have e4:=s4A _ _ e4
    have fin:=fun v7:Option V=>(⟨_,_,_,_,_,_,_,rfl,KZ.SqL.sm s4A hS4⟩:∃w1 w2 w3 w4 w5 w6 w7:Option V,[some (.ref a0),some (.int (0+(i:Int))),some (.str (tx z)),some (.bl (jL z).1),some (cG (jL z).2),some (.ref p),v6,v7]=[some (V.ref a0),w1,w2,w3,w4,w5,w6,w7]/\SqL K HA a0 (ns0.map V.int))
    rcases due with ⟨lg,rfl,rfl⟩|⟨lg,due⟩
    ·refine⟨_,rfl,.inr ⟨_,rfl,l3,_,_,_,rfl,rfl,SqL.of eA,by rw [lg];rfl,?_⟩⟩
     refine⟨_,rfl,_,rfl,aTx rfl (aQe _) e4 (s6A _ _ e6) (s5A _ _ e5) ⟨_,rfl,fU ?_⟩⟩
     exact fin _
    ·refine⟨_,rfl,.inr ⟨_,rfl,l3,_,_,_,rfl,rfl,SqL.of eA,by rw [lg];rfl,?_⟩⟩
     have fl:gJ v=true/\eqV v v=true:=by
      rcases due with ⟨_,rfl⟩|⟨_,rfl⟩
      ·exact⟨rfl,by simp [eqV]⟩
      ·exact⟨rfl,rfl⟩
     refine⟨_,rfl,_,rfl,aSx fl.1 fl.2 rfl rfl e4 (sA _ _ e9) (s8A _ _ e7) (s9A _ _ e8) due ⟨_,rfl,fU ?_⟩⟩
     exact fin _
  ·rintro σ H2 _
   exact q H2
theorem knS {us:List Value} {n:Nat} {P:List Value->Prop} (h:us.length=n+1) (k:∀a t,t.length=n->P (a::t)):P us:=by
 cases us with
 |nil=>cases h
 |cons a t=>exact k a t (Nat.succ.inj h)
theorem kn1 {us:List Value} {P:List Value->Prop} (h:us.length=1) (k:∀a,P [a]):P us:=knS h fun a t ht=>by cases t with|nil=>exact k a|cons=>cases ht
theorem kn2 {us:List Value} {P:List Value->Prop} (h:us.length=2) (k:∀a b,P [a,b]):P us:=knS h fun a t ht=>kn1 (P:=fun t=>P (a::t)) ht fun b=>k a b
theorem kn3 {us:List Value} {P:List Value->Prop} (h:us.length=3) (k:∀a b c,P [a,b,c]):P us:=knS h fun a t ht=>kn2 (P:=fun t=>P (a::t)) ht fun b c=>k a b c
theorem kn4 {us:List Value} {P:List Value->Prop} (h:us.length=4) (k:∀a b c d,P [a,b,c,d]):P us:=knS h fun a t ht=>kn3 (P:=fun t=>P (a::t)) ht fun b c d=>k a b c d
theorem kb1 {fd:FuncData} {ps:List Str} {us:List Value} (h:us.length=1) (k:∀a,bindArgs fd ⟨[a],[]⟩=pure (ps.zip [a])):bindArgs fd ⟨us,[]⟩=pure (ps.zip us):=kn1 (P:=fun us=>bindArgs fd ⟨us,[]⟩=pure (ps.zip us)) h k
theorem kb2 {fd:FuncData} {ps:List Str} {us:List Value} (h:us.length=2) (k:∀a b,bindArgs fd ⟨[a,b],[]⟩=pure (ps.zip [a,b])):bindArgs fd ⟨us,[]⟩=pure (ps.zip us):=kn2 (P:=fun us=>bindArgs fd ⟨us,[]⟩=pure (ps.zip us)) h k
theorem kb3 {fd:FuncData} {ps:List Str} {us:List Value} (h:us.length=3) (k:∀a b c,bindArgs fd ⟨[a,b,c],[]⟩=pure (ps.zip [a,b,c])):bindArgs fd ⟨us,[]⟩=pure (ps.zip us):=kn3 (P:=fun us=>bindArgs fd ⟨us,[]⟩=pure (ps.zip us)) h k
theorem kb4 {fd:FuncData} {ps:List Str} {us:List Value} (h:us.length=4) (k:∀a b c d,bindArgs fd ⟨[a,b,c,d],[]⟩=pure (ps.zip [a,b,c,d])):bindArgs fd ⟨us,[]⟩=pure (ps.zip us):=kn4 (P:=fun us=>bindArgs fd ⟨us,[]⟩=pure (ps.zip us)) h k
theorem jR {N:Cn} (m:Str) (hm:∀x∈(["value","back","steps","one","by","test","other"]:List Str),(m==x)=false):∀(t:Tm) (fs:List (Str×V)) (H:Hp),bZ N H fs t->fs.lookup m=none:=by
 have g:∀{fs:List (Str×V)},(∀p∈fs,(m==p.1)=false)->fs.lookup m=none:=fun{fs}=>by
  induction fs with
  |nil=>intro _;rfl
  |cons p l ih=>
   intro h
   rw [List.lookup_cons,h p List.mem_cons_self]
   exact ih fun q hq=>h q (List.mem_cons_of_mem _ hq)
 intro t fs H h
 cases t with
 |num n=>
  subst h
  exact g fun p hp=>by rw [List.mem_singleton.mp hp];exact hm _ (by simp)
 |take b ss=>
  obtain⟨q,rfl,_⟩:=h
  refine g fun p hp=>hm _ ?_
  simp only [List.mem_cons,List.not_mem_nil,or_false]at hp
  rcases hp with rfl|rfl<;>simp
 |rest a y=>
  obtain⟨_,_,_,rfl,_⟩:=h
  refine g fun p hp=>hm _ ?_
  simp only [List.mem_cons,List.not_mem_nil,or_false]at hp
  rcases hp with rfl|rfl<;>simp
 |cho a b c=>
  obtain⟨_,_,_,_,_,_,_,_,_,rfl,_⟩:=h
  refine g fun p hp=>hm _ ?_
  simp only [List.mem_cons,List.not_mem_nil,or_false]at hp
  rcases hp with rfl|rfl|rfl<;>simp
 |bin k a b=>
  obtain⟨_,_,_,_,_,_,rfl,_⟩:=h
  refine g fun p hp=>hm _ ?_
  simp only [List.mem_cons,List.not_mem_nil,or_false]at hp
  rcases hp with rfl|rfl<;>simp
theorem aKj {f1 f2 f3 f4:Addr} {g1 g2 g3 g4:FuncData} (nd:(tE N).Nodup) (F1:Fun K "inner" "Term.inner" uZ f1 g1) (F2:Fun K "inner" "Paired.inner" vU f2 g2) (F3:Fun K "inner" "Rest.inner" vD f3 g3) (F4:Fun K "inner" "Chosen.inner" vQ f4 g4)
  (b1:Binds K g1 ["self"] []) (b2:Binds K g2 ["self"] []) (b3:Binds K g3 ["self"] []) (b4:Binds K g4 ["self"] [])
  (c1:Cf K N.num ["value"]) (c2:Cf K N.take ["back","steps"]) (c3:Cf K N.rest ["one","by"]) (c4:Cf K N.cho ["test","one","other"]) (c5:∀k,Cf K (N.bin k) ["one","other"])
  (m1:Meth K N.num "inner" f1) (m2:Meth K N.take "inner" f1) (m3:Meth K N.rest "inner" f3) (m4:Meth K N.cho "inner" f4) (m5:∀k,Meth K (N.bin k) "inner" f2):Dis P w K mg base CX0 1 (IsC N) "inner" ["self"] (eG N):=by
 refine⟨fun C hC=>?_⟩
 rcases hC with rfl|rfl|rfl|rfl|⟨k,rfl⟩
 ·exact⟨c1.cl,f1,g1,m1,aAj F1 fun t h=>(aT0 nd h).1,b1⟩
 ·exact⟨c2.cl,f1,g1,m2,aAj F1 (fun t h=>by obtain⟨b,ss,rfl⟩:=vA nd h;rfl),b1⟩
 ·exact⟨c3.cl,f3,g3,m3,aI2 F3 c3 fun t h=>aCa nd h,b3⟩
 ·exact⟨c4.cl,f4,g4,m4,aKs F4 c4 fun t h=>aFs nd h,b4⟩
 ·exact⟨(c5 k).cl,f2,g2,m5 k,aK0 F2 (c5 k) fun t h=>aNp nd h,b2⟩
theorem aAk {f1 f2:Addr} {g1 g2:FuncData} (nd:(tE N).Nodup) (F1:Fun K "takes" "Term.takes" vG f1 g1) (F2:Fun K "takes" "Take.takes" vY f2 g2) (b1:Binds K g1 ["self"] []) (b2:Binds K g2 ["self"] []) (cl:∀C,IsC N C->Cls K C) (c2:Cf K N.take ["back","steps"])
  (m1:∀C,IsC N C->C≠N.take->Meth K C "takes" f1) (m2:Meth K N.take "takes" f2) (D_inner:Dis P w K mg base CX0 1 (IsC N) "inner" ["self"] (eG N)) (T:Txt K mg) (nT:∀(t:Tm) (fs:List (Str×V)) H,bZ N H fs t->fs.lookup ("takes":Str)=none/\fs.lookup ("inner":Str)=none):
  ∀d,Dis P w K mg base CX0 (d+1) (IsC N) "takes" ["self"] (mL N d)
 |0=>⟨fun C hC=>⟨cl C hC,by
   have no:∀vs H Q E,¬mL N 0 C vs H Q E:=fun vs H Q E ⟨_,_,_,t,_,_,_,_,h,_,_⟩=>absurd (mV t) (by omega)
   by_cases e:C=N.take
   ·subst e
    exact⟨f2,g2,m2,iD no,b2⟩
   ·exact⟨f1,g1,m1 C hC e,iD no,b1⟩⟩⟩
 |d+1=>⟨fun C hC=>⟨cl C hC,by
   by_cases e:C=N.take
   ·subst e
    exact⟨f2,g2,m2,aJj F2 c2 fun t h=>vA nd h,b2⟩
   ·exact⟨f1,g1,m1 C hC e,aJr F1 D_inner (aAk nd F1 F2 b1 b2 cl c2 m1 m2 D_inner T nT d) T (fun t h b ss z=>e (by rw [<-h,z];rfl)) nT,b1⟩⟩⟩
theorem aAv {f1:Addr} {g1:FuncData} (F1:Fun K "depth" "Term.depth" qK f1 g1) (b1:Binds K g1 ["self"] []) (cl:∀C,IsC N C->Cls K C) (m1:∀C,IsC N C->Meth K C "depth" f1) (D_inner:Dis P w K mg base CX0 1 (IsC N) "inner" ["self"] (eG N)) (T:Txt K mg)
  (nI:∀(t:Tm) (fs:List (Str×V)) H,bZ N H fs t->fs.lookup ("inner":Str)=none) (nD:∀(t:Tm) (fs:List (Str×V)) H,bZ N H fs t->fs.lookup ("depth":Str)=none):∀d,Dis P w K mg base CX0 (d+1) (IsC N) "depth" ["self"] (uL N ht d)
 |0=>⟨fun C hC=>⟨cl C hC,f1,g1,m1 C hC,iD (fun vs H Q E ⟨_,_,_,t,_,_,_,_,h,_,_⟩=>absurd (mV t) (by omega)),b1⟩⟩
 |d+1=>⟨fun C hC=>⟨cl C hC,f1,g1,m1 C hC,aJf F1 D_inner (aAv F1 b1 cl m1 D_inner T nI nD d) T nI nD,b1⟩⟩
theorem aAx {f1:Addr} {g1:FuncData} (F1:Fun K "parts" "Term.parts" rJ f1 g1) (b1:Binds K g1 ["self"] []) (cl:∀C,IsC N C->Cls K C) (m1:∀C,IsC N C->Meth K C "parts" f1) (D_inner:Dis P w K mg base CX0 1 (IsC N) "inner" ["self"] (eG N)) (T:Txt K mg)
  (nI:∀(t:Tm) (fs:List (Str×V)) H,bZ N H fs t->fs.lookup ("inner":Str)=none) (nD:∀(t:Tm) (fs:List (Str×V)) H,bZ N H fs t->fs.lookup ("parts":Str)=none):∀d,Dis P w K mg base CX0 (d+1) (IsC N) "parts" ["self"] (uL N dD d)
 |0=>⟨fun C hC=>⟨cl C hC,f1,g1,m1 C hC,iD (fun vs H Q E ⟨_,_,_,t,_,_,_,_,h,_,_⟩=>absurd (mV t) (by omega)),b1⟩⟩
 |d+1=>⟨fun C hC=>⟨cl C hC,f1,g1,m1 C hC,aKi F1 D_inner (aAx F1 b1 cl m1 D_inner T nI nD d) T nI nD,b1⟩⟩
theorem aDw {f:Addr} {fd:FuncData} (F:Fun K "_law_told" "_law_told" aHi f fd) (m:mg "_law_told"=some (.ref f)) (k:W.keepIn K (.ref f)=true) (b:Binds K fd ["_law_well_here","_law_some","_law_deep"] []) (c_draw:Cal P w K mg base CX0 1 "_law_draw" ["_law_well_here","_law_most"] qG) (c_number:Cal P w K mg base CX0 2 "_law_number" ["_law_well_here"] yZ) (T:Txt K mg):
  ∀d,Cal P w K mg base CX0 (d+2) "_law_told" ["_law_well_here","_law_some","_law_deep"] (aCn d)
 |0=>⟨_,_,iD (fun vs H Q E ⟨_,_,_,e,_,_,_,_,h,_⟩=>absurd h (by omega)),m,k,b⟩
 |d+1=>⟨_,_,aQy F c_draw c_number (aDw F m k b c_draw c_number T d) T,m,k,b⟩
theorem aOu {f:Addr} {fd:FuncData} (F:Fun K "first_fault" "first_fault" aCu f fd) (m:mg "first_fault"=some (.ref f)) (k:W.keepIn K (.ref f)=true) (b:Binds K fd ["term"] []) (D_inner:Dis P w K mg base CX0 1 (IsC N) "inner" ["self"] (eG N)) (D_fault:Dis P w K mg base CX0 4 (IsC N) "own_fault" ["self"] (kI N))
  (nI:∀(t:Tm) (fs:List (Str×V)) H,bZ N H fs t->fs.lookup ("inner":Str)=none) (nF:∀(t:Tm) (fs:List (Str×V)) H,bZ N H fs t->fs.lookup ("own_fault":Str)=none):∀d,Cal P w K mg base CX0 (d+4) "first_fault" ["term"] (aQ0 N d)
 |0=>⟨_,_,iD (fun vs H Q E ⟨_,_,_,t,_,_,_,h,_⟩=>absurd (mV t) (by omega)),m,k,b⟩
 |d+1=>⟨_,_,aU4 F (aOu F m k b D_inner D_fault nI nF d) D_inner D_fault nI nF,m,k,b⟩
theorem aIj {N:Cn} (nd:(tE N).Nodup) {t:Tm} (h:cls N t=N.num):∃n,t= .num n:=by
 have:=pQ nd (u:= .num (.i 0)) h
 cases t<;>simp [tag]at this<;>first|exact⟨_,rfl⟩|omega
theorem aKe {f1 f2 f3 f4:Addr} {g1 g2 g3 g4:FuncData} (nd:(tE N).Nodup) (F1:Fun K "own_fault" "Term.own_fault" vW f1 g1) (F2:Fun K "own_fault" "Number.own_fault" uY f2 g2) (F3:Fun K "own_fault" "Take.own_fault" vM f3 g3) (F4:Fun K "own_fault" "Rest.own_fault" vH f4 g4)
  (b1:Binds K g1 ["self"] []) (b2:Binds K g2 ["self"] []) (b3:Binds K g3 ["self"] []) (b4:Binds K g4 ["self"] [])
  (c1:Cf K N.num ["value"]) (c2:Cf K N.take ["back","steps"]) (c3:Cf K N.rest ["one","by"]) (c4:Cf K N.cho ["test","one","other"]) (c5:∀k,Cf K (N.bin k) ["one","other"])
  (c_within:Cal P w K mg base CX0 2 "is_within" PW3 lG) (c_areSteps:Cal P w K mg base CX0 3 "are_steps" ["thing"] pO) (T:Txt K mg)
  (m1:Meth K N.num "own_fault" f2) (m2:Meth K N.take "own_fault" f3) (m3:Meth K N.rest "own_fault" f4) (m4:Meth K N.cho "own_fault" f1) (m5:∀k,Meth K (N.bin k) "own_fault" f1):Dis P w K mg base CX0 4 (IsC N) "own_fault" ["self"] (kI N):=by
 refine⟨fun C hC=>?_⟩
 rcases hC with rfl|rfl|rfl|rfl|⟨k,rfl⟩
 ·exact⟨c1.cl,f2,g2,m1,(aJ1 F2 c1 (fun t h=>aIj nd h) c_within T).mono (by decide),b2⟩
 ·exact⟨c2.cl,f3,g3,m2,aKc F3 c2 (fun t h=>vA nd h) c_within c_areSteps T,b3⟩
 ·exact⟨c3.cl,f4,g4,m3,(aJk F4 c3 (fun t h=>aCa nd h) c_within T).mono (by decide),b4⟩
 ·exact⟨c4.cl,f1,g1,m4,(aAi F1 (fun t h=>by obtain⟨a,b,d,rfl⟩:=aFs nd h;rfl)).mono (by decide),b1⟩
 ·exact⟨(c5 k).cl,f1,g1,m5 k,(aAi F1 (fun t h=>by obtain⟨j,a,b,rfl⟩:=aNp nd h;rfl)).mono (by decide),b1⟩
abbrev GN (K:W.Frag) (n:Str) (f:Addr):Prop:=W.nsIn K mainGlobals n=some (some (.ref f))
abbrev FI (K:W.Frag) (C:Addr) (n:Str) (f:Addr):Prop:=W.findIn K (.ref C) n=some (some (.ref f))
structure CK (K:W.Frag) (C:Addr) (fs:List Str):Prop where
 c:Cls K C
 na:∀f∈fs,jV K C f
 ms:W.makesIn K C=true
 kc:W.keepIn K (.ref C)=true
theorem CK.cf {K:W.Frag} {C:Addr} {fs:List Str} (h:CK K C fs):Cf K C fs:=⟨h.c,h.na⟩
theorem na0 {K:W.Frag} {C:Addr}:∀f∈([]:List Str),jV K C f:=fun _ h=>nomatch h
theorem naS {K:W.Frag} {C:Addr} {x:Str} {l:List Str} (h:W.findIn K (.ref C) x=some none) (k:∀f∈l,jV K C f):∀f∈x::l,jV K C f:=fun f hf=>(List.mem_cons.mp hf).elim (fun e=>e▸h) (k f)
theorem mth {K:W.Frag} {C D f:Addr} {n:Str} (h:Meth K C n f) (g:FI K D n f):Meth K D n f:=⟨g,h.fn,h.kp⟩
theorem mkO {K:W.Frag} {C f:Addr} {fs:List Str} (h:CK K C fs) (g:Meth K C "__init__" f):Mk K C f:=⟨h.ms,g.at_,g.fn,h.kc⟩
theorem fb1 (a:Str) {x q:Str} {st:Stmt} {f:Addr} {fd:FuncData} (F:Fun K x q st f fd) (h:∀kV doc pm an cdv ct u,bindArgs (W.fnOf x q (jF st) (gF st) (aH st) .none kV doc pm an cdv ct) ⟨[u],[]⟩=pure ([a].zip [u]):=by intros;rfl):Binds K fd [a] []:=F.binds fun _ _ _ _ _ _ us hl=>kb1 hl (h _ _ _ _ _ _)
theorem fb2 (a b:Str) {x q:Str} {st:Stmt} {f:Addr} {fd:FuncData} (F:Fun K x q st f fd) (h:∀kV doc pm an cdv ct u v,bindArgs (W.fnOf x q (jF st) (gF st) (aH st) .none kV doc pm an cdv ct) ⟨[u,v],[]⟩=pure ([a,b].zip [u,v]):=by intros;rfl):Binds K fd [a,b] []:=F.binds fun _ _ _ _ _ _ us hl=>kb2 hl (h _ _ _ _ _ _)
theorem fb3 (a b c:Str) {x q:Str} {st:Stmt} {f:Addr} {fd:FuncData} (F:Fun K x q st f fd) (h:∀kV doc pm an cdv ct u v y,bindArgs (W.fnOf x q (jF st) (gF st) (aH st) .none kV doc pm an cdv ct) ⟨[u,v,y],[]⟩=pure ([a,b,c].zip [u,v,y]):=by intros;rfl):Binds K fd [a,b,c] []:=F.binds fun _ _ _ _ _ _ us hl=>kb3 hl (h _ _ _ _ _ _)
theorem fb4 (a b c d:Str) {x q:Str} {st:Stmt} {f:Addr} {fd:FuncData} (F:Fun K x q st f fd) (h:∀kV doc pm an cdv ct u v y z,bindArgs (W.fnOf x q (jF st) (gF st) (aH st) .none kV doc pm an cdv ct) ⟨[u,v,y,z],[]⟩=pure ([a,b,c,d].zip [u,v,y,z]):=by intros;rfl):Binds K fd [a,b,c,d] []:=F.binds fun _ _ _ _ _ _ us hl=>kb4 hl (h _ _ _ _ _ _)
theorem rE {N:Cn} (nd:(tE N).Nodup) {t:Tm} {k:Fin 5} (h:cls N t=N.bin k):∃a b,t= .bin k a b:=by
 have:=pQ nd (u:= .bin k (.num (.i 0)) (.num (.i 0))) h
 cases t with
 |bin j a b=>
  have e:j=k:=Fin.ext (by simp only [tag]at this;omega)
  exact⟨a,b,by rw [e]⟩
 |_=>simp [tag]at this<;>omega
structure CS (P:Program) (w:World) (K:W.Frag) (mg:Str->Option Value) (base:Heap) (N:Cn) (C:Addr):Prop where
 ex:∃f fd,Meth K C "shown" f/\Binds K fd ["self"] []/\∀d:Nat,DSh P w K mg base N d->bC P w K mg base CX0 (2*d+3) f fd ["self"] (gH N (d+1) C)
theorem aAy (cl:∀C,IsC N C->Cls K C) (cs:∀C,IsC N C->CS P w K mg base N C):∀d,DSh P w K mg base N d
 |0=>⟨fun C hC=>by
   obtain⟨f,fd,m,b,_⟩:=(cs C hC).ex
   exact⟨cl C hC,f,fd,m,iD fun vs H Q E ⟨_,_,_,t,_,_,_,_,h,_,_,_⟩=>absurd (mV t) (by omega),b⟩⟩
 |d+1=>⟨fun C hC=>by
   obtain⟨f,fd,m,b,k⟩:=(cs C hC).ex
   exact⟨cl C hC,f,fd,m,k d (aAy cl cs d),b⟩⟩
theorem jM {f:Addr} {fd:FuncData} {d:Nat} (F:Fun K "shown_with" "Paired.shown_with" vK f fd) (b:Binds K fd ["self","sign"] []) (c5:∀k,Cf K (N.bin k) ["one","other"]) (m:∀k,Meth K (N.bin k) "shown_with" f) (nS:NoS N) (D:DSh P w K mg base N d):DSW P w K mg base N d:=
 ⟨fun C ⟨k,e⟩=>by
  subst e
  exact⟨(c5 k).cl,f,fd,m k,aI1 F (c5 k) D nS,b⟩⟩
end
end KZ
namespace KZ
open PySem PyProof.Rows L2
theorem aSz {l:W.OpenLaw} {w:World} {K:W.Frag} {h:Heap} {mg:Str->Option Value} {fa ft aW Cnum Ctake Crest Ccho Cb0 Cb1 Cb2 Cb3 Cb4 CR CG CN CT f10 f11 f12 f13 f14 f15 f16 f17 f18 f19 f20 f21 f22 f23 f24 f25 f26 f27 f28 f29 f30 f31 f32 f33 f34 f35 f36 f37 f38 f39 f40 f41 f42 f43 f44 f45 f46 f47 f48 f49 f50 f51 f52 f53 f54 f55 f56 f57 f58 f59 f60 f61 f62 f63 f64 f65 f66 f67 f68 f69 f70:Addr} {gt g10 g11 g12 g13 g14 g15 g16 g17 g18 g19 g20 g21 g22 g23 g24 g25 g26 g27 g28 g29 g30 g31 g32 g33 g34 g35 g36 g37 g38 g39 g40 g41 g42 g43 g44 g45 g46 g47 g48 g49 g50 g51 g52 g53 g54 g55 g56 g57 g58 g59 g60 g61 g62 g63 g64 g65 g66 g67 g68 g69 g70:FuncData} {odW:Option Addr} {nW:Nat} {slW:Array (Option Value)} {tF tW1 tW2 tW3 tW4 tW5 tW6 tW7 t_gn t_gd t_gb t_gst t_mst t_mdp t_mpa t_mtk t_mfi t_mst2 t_mwi:Tok} (X:K.In h) (G:h.Ns mainGlobals mg) (hfa:mg "law"=some (.ref fa))
  (aCnum:GN K "Number" Cnum) (aCtake:GN K "Take" Ctake) (aCrest:GN K "Rest" Crest) (aCcho:GN K "Chosen" Ccho)
  (aCb0:GN K "Added" Cb0) (aCb1:GN K "Lessened" Cb1) (aCb2:GN K "Multiplied" Cb2) (aCb3:GN K "Least" Cb3)
  (aCb4:GN K "Most" Cb4) (aCR:GN K "TermReader" CR) (aCG:GN K "NoTerm" CG) (aCN:GN K "NoText" CN)
  (aCT:GN K "TileError" CT) (a10:GN K "is_whole" f10) (F10:Fun K "is_whole" "is_whole" aFx f10 g10) (a11:GN K "is_within" f11)
  (F11:Fun K "is_within" "is_within" aC6 f11 g11) (a12:GN K "are_steps" f12) (F12:Fun K "are_steps" "are_steps" pA f12 g12) (a13:GN K "lines_of" f13)
  (F13:Fun K "lines_of" "lines_of" rF f13 g13) (a14:GN K "first_fault" f14) (F14:Fun K "first_fault" "first_fault" aCu f14 g14) (a15:GN K "check_term" f15)
  (F15:Fun K "check_term" "check_term" aC3 f15 g15) (a16:GN K "pair_by" f16) (F16:Fun K "pair_by" "pair_by" aNq f16 g16) (a17:GN K "read_written" f17)
  (F17:Fun K "read_written" "read_written" wM f17 g17) (a18:GN K "read_term" f18) (F18:Fun K "read_term" "read_term" aNj f18 g18) (a19:GN K "_law_cell_at" f19)
  (F19:Fun K "_law_cell_at" "_law_cell_at" aMr f19 g19) (a20:GN K "_law_well" f20) (F20:Fun K "_law_well" "_law_well" aO2 f20 g20) (a21:GN K "_law_draw" f21)
  (F21:Fun K "_law_draw" "_law_draw" aL2 f21 g21) (a22:GN K "_law_steps" f22) (F22:Fun K "_law_steps" "_law_steps" aB0 f22 g22) (a23:GN K "_law_some_takes" f23)
  (F23:Fun K "_law_some_takes" "_law_some_takes" aIg f23 g23) (a24:GN K "_law_number" f24) (F24:Fun K "_law_number" "_law_number" aC7 f24 g24) (a25:GN K "_law_told" f25)
  (F25:Fun K "_law_told" "_law_told" aHi f25 g25) (a26:GN K "_law_text" f26) (F26:Fun K "_law_text" "_law_text" aD5 f26 g26) (a27:GN K "_law_number_end" f27)
  (F27:Fun K "_law_number_end" "_law_number_end" aC5 f27 g27) (a28:GN K "_law_wanted" f28) (F28:Fun K "_law_wanted" "_law_wanted" aBk f28 g28) (a29:GN K "_law_word" f29)
  (F29:Fun K "_law_word" "_law_word" aCp f29 g29) (a30:GN K "_law_longest" f30) (F30:Fun K "_law_longest" "_law_longest" yE f30 g30) (a31:GN K "_law_drawn" f31)
  (F31:Fun K "_law_drawn" "_law_drawn" aCv f31 g31) (a32:GN K "law" f32) (F32:Fun K "law" "law" aKx f32 g32) (atile:FI K CG "__init__" ft)
  (Ft:Fun K "__init__" "TileError.__init__" aLn ft gt) (M33:Meth K Cnum "inner" f33) (F33:Fun K "inner" "Term.inner" uZ f33 g33) (M34:Meth K Cnum "takes" f34)
  (F34:Fun K "takes" "Term.takes" vG f34 g34) (M35:Meth K Cnum "depth" f35) (F35:Fun K "depth" "Term.depth" qK f35 g35) (M36:Meth K Cnum "parts" f36)
  (F36:Fun K "parts" "Term.parts" rJ f36 g36) (M37:Meth K Ccho "own_fault" f37) (F37:Fun K "own_fault" "Term.own_fault" vW f37 g37) (M38:Meth K Cnum "__init__" f38)
  (F38:Fun K "__init__" "Number.__init__" aGg f38 g38) (M39:Meth K Cnum "own_fault" f39) (F39:Fun K "own_fault" "Number.own_fault" uY f39 g39) (M40:Meth K Ctake "__init__" f40)
  (F40:Fun K "__init__" "Take.__init__" aGj f40 g40) (M41:Meth K Ctake "takes" f41) (F41:Fun K "takes" "Take.takes" vY f41 g41) (M42:Meth K Ctake "own_fault" f42)
  (F42:Fun K "own_fault" "Take.own_fault" vM f42 g42) (M43:Meth K Cb0 "__init__" f43) (F43:Fun K "__init__" "Paired.__init__" aGu f43 g43) (M44:Meth K Cb0 "inner" f44)
  (F44:Fun K "inner" "Paired.inner" vU f44 g44) (M45:Meth K Crest "__init__" f45) (F45:Fun K "__init__" "Rest.__init__" aF3 f45 g45) (M46:Meth K Crest "inner" f46)
  (F46:Fun K "inner" "Rest.inner" vD f46 g46) (M47:Meth K Crest "own_fault" f47) (F47:Fun K "own_fault" "Rest.own_fault" vH f47 g47) (M48:Meth K Ccho "__init__" f48)
  (F48:Fun K "__init__" "Chosen.__init__" aF5 f48 g48) (M49:Meth K Ccho "inner" f49) (F49:Fun K "inner" "Chosen.inner" vQ f49 g49) (M50:Meth K Cb0 "shown_with" f50)
  (F50:Fun K "shown_with" "Paired.shown_with" vK f50 g50) (M51:Meth K CR "__init__" f51) (F51:Fun K "__init__" "TermReader.__init__" aBm f51 g51) (M52:Meth K CR "ahead" f52)
  (F52:Fun K "ahead" "TermReader.ahead" yN f52 g52) (M53:Meth K CR "pass_by" f53) (F53:Fun K "pass_by" "TermReader.pass_by" aBr f53 g53) (M54:Meth K CR "figure_is_ahead" f54)
  (F54:Fun K "figure_is_ahead" "TermReader.figure_is_ahead" aGc f54 g54) (M55:Meth K CR "read_figures" f55) (F55:Fun K "read_figures" "TermReader.read_figures" aCb f55 g55) (M56:Meth K CR "read_number" f56)
  (F56:Fun K "read_number" "TermReader.read_number" aFk f56 g56) (M57:Meth K CR "read_take" f57) (F57:Fun K "read_take" "TermReader.read_take" aCl f57 g57) (M58:Meth K CR "read_word" f58)
  (F58:Fun K "read_word" "TermReader.read_word" vV f58 g58) (M59:Meth K CR "read_bracket" f59) (F59:Fun K "read_bracket" "TermReader.read_bracket" nZ f59 g59) (M60:Meth K CR "read_behind" f60)
  (F60:Fun K "read_behind" "TermReader.read_behind" oZ f60 g60) (M61:Meth K CR "read_part" f61) (F61:Fun K "read_part" "TermReader.read_part" vO f61 g61) (M62:Meth K Cnum "shown" f62)
  (F62:Fun K "shown" "Number.shown" aC2 f62 g62) (M63:Meth K Ctake "shown" f63) (F63:Fun K "shown" "Take.shown" vJ f63 g63) (M64:Meth K Crest "shown" f64)
  (F64:Fun K "shown" "Rest.shown" aC1 f64 g64) (M65:Meth K Ccho "shown" f65) (F65:Fun K "shown" "Chosen.shown" aBn f65 g65) (M66:Meth K Cb0 "shown" f66)
  (F66:Fun K "shown" "Added.shown" aBv f66 g66) (M67:Meth K Cb1 "shown" f67) (F67:Fun K "shown" "Lessened.shown" aC8 f67 g67) (M68:Meth K Cb2 "shown" f68)
  (F68:Fun K "shown" "Multiplied.shown" aCo f68 g68) (M69:Meth K Cb3 "shown" f69) (F69:Fun K "shown" "Least.shown" aCh f69 g69) (M70:Meth K Cb4 "shown" f70)
  (F70:Fun K "shown" "Most.shown" aBz f70 g70) (kCnum:CK K Cnum ["value"]) (kCtake:CK K Ctake ["back","steps"]) (kCrest:CK K Crest ["one","by"])
  (kCcho:CK K Ccho ["test","one","other"]) (kCb0:CK K Cb0 ["one","other"]) (kCb1:CK K Cb1 ["one","other"]) (kCb2:CK K Cb2 ["one","other"])
  (kCb3:CK K Cb3 ["one","other"]) (kCb4:CK K Cb4 ["one","other"]) (kCR:CK K CR ["text","gone"]) (e0:FI K Cb1 "__init__" f43)
  (e1:FI K Cb2 "__init__" f43) (e2:FI K Cb3 "__init__" f43) (e3:FI K Cb4 "__init__" f43) (e4:FI K Ctake "inner" f33)
  (e5:FI K Cb1 "inner" f44) (e6:FI K Cb2 "inner" f44) (e7:FI K Cb3 "inner" f44) (e8:FI K Cb4 "inner" f44)
  (e9:FI K Crest "takes" f34) (e10:FI K Ccho "takes" f34) (e11:FI K Cb0 "takes" f34) (e12:FI K Cb1 "takes" f34)
  (e13:FI K Cb2 "takes" f34) (e14:FI K Cb3 "takes" f34) (e15:FI K Cb4 "takes" f34) (e16:FI K Ctake "depth" f35)
  (e17:FI K Crest "depth" f35) (e18:FI K Ccho "depth" f35) (e19:FI K Cb0 "depth" f35) (e20:FI K Cb1 "depth" f35)
  (e21:FI K Cb2 "depth" f35) (e22:FI K Cb3 "depth" f35) (e23:FI K Cb4 "depth" f35) (e24:FI K Ctake "parts" f36)
  (e25:FI K Crest "parts" f36) (e26:FI K Ccho "parts" f36) (e27:FI K Cb0 "parts" f36) (e28:FI K Cb1 "parts" f36)
  (e29:FI K Cb2 "parts" f36) (e30:FI K Cb3 "parts" f36) (e31:FI K Cb4 "parts" f36) (e32:FI K Cb0 "own_fault" f37)
  (e33:FI K Cb1 "own_fault" f37) (e34:FI K Cb2 "own_fault" f37) (e35:FI K Cb3 "own_fault" f37) (e36:FI K Cb4 "own_fault" f37)
  (e37:FI K Cb1 "shown_with" f50) (e38:FI K Cb2 "shown_with" f50) (e39:FI K Cb3 "shown_with" f50) (e40:FI K Cb4 "shown_with" f50)
  (nd:[Cnum,Ctake,Crest,Ccho,Cb0,Cb1,Cb2,Cb3,Cb4].Nodup) (ndR:CR∉[Cnum,Ctake,Crest,Ccho,Cb0,Cb1,Cb2,Cb3,Cb4]) (rG:Rs K CG ft) (xG:pU K CG)
  (tG:W.takerIn K CG "at"=some none) (rN:Rs K CN ft) (xN:pU K CN) (tN:W.takerIn K CN "at"=some none)
  (zB:ExB K CT CG CN) (qF:W.nsIn K mainGlobals "FIGURES"=some (some (.str "0123456789" tF))) (aWd:GN K "WORDS" aW) (lWd:K.lookup aW=some ⟨.type "tuple",odW,.seq #[.str "+" tW1,.str "-" tW2,.str "*" tW3,.str "min" tW4,.str "max" tW5,.str "rest" tW6,.str "?" tW7] nW,slW⟩)
  (z_isinstance:W.nsIn K mainGlobals "isinstance"=some none) (z_int:W.nsIn K mainGlobals "int"=some none) (z_list:W.nsIn K mainGlobals "list"=some none) (z_tuple:W.nsIn K mainGlobals "tuple"=some none)
  (z_len:W.nsIn K mainGlobals "len"=some none) (z_range:W.nsIn K mainGlobals "range"=some none) (z_max:W.nsIn K mainGlobals "max"=some none) (z_sorted:W.nsIn K mainGlobals "sorted"=some none)
  (z_sum:W.nsIn K mainGlobals "sum"=some none) (z_set:W.nsIn K mainGlobals "set"=some none) (z_bool:W.nsIn K mainGlobals "bool"=some none) (z_all:W.nsIn K mainGlobals "all"=some none)
  (z_any:W.nsIn K mainGlobals "any"=some none) (z_str:W.nsIn K mainGlobals "str"=some none) (z_enumerate:W.nsIn K mainGlobals "enumerate"=some none) (z_ValueError:W.nsIn K mainGlobals "ValueError"=some none)
  (q_gn:W.nsIn K mainGlobals "GREATEST_NUMBER"=some (some (.int 1000000000000 t_gn))) (q_gd:W.nsIn K mainGlobals "GREATEST_DIVISOR"=some (some (.int 1000000000 t_gd))) (q_gb:W.nsIn K mainGlobals "GREATEST_BACK"=some (some (.int 3 t_gb))) (q_gst:W.nsIn K mainGlobals "GREATEST_STEP"=some (some (.int 9 t_gst)))
  (q_mst:W.nsIn K mainGlobals "MOST_STEPS_terms"=some (some (.int 3 t_mst))) (q_mdp:W.nsIn K mainGlobals "MOST_DEPTH"=some (some (.int 12 t_mdp))) (q_mpa:W.nsIn K mainGlobals "MOST_PARTS"=some (some (.int 60 t_mpa))) (q_mtk:W.nsIn K mainGlobals "MOST_TAKES"=some (some (.int 6 t_mtk)))
  (q_mfi:W.nsIn K mainGlobals "MOST_FIGURES"=some (some (.int 13 t_mfi))) (q_mst2:W.nsIn K mainGlobals "MOST_STEPS_term_texts"=some (some (.int 3 t_mst2))) (q_mwi:W.nsIn K mainGlobals "MOST_WITHIN"=some (some (.int 12 t_mwi)))
  :∃fd:FuncData,(∀(s:Shared) (v:Value),BindsTo s fd ⟨[v],[]⟩ [("_law_script",v)])/\∀base:Heap,K.In base->base.Ns mainGlobals mg->bC l.prog w K mg base CX0 90 fa fd ["_law_script"] (aIx K):=by
 have m:∀{n:Str} {f:Addr},GN K n f->mg n=some (.ref f):=fun h=>W.mg_of X G h
 have mn:∀{n:Str},W.nsIn K mainGlobals n=some none->mg n=none:=fun h=>W.mg_none_of X G h
 have e:=hfa.symm.trans (m a32)
 cases e
 have T:Txt K mg:=⟨mn z_isinstance,mn z_int,mn z_list,mn z_tuple,mn z_len,mn z_range,mn z_max,mn z_sorted,mn z_sum,mn z_set,mn z_bool,mn z_all,mn z_any,mn z_str,mn z_enumerate,⟨_,W.mg_of X G q_gn⟩,⟨_,W.mg_of X G q_gd⟩,⟨_,W.mg_of X G q_gb⟩,⟨_,W.mg_of X G q_gst⟩,⟨_,W.mg_of X G q_mst⟩,⟨_,W.mg_of X G q_mdp⟩,⟨_,W.mg_of X G q_mpa⟩,⟨_,W.mg_of X G q_mtk⟩,⟨_,W.mg_of X G q_mfi⟩,⟨_,W.mg_of X G q_mst2⟩,⟨_,W.mg_of X G q_mwi⟩⟩
 have F0:=F32
 obtain⟨⟨_,_,y1,y2,y3,y4,y5,y6,_,rfl,_⟩,_⟩:=F0
 refine⟨W.fnOf "law" "law" (jF aKx) (gF aKx) (aH aKx) .none y1 y2 y3 y4 y5 y6,fun s v=> .of_eq rfl,fun base _ _=>?_⟩
 have cal:∀{CX:CXT} {k:Nat} {f:Addr} {fd:FuncData} {n x qn:Str} {st:Stmt} {ps:List Str} {sp:Sp},Fun K x qn st f fd->bC l.prog w K mg base CX k f fd ps sp->GN K n f->Binds K fd ps []->Cal l.prog w K mg base CX k n ps sp:=fun F h a b=>⟨_,_,h,m a,F.kp,b⟩
 have GT:bC l.prog w K mg base CX0 1 ft _ ["self","at"] (iC K):=aP5 Ft (mn z_ValueError)
 have bT:=fb2 "self" "at" Ft
 have NG:Ng K mg CG ft:=⟨rG,xG,tG,m aCG⟩
 have NX:Nx K mg CN ft:=⟨rN,xN,tN,m aCN⟩
 have MT:MgB mg CT CG CN:=⟨m aCT,m aCG,m aCN⟩
 let N:Cn:=⟨Cnum,Ctake,Crest,Ccho,fun k=>match k with|0=>Cb0|1=>Cb1|2=>Cb2|3=>Cb3|4=>Cb4⟩
 have nd:(tE N).Nodup:=nd
 have c1:Cf K N.num ["value"]:=kCnum.cf
 have c2:Cf K N.take ["back","steps"]:=kCtake.cf
 have c3:Cf K N.rest ["one","by"]:=kCrest.cf
 have c4:Cf K N.cho ["test","one","other"]:=kCcho.cf
 have c5:∀k,Cf K (N.bin k) ["one","other"]:=fun k=>by
  match k with
  |0=>exact kCb0.cf
  |1=>exact kCb1.cf
  |2=>exact kCb2.cf
  |3=>exact kCb3.cf
  |4=>exact kCb4.cf
 have cR:Cf K CR FR:=kCR.cf
 have nR:aEv N CR:=fun t e=>ndR (e▸List.mem_of_getElem? (aFm N t))
 have cl:∀C,IsC N C->Cls K C:=fun C hC=>by
  rcases hC with rfl|rfl|rfl|rfl|⟨k,rfl⟩
  ·exact c1.cl
  ·exact c2.cl
  ·exact c3.cl
  ·exact c4.cl
  ·exact(c5 k).cl
 have nI:=jR (N:=N) "inner" (by decide+kernel)
 have nK:=jR (N:=N) "takes" (by decide+kernel)
 have nD:=jR (N:=N) "depth" (by decide+kernel)
 have nP:=jR (N:=N) "parts" (by decide+kernel)
 have nF:=jR (N:=N) "own_fault" (by decide+kernel)
 have D_i:Dis l.prog w K mg base CX0 1 (IsC N) "inner" ["self"] (eG N):=aKj nd F33 F44 F46 F49 (fb1 "self" F33) (fb1 "self" F44) (fb1 "self" F46) (fb1 "self" F49) c1 c2 c3 c4 c5 M33 (mth M33 e4) M46 M49 (fun k=>by
  match k with
  |0=>exact M44
  |1=>exact(mth M44 e5)
  |2=>exact(mth M44 e6)
  |3=>exact(mth M44 e7)
  |4=>exact(mth M44 e8))
 have D_t:=aAk (P:=l.prog) (w:=w) (base:=base) nd F34 F41 (fb1 "self" F34) (fb1 "self" F41) cl c2 (fun C hC ne=>by
  rcases hC with rfl|rfl|rfl|rfl|⟨k,rfl⟩
  ·exact M34
  ·exact absurd rfl ne
  ·exact(mth M34 e9)
  ·exact(mth M34 e10)
  ·match k with
   |0=>exact(mth M34 e11)
   |1=>exact(mth M34 e12)
   |2=>exact(mth M34 e13)
   |3=>exact(mth M34 e14)
   |4=>exact(mth M34 e15)) M41 D_i T (fun t fs H h=>⟨nK t fs H h,nI t fs H h⟩) 13
 have D_d:=aAv (P:=l.prog) (w:=w) (base:=base) F35 (fb1 "self" F35) cl (fun C hC=>by
  rcases hC with rfl|rfl|rfl|rfl|⟨k,rfl⟩
  ·exact M35
  ·exact(mth M35 e16)
  ·exact(mth M35 e17)
  ·exact(mth M35 e18)
  ·match k with
   |0=>exact(mth M35 e19)
   |1=>exact(mth M35 e20)
   |2=>exact(mth M35 e21)
   |3=>exact(mth M35 e22)
   |4=>exact(mth M35 e23)) D_i T nI nD 13
 have D_p:=aAx (P:=l.prog) (w:=w) (base:=base) F36 (fb1 "self" F36) cl (fun C hC=>by
  rcases hC with rfl|rfl|rfl|rfl|⟨k,rfl⟩
  ·exact M36
  ·exact(mth M36 e24)
  ·exact(mth M36 e25)
  ·exact(mth M36 e26)
  ·match k with
   |0=>exact(mth M36 e27)
   |1=>exact(mth M36 e28)
   |2=>exact(mth M36 e29)
   |3=>exact(mth M36 e30)
   |4=>exact(mth M36 e31)) D_i T nI nP 13
 have c10:=cal F10 (aLx F10 T) a10 (fb1 "thing" F10)
 have c11:=cal F11 (aJq F11 c10) a11 (fb3 "thing" "least" "most" F11)
 have c12:=cal F12 (aD4 F12 c11 T) a12 (fb1 "thing" F12)
 have D_f:Dis l.prog w K mg base CX0 4 (IsC N) "own_fault" ["self"] (kI N):=aKe nd F37 F39 F42 F47 (fb1 "self" F37) (fb1 "self" F39) (fb1 "self" F42) (fb1 "self" F47) c1 c2 c3 c4 c5 c11 c12 T M39 M42 M47 M37 (fun k=>by
  match k with
  |0=>exact(mth M37 e32)
  |1=>exact(mth M37 e33)
  |2=>exact(mth M37 e34)
  |3=>exact(mth M37 e35)
  |4=>exact(mth M37 e36))
 have c14:=aOu F14 (m a14) F14.kp (fb1 "term" F14) D_i D_f nI nF 13
 have c13:=cal F13 (aKz F13 D_t T (fun t fs H h=>⟨nK t fs H h,nI t fs H h⟩) NG GT bT) a13 (fb1 "term" F13)
 have c15:=cal F15 (aOw F15 c14 c13 D_t D_d D_p T (fun t fs H h=>⟨nK t fs H h,nD t fs H h,nP t fs H h⟩) NG GT bT) a15 (fb1 "term" F15)
 have c19:=cal F19 (aQl F19 T) a19 (fb2 "_law_script" "_law_k" F19)
 have c20:=cal F20 (aPf F20 c19 T) a20 (fb2 "_law_script" "_law_k" F20)
 have c21:=cal F21 (aPk F21) a21 (fb2 "_law_well_here" "_law_most" F21)
 have c22:=cal F22 (aLw F22 c21 T) a22 (fb2 "_law_well_here" "_law_lines" F22)
 have c23:=cal F23 (aP4 F23 c21 c22 T) a23 (fb2 "_law_well_here" "_law_lines" F23)
 have c24:=cal F24 (aK5 F24 c21) a24 (fb1 "_law_well_here" F24)
 have c25:=aDw F25 (m a25) F25.kp (fb3 "_law_well_here" "_law_some" "_law_deep" F25) c21 c24 T 4
 have c26:=aEw (P:=l.prog) (w:=w) (base:=base) F26 (m a26) F26.kp (fb1 "_law_told_here" F26) T 4
 have R5:∀k,Mkr l.prog w K mg base (N.bin k) (bnm k) ["self","one","other"] (aCf K "one" "other"):=fun k=>by
  match k with
  |0=>exact⟨⟨_,_,oF F43,mkO kCb0 M43,m aCb0,(fb3 "self" "one" "other" F43)⟩⟩
  |1=>exact⟨⟨_,_,oF F43,mkO kCb1 (mth M43 e0),m aCb1,(fb3 "self" "one" "other" F43)⟩⟩
  |2=>exact⟨⟨_,_,oF F43,mkO kCb2 (mth M43 e1),m aCb2,(fb3 "self" "one" "other" F43)⟩⟩
  |3=>exact⟨⟨_,_,oF F43,mkO kCb3 (mth M43 e2),m aCb3,(fb3 "self" "one" "other" F43)⟩⟩
  |4=>exact⟨⟨_,_,oF F43,mkO kCb4 (mth M43 e3),m aCb4,(fb3 "self" "one" "other" F43)⟩⟩
 have M:aDv l.prog w K mg base N:=⟨⟨⟨_,_,aMv F38,mkO kCnum M38,m aCnum,(fb2 "self" "value" F38)⟩⟩,⟨⟨_,_,aLh F40,mkO kCtake M40,m aCtake,(fb3 "self" "back" "steps" F40)⟩⟩,⟨⟨_,_,aNy F45,mkO kCrest M45,m aCrest,(fb3 "self" "one" "by" F45)⟩⟩,⟨⟨_,_,aLm F48,mkO kCcho M48,m aCcho,(fb4 "self" "test" "one" "other" F48)⟩⟩,R5,c1,c2,c3,c4,c5⟩
 have Wd:Words K aW:=fun H=> .inr ⟨_,_,_,lWd,rfl,rfl,(by show 7<=sizeLine;decide),.cons ⟨_,rfl⟩ (.cons ⟨_,rfl⟩ (.cons ⟨_,rfl⟩ (.cons ⟨_,rfl⟩ (.cons ⟨_,rfl⟩ (.cons ⟨_,rfl⟩ (.cons ⟨_,rfl⟩ .nil))))))⟩
 have D_ahead:=gC (P:=l.prog) (w:=w) (mg:=mg) (base:=base) cR.cl M52 (fb1 "self" F52) (aLg F52 cR)
 have D_pass:=gC (P:=l.prog) (w:=w) (mg:=mg) (base:=base) cR.cl M53 (fb2 "self" "signs" F53) (aQp F53 cR D_ahead NX GT bT)
 have D_fig:=gC (P:=l.prog) (w:=w) (mg:=mg) (base:=base) cR.cl M54 (fb1 "self" F54) (aT2 F54 D_ahead (W.mg_of X G qF))
 have D_figs:=gC (P:=l.prog) (w:=w) (mg:=mg) (base:=base) cR.cl M55 (fb1 "self" F55) (aQh F55 cR D_ahead D_pass D_fig T NX GT bT)
 have D_num:=gC (P:=l.prog) (w:=w) (mg:=mg) (base:=base) cR.cl M56 (fb1 "self" F56) (aTn F56 cR D_ahead D_pass D_figs NX GT bT)
 have D_rtake:=gC (P:=l.prog) (w:=w) (mg:=mg) (base:=base) cR.cl M57 (fb1 "self" F57) (aNu F57 D_ahead D_pass D_num M.take c2 T)
 have D_word:=gC (P:=l.prog) (w:=w) (mg:=mg) (base:=base) cR.cl M58 (fb1 "self" F58) (aRf F58 cR D_ahead D_pass (m aWd) Wd T NX GT bT)
 have c16:=cal F16 (aJ7 F16 M) a16 (fb3 "word" "one" "other" F16)
 have D_part:=aDe cR nR M T NX GT bT F59 F60 F61 M59 M60 M61 (fb2 "self" "within" F59) (fb4 "self" "one" "word" "within" F60) (fb2 "self" "within" F61) D_ahead D_pass D_figs D_num D_rtake D_word c16 12
 have R_rd:Mkr l.prog w K mg base CR "TermReader" ["self","text"] (aSs K):=⟨⟨_,_,aJa F51,mkO kCR M51,m aCR,(fb2 "self" "text" F51)⟩⟩
 have c17:=cal F17 (aGw F17 R_rd cR nR D_part T NX GT bT) a17 (fb1 "text" F17)
 have c18:=cal F18 (aOd F18 c17 c15) a18 (fb1 "text" F18)
 have nS:NoS N:=jR (N:=N) "shown" (by decide+kernel)
 have nW:NoW N:=jR (N:=N) "shown_with" (by decide+kernel)
 have mW:∀k,Meth K (N.bin k) "shown_with" f50:=fun k=>by
  match k with
  |0=>exact M50
  |1=>exact(mth M50 e37)
  |2=>exact(mth M50 e38)
  |3=>exact(mth M50 e39)
  |4=>exact(mth M50 e40)
 have css:∀C,IsC N C->CS l.prog w K mg base N C:=(fun C hC=>by
  rcases hC with rfl|rfl|rfl|rfl|⟨k,rfl⟩
  ·exact⟨⟨_,_,M62,(fb1 "self" F62),fun d D=>(aJz (d:=d+1) F62 c1 (fun t h=>aIj nd h) T).mono (by omega)⟩⟩
  ·exact⟨⟨_,_,M63,(fb1 "self" F63),fun d D=>(aJ3 (d:=d+1) F63 c2 (fun t h=>vA nd h) T).mono (by omega)⟩⟩
  ·exact⟨⟨_,_,M64,(fb1 "self" F64),fun d D=>(aJ9 F64 c3 (fun t h=>aCa nd h) D nS).mono (by omega)⟩⟩
  ·exact⟨⟨_,_,M65,(fb1 "self" F65),fun d D=>(aIz F65 c4 (fun t h=>aFs nd h) D nS).mono (by omega)⟩⟩
  ·match k with
   |0=>exact⟨⟨_,_,M66,(fb1 "self" F66),fun d D=>aKt F66 (fun t h=>rE nd h) (jM F50 (fb2 "self" "sign" F50) c5 mW nS D) nW⟩⟩
   |1=>exact⟨⟨_,_,M67,(fb1 "self" F67),fun d D=>aJu F67 (fun t h=>rE nd h) (jM F50 (fb2 "self" "sign" F50) c5 mW nS D) nW⟩⟩
   |2=>exact⟨⟨_,_,M68,(fb1 "self" F68),fun d D=>aJ4 F68 (fun t h=>rE nd h) (jM F50 (fb2 "self" "sign" F50) c5 mW nS D) nW⟩⟩
   |3=>exact⟨⟨_,_,M69,(fb1 "self" F69),fun d D=>aJ0 F69 (fun t h=>rE nd h) (jM F50 (fb2 "self" "sign" F50) c5 mW nS D) nW⟩⟩
   |4=>exact⟨⟨_,_,M70,(fb1 "self" F70),fun d D=>aJl F70 (fun t h=>rE nd h) (jM F50 (fb2 "self" "sign" F50) c5 mW nS D) nW⟩⟩)
 have D_s:DSh l.prog w K mg base N 13:=aAy cl css 13
 have c27:=cal F27 (aKv F27) a27 (fb3 "_law_text_here" "_law_at" "_law_signed" F27)
 have c29:=cal F29 (aLi F29) a29 (fb3 "_law_text_here" "_law_at" "_law_heap" F29)
 have c28:=cal F28 (aJ5 F28 c27 c29 T) a28 (fb4 "_law_want" "_law_text_here" "_law_at" "_law_heap" F28)
 have c30:=cal F30 (aGm F30 c28 T) a30 (fb1 "_law_text_here" F30)
 have c31:=cal F31 (aN2 F31 c21 c23 c25 c26 T) a31 (fb1 "_law_well_here" F31)
 exact aTw F32 c20 c31 c30 c18 D_s nS MT zB T
theorem aTv {l:W.OpenLaw} {q:Program} {loose:List Str} {XP:(Str->Option Value)->Heap->Prop} {YP:World->Heap->Prop} {d:DefRec} {K:Params->W.Frag} (hn:l.most=some 63) (hdf:d.params.defaults=[])
  (hY:∀(w:World) (h:Heap),YP w h->(K w.params).In h)
  (F:∀(w:World) (mg:Str->Option Value) (fa:Addr) (h:Heap),(K w.params).In h->h.Ns mainGlobals mg->mg d.name=some (.ref fa)->
   ∃fd:FuncData,(∀(s:Shared) (u:Value),BindsTo s fd ⟨[u],[]⟩ [("_law_script",u)])/\∀base:Heap,(K w.params).In base->base.Ns mainGlobals mg->bC l.prog w (K w.params) mg base CX0 90 fa fd ["_law_script"] (aIx (K w.params))):
  W.WalkO q loose XP YP l.row.toRowW d [] (fun f vs=>PySem.call f vs):=
 L2.aG9 (n:=63) (k:=90) (x:="_law_script") (CX:=fun _=>CX0) (sp:=fun w=>aIx (K w.params)) hn (by decide) hdf ⟨rfl,by decide,by decide⟩ hY F (fun _ _ a ns _ _ hS=>⟨a,ns,rfl,hS,fun _=>rfl⟩) fun _ _ _ _ _ z=>z
end KZ
namespace PySem.W.Fast
def tw9418082534565206464:=()
def tw2031968566661256518:=()
def tw17452679890735135048:=()
def tw8128255298094949071:=()
def tw17786456532151982344:=()
def tw7325793389831846622:=()
def tw1617159198740526975:=()
def tw2570136357846735744:=()
def tw3179621635677628557:=()
def tw9208508115389836442:=()
def tw12296863477360218777:=()
def tw16043114265706205030:=()
def tw7486454789448969865:=()
def tw2257422202967565135:=()
def tw15687426863218038185:=()
def tw9019250552721147168:=()
def tw3867978475479337440:=()
def tw1839000342460820049:=()
def tw4449829327718898545:=()
def tw10966223573947643757:=()
def tw9465492352081066205:=()
def tw14035508396892130845:=()
def tw8208832094855711111:=()
def tw12957831276039421317:=()
def tw15249591960069555411:=()
def tw582436806121269937:=()
def tw7593418722487139268:=()
def tw14834385941645198258:=()
def tw8373399406485600706:=()
def tw14544186166979977881:=()
def tw2294480640352060557:=()
def tw14946651036783219587:=()
def tw17368491824294162213:=()
def tw1657636837104497231:=()
def tw16135322421339288433:=()
def tw17979444642270375081:=()
def tw40829213661871142:=()
def tw13326070168086217642:=()
def tw9321140235085224895:=()
def tw9302276246953486450:=()
def tw802735566322666924:=()
def tw10587088197467536014:=()
def tw17787957292706592755:=()
def tw2387891943288812046:=()
def tw13197181555206891179:=()
def tw12418773901463584604:=()
def tw8011970998025072397:=()
def tw18235350250350136550:=()
def tw9077392491627468744:=()
def tw15256845034527544541:=()
def tw7017584498896808303:=()
def tw7633635883056756081:=()
def tw8748708724008264161:=()
def tw7236898881872235941:=()
def tw15766262560220736146:=()
def tw14503522426263179324:=()
def tw11500024740224246747:=()
def tw12315825283181087369:=()
end PySem.W.Fast
open PySem PySem.W PyProof.Rows
set_option maxRecDepth 100000 in
set_option maxHeartbeats 0 in
theorem PySem.Challenge.cw_slanttiles_k16_whole_any_text_of_a_term_holds : PySem.Challenge.rw_slanttiles_k16_whole_any_text_of_a_term.Holds := by
  w_on; o_law; k_head; (case hw => w_witness2)
  k_fill
  refine KZ.aTv (l := PySem.Challenge.rw_slanttiles_k16_whole_any_text_of_a_term) rfl rfl (fun w h Y => PySem.W.kIn_of Y) ?F
  case F =>
    intro w mg fa h KY G hmg
    refine' KZ.aSz KY G hmg ?aCnum ?aCtake ?aCrest ?aCcho ?aCb0 ?aCb1 ?aCb2 ?aCb3 ?aCb4 ?aCR ?aCG ?aCN ?aCT ?a10 ?F10 ?a11 ?F11 ?a12 ?F12 ?a13 ?F13 ?a14 ?F14 ?a15 ?F15 ?a16 ?F16 ?a17 ?F17 ?a18 ?F18 ?a19 ?F19 ?a20 ?F20 ?a21 ?F21 ?a22 ?F22 ?a23 ?F23 ?a24 ?F24 ?a25 ?F25 ?a26 ?F26 ?a27 ?F27 ?a28 ?F28 ?a29 ?F29 ?a30 ?F30 ?a31 ?F31 ?a32 ?F32 ?atile ?Ft ?M33 ?F33 ?M34 ?F34 ?M35 ?F35 ?M36 ?F36 ?M37 ?F37 ?M38 ?F38 ?M39 ?F39 ?M40 ?F40 ?M41 ?F41 ?M42 ?F42 ?M43 ?F43 ?M44 ?F44 ?M45 ?F45 ?M46 ?F46 ?M47 ?F47 ?M48 ?F48 ?M49 ?F49 ?M50 ?F50 ?M51 ?F51 ?M52 ?F52 ?M53 ?F53 ?M54 ?F54 ?M55 ?F55 ?M56 ?F56 ?M57 ?F57 ?M58 ?F58 ?M59 ?F59 ?M60 ?F60 ?M61 ?F61 ?M62 ?F62 ?M63 ?F63 ?M64 ?F64 ?M65 ?F65 ?M66 ?F66 ?M67 ?F67 ?M68 ?F68 ?M69 ?F69 ?M70 ?F70 ?kCnum ?kCtake ?kCrest ?kCcho ?kCb0 ?kCb1 ?kCb2 ?kCb3 ?kCb4 ?kCR ?e0 ?e1 ?e2 ?e3 ?e4 ?e5 ?e6 ?e7 ?e8 ?e9 ?e10 ?e11 ?e12 ?e13 ?e14 ?e15 ?e16 ?e17 ?e18 ?e19 ?e20 ?e21 ?e22 ?e23 ?e24 ?e25 ?e26 ?e27 ?e28 ?e29 ?e30 ?e31 ?e32 ?e33 ?e34 ?e35 ?e36 ?e37 ?e38 ?e39 ?e40 ?nd ?ndR ?rG ?xG ?tG ?rN ?xN ?tN ?zB ?qF ?aWd ?lWd ?z_isinstance ?z_int ?z_list ?z_tuple ?z_len ?z_range ?z_max ?z_sorted ?z_sum ?z_set ?z_bool ?z_all ?z_any ?z_str ?z_enumerate ?z_ValueError ?q_gn ?q_gd ?q_gb ?q_gst ?q_mst ?q_mdp ?q_mpa ?q_mtk ?q_mfi ?q_mst2 ?q_mwi
    case aCnum | aCtake | aCrest | aCcho | aCb0 | aCb1 | aCb2 | aCb3 | aCb4 | aCR | aCG | aCN | aCT | a10 | a11 | a12 | a13 | a14 | a15 | a16 | a17 | a18 | a19 | a20 | a21 | a22 | a23 | a24 | a25 | a26 | a27 | a28 | a29 | a30 | a31 | a32 | atile | e0 | e1 | e2 | e3 | e4 | e5 | e6 | e7 | e8 | e9 | e10 | e11 | e12 | e13 | e14 | e15 | e16 | e17 | e18 | e19 | e20 | e21 | e22 | e23 | e24 | e25 | e26 | e27 | e28 | e29 | e30 | e31 | e32 | e33 | e34 | e35 | e36 | e37 | e38 | e39 | e40 | aWd => change _ = _; k_is
    case M33 | M34 | M35 | M36 | M37 | M38 | M39 | M40 | M41 | M42 | M43 | M44 | M45 | M46 | M47 | M48 | M49 | M50 | M51 | M52 | M53 | M54 | M55 | M56 | M57 | M58 | M59 | M60 | M61 | M62 | M63 | M64 | M65 | M66 | M67 | M68 | M69 | M70 => exact ⟨by k_is, by k_is, by k_is⟩
    case F10 | F11 | F12 | F13 | F14 | F15 | F16 | F17 | F18 | F19 | F20 | F21 | F22 | F23 | F24 | F25 | F26 | F27 | F28 | F29 | F30 | F31 | F32 | Ft | F33 | F34 | F35 | F36 | F37 | F38 | F39 | F40 | F41 | F42 | F43 | F44 | F45 | F46 | F47 | F48 | F49 | F50 | F51 | F52 | F53 | F54 | F55 | F56 | F57 | F58 | F59 | F60 | F61 | F62 | F63 | F64 | F65 | F66 | F67 | F68 | F69 | F70 => exact L2.aSu (by k_is) (by k_is) (by k_is)
    case kCnum => exact ⟨⟨by k_is, by k_is, by k_is, by k_is⟩, KZ.naS (by k_is) KZ.na0, by k_is, by k_is⟩
    case kCtake | kCrest | kCb0 | kCb1 | kCb2 | kCb3 | kCb4 | kCR => exact ⟨⟨by k_is, by k_is, by k_is, by k_is⟩, KZ.naS (by k_is) (KZ.naS (by k_is) KZ.na0), by k_is, by k_is⟩
    case kCcho => exact ⟨⟨by k_is, by k_is, by k_is, by k_is⟩, KZ.naS (by k_is) (KZ.naS (by k_is) (KZ.naS (by k_is) KZ.na0)), by k_is, by k_is⟩
    case nd | ndR => decide
    case rG | rN => exact ⟨by kernel_rfl, by k_is, by k_is, by k_is⟩
    case xG | xN => exact ⟨by k_is, by kernel_rfl, by k_is, by kts_isx⟩
    case tG | tN | qF | lWd | z_isinstance | z_int | z_list | z_tuple | z_len | z_range | z_max | z_sorted | z_sum | z_set | z_bool | z_all | z_any | z_str | z_enumerate | z_ValueError | q_gn | q_gd | q_gb | q_gst | q_mst | q_mdp | q_mpa | q_mtk | q_mfi | q_mst2 | q_mwi => k_is
    case zB => exact ⟨by kts_exm, by kts_exm, by kts_exm, by kit_is, ⟨by kernel_rfl, by k_is, by k_is, by k_is, by k_is⟩, ⟨by kernel_rfl, by k_is, by k_is, by k_is, by k_is⟩, by k_is, by k_is⟩


