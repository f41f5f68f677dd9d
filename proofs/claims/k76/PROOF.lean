import PyProof.Rows.All
import Wide.All
import OpenK.AllK
import Wide.FinOn
import Lean
import PyProof.EqAt
import PyProof.EqKinds
import PyProof.TupleCall
import PyProof.NeKinds
import PyProof.EnumStmt
import PyProof.EnumMake
import PyProof.EnumFor
import PyProof.ListMulRoad
import PyProof.CompFree
import PyProof.CompMap
import PyProof.Rows.SortWalk
import PyProof.Rows.MinMaxN
import PyProof.Rows.SeqMore2
import PyProof.Rows.SetFrom
import KE.KDictList
import PyProof.SumWalk
import PyProof.WalksMore
import PyProof.TupleIter
import PyProof.ListRange
import KE.KDictSum
import PyProof.AutoListH
import PyProof.FactsAll.list_3
import PyProof.MinMaxWalk
import PyProof.WalkInts
import KE.KMinBuiltin
import PyProof.Rows.CallKwBuiltin
import PyProof.ZipIter
import KE.KItemsList
import PyProof.DictWalks
import PyProof.FactsAll.dict_4
import PyProof.ConsumeWalk
import KE.KRevSl
import KE.KDictOf
import PyProof.Cells
import OpenK.KLine
import PyProof.ExcInit
import PyProof.ExcClass3
import PyProof.StationsW
import PyProof.ExcArgsOwn
import PyProof.InstStoreFacts
import PyProof.RulesTry
import PyProof.RulesAs
import PyProof.ExcFactsAll.ValueError
import PyProof.ExcBaseAll.ValueError
import PyProof.ExcAttrAll.ValueError
import KE.KTryMore
import KE.KIsAll
import PyProof.SetKind
import PyProof.DictFindH
import PyProof.IsRules
import PyProof.TupleKey
import PyProof.CollectIter
import PyProof.FactsAll.set
import PyProof.DictIter
import KE.KSortTup
import PyProof.PureInt
import PyProof.EqAt
import PyProof.FactsAll.list
import PyProof.FactsAll.tuple
import PyProof.Rows.SortShell
import PyProof.Rows.IntRules
import PyProof.Walks
import PySem.Challenge.RW_slanttiles_k76_least_walks
set_option Elab.async false
set_option linter.all false
set_option maxRecDepth 100000
namespace L2
open PySem PySem.Spec PyProof.Rows
abbrev Key:=Sum Int Str
def keyIs:Key->Value->Bool
 | .inl k,v=>Value.isInt k v
 | .inr x,v=>Value.isStrOf x v
def keyH (w:World):Key->Int
 | .inl k=>hashInt k
 | .inr x=>hashStr w x
theorem keyIs_shape:∀{k:Key} {v:Value},keyIs k v=true->(∃i t,k=Sum.inl i/\v=Value.int i t)∨(∃x t,k=Sum.inr x/\v=Value.str x t)
 | .inl i,v,h=>by
  obtain⟨t,e⟩:=Value.isInt_shape (k:=i) (v:=v) h
  exact .inl ⟨i,t,rfl,e⟩
 | .inr x,v,h=>by
  obtain⟨t,e⟩:=Value.isStrOf_shape (x:=x) (v:=v) h
  exact .inr ⟨x,t,rfl,e⟩
theorem keyIs_int (i:Int) (t:Tok):keyIs (.inl i) (.int i t)=true:=by simp [keyIs,Value.isInt]
theorem keyIs_str (x:Str) (t:Tok):keyIs (.inr x) (.str x t)=true:=by simp [keyIs,Value.isStrOf]
theorem key_ll (a b:Int):decide ((Sum.inl a:Key)=Sum.inl b)=(a==b):=by
 by_cases e:a=b
 ·subst e;simp
 ·have h:¬(Sum.inl a:Key)=Sum.inl b:=fun q=>e (Sum.inl.inj q)
  rw [decide_eq_false h]
  exact(beq_eq_false_iff_ne.mpr e).symm
theorem key_rr (a b:Str):decide ((Sum.inr a:Key)=Sum.inr b)=decide (a=b):=by
 by_cases e:a=b
 ·subst e;simp
 ·have h:¬(Sum.inr a:Key)=Sum.inr b:=fun q=>e (Sum.inr.inj q)
  rw [decide_eq_false h,decide_eq_false e]
theorem key_lr (a:Int) (b:Str):decide ((Sum.inl a:Key)=Sum.inr b)=false:=decide_eq_false (fun q=>nomatch q)
theorem key_rl (a:Str) (b:Int):decide ((Sum.inr a:Key)=Sum.inl b)=false:=decide_eq_false (fun q=>nomatch q)
def mixKind (prog:Program) (w:World):PySem.KeyKind prog w Key where
 is:=keyIs
 hash:=keyH w
 inj:=fun v a b ha hb=>by
  rcases keyIs_shape ha with ⟨i,t,rfl,rfl⟩|⟨x,t,rfl,rfl⟩
  ·rcases keyIs_shape hb with ⟨j,u,rfl,e⟩|⟨y,u,rfl,e⟩
   ·injection e with e1 _;rw [e1]
   ·exact nomatch e
  ·rcases keyIs_shape hb with ⟨j,u,rfl,e⟩|⟨y,u,rfl,e⟩
   ·exact nomatch e
   ·injection e with e1 _;rw [e1]
 byValue:=fun k v h=>by
  rcases keyIs_shape h with ⟨i,t,rfl,rfl⟩|⟨x,t,rfl,rfl⟩<;>rfl
 pyHash:=fun hv h=>by
  rcases keyIs_shape hv with ⟨i,t,rfl,rfl⟩|⟨x,t,rfl,rfl⟩
  ·exact wpAny_pyHash_int h
  ·exact wpAny_pyHash_str h
 eqBool:=fun hu hv h=>by
  rcases keyIs_shape hu with ⟨i,t,rfl,rfl⟩|⟨x,t,rfl,rfl⟩
  ·rcases keyIs_shape hv with ⟨j,u,rfl,rfl⟩|⟨y,u,rfl,rfl⟩
   ·rw [key_ll]at h;exact wpAny_eqBool_int h
   ·rw [key_lr]at h;exact SeqAt.EqAt.int_str i t y u _ _ _ _ h
  ·rcases keyIs_shape hv with ⟨j,u,rfl,rfl⟩|⟨y,u,rfl,rfl⟩
   ·rw [key_rl]at h;exact SeqAt.EqAt.str_int x t j u _ _ _ _ h
   ·rw [key_rr]at h;exact wpAny_eqBool_str h
 «strs»:=fun k x t v h=>by
  rcases keyIs_shape h with ⟨i,u,rfl,e⟩|⟨y,u,rfl,e⟩
  ·exact nomatch e
  ·injection e with e1 _
   subst e1
   cases v<;>rfl
theorem mixKind_int (prog:Program) (w:World) (i:Int) (t:Tok):(mixKind prog w).is (.inl i) (.int i t)=true:=keyIs_int i t
theorem mixKind_str (prog:Program) (w:World) (x:Str) (t:Tok):(mixKind prog w).is (.inr x) (.str x t)=true:=keyIs_str x t
end L2
namespace L2
open PySem PySem.Spec PyProof.Rows
inductive V where
 |non|bl (b:Bool)|int (i:Int)|str (x:Str)|byt (b:Array UInt8)|flt (b:UInt64)|ref (a:Addr)|ty (n:String)
 deriving DecidableEq
def RelV:V->Value->Prop
 | .non,u=>u=Value.none
 | .bl b,u=>u=Value.bool b
 | .int i,u=>∃t,u=Value.int i t
 | .str x,u=>∃t,u=Value.str x t
 | .byt b,u=>∃t,u=Value.bytes b t
 | .flt b,u=>∃t,u=Value.float b t
 | .ref a,u=>u=Value.ref a
 | .ty n,u=>u=Value.type n
abbrev Vals:List V->List Value->Prop:=Paired RelV
theorem Vals.length {xs:List V} {us:List Value} (r:Vals xs us):xs.length=us.length:=Paired.length r
theorem Vals.get:∀{xs:List V} {us:List Value} {i:Nat} {x:V},Vals xs us->xs[i]? =some x->∃u,us[i]? =some u/\RelV x u
 |_,_,_,_,.nil,e=>by simp at e
 |_,_,0,_,.cons r _,e=>by simp at e;subst e;exact⟨_,rfl,r⟩
 |_,_,i+1,x,.cons _ t,e=>by
  obtain⟨u,h1,h2⟩:=Vals.get (i:=i) (x:=x) t (by simpa using e)
  exact⟨u,by simpa using h1,h2⟩
theorem Vals.set {x:V} {u:Value} (r:RelV x u):∀{xs:List V} {us:List Value} (i:Nat),Vals xs us->Vals (xs.set i x) (us.set i u)
 |_,_,_,.nil=> .nil
 |_,_,0,.cons _ t=> .cons r t
 |_,_,i+1,.cons q t=> .cons q (Vals.set r i t)
theorem Vals.append:∀{xs ys:List V} {us ws:List Value},Vals xs us->Vals ys ws->Vals (xs++ys) (us++ws)
 |_,_,_,_,.nil,s=>s
 |_,_,_,_,.cons r t,s=> .cons r (Vals.append t s)
theorem Vals.take:∀{xs:List V} {us:List Value} (n:Nat),Vals xs us->Vals (xs.take n) (us.take n)
 |_,_,0,_=> .nil
 |_,_,_+1,.nil=> .nil
 |_,_,n+1,.cons r t=> .cons r (Vals.take n t)
theorem Vals.drop:∀{xs:List V} {us:List Value} (n:Nat),Vals xs us->Vals (xs.drop n) (us.drop n)
 |_,_,0,r=>r
 |_,_,_+1,.nil=> .nil
 |_,_,n+1,.cons _ t=>Vals.drop n t
def RelO:Option V->Option Value->Prop
 |some v,some u=>RelV v u
 |none,none=>True
 |_,_=>False
def KV {κ:Type}:List (κ×V)->List (κ×Value)->Prop:=Paired fun(p:κ×V) (q:κ×Value)=>p.1=q.1/\RelV p.2 q.2
def kV:Key->V
 | .inl i=> .int i
 | .inr x=> .str x
inductive HO where
 |lst (xs:List V)
 |tup (xs:List V)
 |dK (kvs:List (Key×V))|dT (kvs:List (List Key×V))
 |set (S:Int->Bool) (n:Nat)
 |ins (C dx:Addr) (fs:List (Str×V))
 |own (x:Addr)
 |xd (fs:List (Str×V))
 |met (f x:Addr)
 |rng (lo hi:Int)
 |frz (o:Obj) (u:HO)
 |tbl (ps:Array Value)
 |ext (φ:Heap->Prop)
abbrev Hp:=Addr->Option HO
def upd (H:Hp) (a:Addr) (o:HO):Hp:=fun b=>if b=a then some o else H b
theorem upd_same {H:Hp} {a:Addr} {o:HO}:upd H a o a=some o:=by unfold upd;rw [if_pos rfl]
theorem upd_ne {H:Hp} {a b:Addr} {o:HO} (h:b≠a):upd H a o b=H b:=by unfold upd;rw [if_neg h]
theorem ne_of {H:Hp} {a b:Addr} {o u:HO} (h:H a=some o) (h':H b=some u) (d:o≠u):a≠b:=by
 intro e;subst e;rw [h]at h';exact d (Option.some.inj h')
theorem ne_of_none {H:Hp} {a b:Addr} {o:HO} (h:H a=some o) (h':H b=none):a≠b:=by
 intro e;subst e;rw [h]at h';cases h'
section
variable (P:Program) (w:World)
def ObjOk (H:Hp) (h:Heap) (a:Addr):HO->Prop
 | .lst xs=>xs.length<=sizeLine/\∃(its:List Value) (n:Nat),Vals xs its/\h.get? a=some {cls:= .type "list",data:= .seq its.toArray n}
 | .tup xs=>xs.length<=sizeLine/\∃its:List Value,Vals xs its/\IsTup h a its.toArray
 | .dK kvs=>kvs.length<=sizeLine/\(a==sysModules)=false/\∃vs,KV kvs vs/\h.DictOf (mixKind P w) a vs
 | .dT kvs=>kvs.length<=sizeLine/\(a==sysModules)=false/\∃xs:List (List Key×Addr×Value),
   Paired (fun(p:List Key×V) (q:List Key×Addr×Value)=>p.1=q.1/\H q.2.1=some (.tup (p.1.map kV))/\RelV p.2 q.2.2) kvs xs/\
   ∃o es ep,h.get? a=some o/\o.ExactDict/\o.data= .dict es ep/\es.toList=xs.map (entryOfKey (tupleKind (mixKind P w)))/\(xs.map (·.1)).Nodup
 | .set S n=>h.SetOf (intKind P w) a S n
 | .ins C dx fs=>H dx=some (.own a)/\fs.length<=1000/\dx≠a/\h.get? a=some (PySem.W.instObj C dx)/\
   ∃mA,h.Ns1 dx mA/\(∀f,RelO (fs.lookup f) (mA f))/\PySem.Within mA (fs.map (·.1))
 | .own _=>∃o,h.get? a=some o
 | .xd fs=>∃mA,h.Ns1 a mA/\∀f,RelO (fs.lookup f) (mA f)
 | .rng lo hi=>∃t u v,h.get? a=some {cls:= .type "range",data:= .fields #[.int lo t,.int hi u,.int 1 v]}
 | .frz o u=>h.get? a=some o/\ObjOk H h a u
 | .tbl ps=>h.get? a=some {cls:= .none,data:= .fields ps}
 | .met f x=>h.get? a=some (PySem.W.methodObj (.ref f) (.ref x))
 | .ext φ=>φ h/\(∃o,h.get? a=some o)/\∀h1 h2:Heap,φ h1->(∀o,h1.get? a=some o->h2.get? a=some o)->φ h2
def HOk (H:Hp) (h:Heap):Prop:=∀a o,H a=some o->ObjOk P w H h a o
end
section
variable {P:Program} {w:World} {H H':Hp} {h h':Heap} {a:Addr} {o:HO}
theorem ObjOk.lt (x:ObjOk P w H h a o):a<h.objs.size:=by
 cases o with
 |lst xs=>obtain⟨_,_,_,_,e⟩:=x;exact Heap.lt_size e
 |tup xs=>obtain⟨_,_,_,p⟩:=x;exact p.lt
 |dK kvs=>obtain⟨_,_,_,_,o,_,_,e,_⟩:=x;exact Heap.lt_size e
 |dT kvs=>obtain⟨_,_,_,_,o,_,_,e,_⟩:=x;exact Heap.lt_size e
 |set S n=>obtain⟨o,_,_,_,e,_⟩:=x;exact Heap.lt_size e
 |ins C dx fs=>obtain⟨_,_,_,e,_⟩:=x;exact Heap.lt_size e
 |own y=>obtain⟨_,e⟩:=x;exact Heap.lt_size e
 |xd fs=>obtain⟨_,⟨_,_,_,e,_⟩,_⟩:=x;exact Heap.lt_size e
 |rng lo hi=>obtain⟨_,_,_,e⟩:=x;exact Heap.lt_size e
 |frz ob u=>obtain⟨e,_⟩:=x;exact Heap.lt_size e
 |tbl ps=>exact Heap.lt_size (show h.get? a=some _ from x)
 |met f y=>exact Heap.lt_size (show h.get? a=some _ from x)
 |ext φ=>obtain⟨_,⟨_,e⟩,_⟩:=x;exact Heap.lt_size e
theorem Paired.mapP {α β:Type} {F G:α->β->Prop}:∀{l₁:List α} {l₂:List β},Paired F l₁ l₂->(∀a b,F a b->G a b)->Paired G l₁ l₂
 |_,_,.nil,_=> .nil
 |_,_,.cons r t,f=> .cons (f _ _ r) (Paired.mapP t f)
theorem ObjOk.stay (x:ObjOk P w H h a o) (k:∀b u,(b=a∨H b=some (.own a))->h.get? b=some u->h'.get? b=some u)
  (ho:∀b,H b=some (.own a)->H' b=some (.own a)) (ht:∀b xs,H b=some (.tup xs)->H' b=some (.tup xs)):ObjOk P w H' h' a o:=by
 induction o with
 |lst xs=>obtain⟨z,its,n,r,e⟩:=x;exact⟨z,its,n,r,k _ _ (.inl rfl) e⟩
 |tup xs=>obtain⟨z,its,r,ob,e,c⟩:=x;exact⟨z,its,r,ob,k _ _ (.inl rfl) e,c⟩
 |dK kvs=>obtain⟨z,y,vs,r,ob,es,ep,e,c⟩:=x;exact⟨z,y,vs,r,ob,es,ep,k _ _ (.inl rfl) e,c⟩
 |dT kvs=>
  obtain⟨z,y,xs,r,ob,es,ep,e,c⟩:=x
  exact⟨z,y,xs,Paired.mapP r fun p q z=>⟨z.1,ht _ _ z.2.1,z.2.2⟩,ob,es,ep,k _ _ (.inl rfl) e,c⟩
 |set S n=>obtain⟨ob,es,ep,t,e,c⟩:=x;exact⟨ob,es,ep,t,k _ _ (.inl rfl) e,c⟩
 |ins C dx fs=>
  obtain⟨d,z,ne,e,mA,⟨od,es,ep,e2,c⟩,r⟩:=x
  exact⟨ho _ d,z,ne,k _ _ (.inl rfl) e,mA,⟨od,es,ep,k _ _ (.inr d) e2,c⟩,r⟩
 |own y=>obtain⟨ob,e⟩:=x;exact⟨ob,k _ _ (.inl rfl) e⟩
 |xd fs=>obtain⟨mA,⟨od,es,ep,e,c⟩,r⟩:=x;exact⟨mA,⟨od,es,ep,k _ _ (.inl rfl) e,c⟩,r⟩
 |rng lo hi=>obtain⟨t,u,v,e⟩:=x;exact⟨t,u,v,k _ _ (.inl rfl) e⟩
 |frz ob u ih=>obtain⟨e,q⟩:=x;exact⟨k _ _ (.inl rfl) e,ih q⟩
 |tbl ps=>
  have e:h.get? a=some {cls:= .none,data:= .fields ps}:=x
  show h'.get? a=some {cls:= .none,data:= .fields ps}
  exact k a _ (.inl rfl) e
 |met f y=>
  have e:h.get? a=some (PySem.W.methodObj (.ref f) (.ref y)):=x
  show h'.get? a=some (PySem.W.methodObj (.ref f) (.ref y))
  exact k a _ (.inl rfl) e
 |ext φ=>obtain⟨p,⟨o,e⟩,st⟩:=x;exact⟨st _ _ p fun o q=>k _ _ (.inl rfl) q,⟨o,k _ _ (.inl rfl) e⟩,st⟩
theorem HOk.lt (x:HOk P w H h) (e:H a=some o):a<h.objs.size:=(x a o e).lt
theorem HOk.fresh (x:HOk P w H h) (e:h.objs.size<=a):H a=none:=by
 cases q:H a with
 |none=>rfl
 |some u=>exact absurd (Nat.lt_of_lt_of_le (x.lt q) e) (Nat.lt_irrefl _)
theorem HOk.kept (x:HOk P w H h) (k:∀b u,h.get? b=some u->h'.get? b=some u):HOk P w H h':=fun a o e=>
 (x a o e).stay (fun b u _ q=>k b u q) (fun _ q=>q) fun _ _ q=>q
theorem HOk.laid (x:HOk P w H h) (k:∀b u,h.get? b=some u->h'.get? b=some u) (hp:h.objs.size<=a) (new:ObjOk P w (upd H a o) h' a o):HOk P w (upd H a o) h':=fun b u e=>by
 have hn:=x.fresh hp
 by_cases hb:b=a
 ·subst hb;rw [upd_same]at e;cases e;exact new
 ·rw [upd_ne hb]at e
  exact(x b u e).stay (fun c v _ q=>k c v q) (fun c q=>by rw [upd_ne (ne_of_none q hn)];exact q) fun c xs q=>by rw [upd_ne (ne_of_none q hn)];exact q
end
def Rd (H:Hp) (a:Addr) (u:HO):Prop:=H a=some u∨∃o,H a=some (.frz o u)
theorem Rd.ok {P:Program} {w:World} {H:Hp} {h:Heap} {a:Addr} {u:HO} (r:Rd H a u) (x:HOk P w H h):ObjOk P w H h a u:=by
 rcases r with r|⟨o,r⟩
 ·exact x a u r
 ·obtain⟨_,q⟩:=x a _ r
  exact q
def Mut:Option HO->Prop
 |some (.lst _)=>True
 |some (.dK _)=>True
 |some (.dT _)=>True
 |some (.set _ _)=>True
 |some (.ins _ _ _)=>True
 |some (.ext _)=>True
 |_=>False
section
variable {P:Program} {w:World} {H:Hp} {h h':Heap} {x e:Addr} {o':HO}
theorem HOk.write (ok:HOk P w H h) (mu:Mut (H x)) (he:e=x∨H e=some (.own x)) (k:∀b u,b≠e->h.get? b=some u->h'.get? b=some u) (heo:∃u,h'.get? e=some u)
  (new:ObjOk P w (upd H x o') h' x o'):HOk P w (upd H x o') h':=fun b u q=>by
 have nown:∀c y,H c=some (.own y)->c≠x:=fun c y r z=>by subst z;rw [r]at mu;exact mu
 have ntup:∀c xs,H c=some (.tup xs)->c≠x:=fun c xs r z=>by subst z;rw [r]at mu;exact mu
 by_cases hb:b=x
 ·subst hb;rw [upd_same]at q;cases q;exact new
 ·rw [upd_ne hb]at q
  by_cases hbe:b=e
  ·have q':H b=some (.own x):=by
    rcases he with z|z
    ·exact absurd (hbe.trans z) hb
    ·rw [hbe];exact z
   rw [q]at q';cases q'
   obtain⟨v,hv⟩:=heo
   exact⟨v,by rw [hbe];exact hv⟩
  ·refine(ok b u q).stay (fun c v hc r=>k c v ?_ r) (fun c r=>by rw [upd_ne (nown c b r)];exact r) fun c xs r=>by rw [upd_ne (ntup c xs r)];exact r
   rcases hc with rfl|hc
   ·exact hbe
   ·rintro rfl
    rcases he with z|z
    ·exact nown c b hc z
    ·rw [hc]at z;cases z;exact hb rfl
end
structure Un (fs ex:List Addr) (H H':Hp) (h h':Heap):Prop where
 keep:∀b o,h.get? b=some o->H b=none->b∉fs->b∉ex->h'.get? b=some o
 slot:∀b o,h.get? b=some o->H b=none->b∈fs->b∉ex->∃sl,h'.get? b=some {o with slots:=sl}
 free:∀b o,h.get? b=some o->H b=none->b∉ex->H' b=none
 there:∀b o,h.get? b=some o->b∉ex->∃o',h'.get? b=some o'
 tups:∀b xs,H b=some (.tup xs)->H' b=some (.tup xs)
 frzs:∀b o u,H b=some (.frz o u)->H' b=some (.frz o u)
 tbls:∀b ps,H b=some (.tbl ps)->∃more,H' b=some (.tbl (ps++more))
section
variable {fs fs' ex ex':List Addr} {H H1 H2:Hp} {h h1 h2 h':Heap} {a x e:Addr} {o:HO}
theorem Un.any (u:Un fs ex H H1 h h1) {b:Addr} {ob:Obj} (q:h.get? b=some ob) (n:H b=none) (hx:b∉ex):∃sl,h1.get? b=some {ob with slots:=sl}:=by
 by_cases hb:b∈fs
 ·exact u.slot b ob q n hb hx
 ·exact⟨ob.slots,u.keep b ob q n hb hx⟩
theorem Un.kept (k:∀b u,h.get? b=some u->h'.get? b=some u):Un fs ex H H h h':=
 ⟨fun b ob q _ _ _=>k b ob q,fun b ob q _ _ _=>⟨ob.slots,k b ob q⟩,fun _ _ _ n _=>n,fun b ob q _=>⟨ob,k b ob q⟩,fun _ _ q=>q,fun _ _ _ q=>q,fun _ ps q=>⟨#[],by rw [q];simp⟩⟩
theorem Un.refl:Un fs ex H H h h:=Un.kept fun _ _ q=>q
theorem Un.laid (k:∀b u,h.get? b=some u->h'.get? b=some u) (hp:h.objs.size<=a) (hn:H a=none):Un fs ex H (upd H a o) h h' where
 keep:=fun b u q _ _ _=>k b u q
 slot:=fun b u q _ _ _=>⟨u.slots,k b u q⟩
 free:=fun b u q n _=>by rw [upd_ne (Nat.ne_of_lt (Nat.lt_of_lt_of_le (Heap.lt_size q) hp))];exact n
 there:=fun b u q _=>⟨u,k b u q⟩
 tups:=fun b xs q=>by rw [upd_ne (ne_of_none q hn)];exact q
 frzs:=fun b u xs q=>by rw [upd_ne (ne_of_none q hn)];exact q
 tbls:=fun b ps q=>⟨#[],by rw [upd_ne (ne_of_none q hn),q];simp⟩
theorem Un.write (mu:Mut (H x)) (he:e=x∨H e=some (.own x)) (k:∀b u,b≠e->h.get? b=some u->h'.get? b=some u) (heo:∃u,h'.get? e=some u):Un fs ex H (upd H x o) h h':=by
 have hx:∀b,H b=none->b≠x:=fun b n z=>by subst z;rw [n]at mu;exact mu
 have hb:∀b,H b=none->b≠e:=fun b n z=>by
  subst z
  rcases he with r|r
  ·exact hx b n r
  ·rw [n]at r;cases r
 have hm:∀b u,H b=some u->¬Mut (some u)->b≠x:=fun b u q nm z=>by subst z;rw [q]at mu;exact nm mu
 refine⟨fun b u q n _ _=>k b u (hb b n) q,fun b u q n _ _=>⟨u.slots,k b u (hb b n) q⟩,fun b u q n _=>by rw [upd_ne (hx b n)];exact n,fun b u q _=>?_,
  fun b xs q=>by rw [upd_ne (hm b _ q fun z=>z)];exact q,fun b u xs q=>by rw [upd_ne (hm b _ q fun z=>z)];exact q,fun b ps q=>⟨#[],by rw [upd_ne (hm b _ q fun z=>z),q];simp⟩⟩
 by_cases hbe:b=e
 ·subst hbe;exact heo
 ·exact⟨u,k b u hbe q⟩
end
def trk (h:Heap) (H:Hp):List Addr:=(List.range h.objs.size).filter fun a=>(H a).isSome
def hidT (h:Heap) (H:Hp):Heap:=PySem.W.hideAll h (trk h H)
theorem hidT_size (h:Heap) (H:Hp):(hidT h H).objs.size=h.objs.size:=PySem.W.hideAll_size _ _
theorem hidT_get {h:Heap} {H:Hp} {b:Addr} {o:Obj} (e:h.get? b=some o) (n:H b=none):(hidT h H).get? b=some o:=
 PySem.W.hideAll_get _ e fun hm=>by
  have q:(H b).isSome=true:=(List.mem_filter.mp hm).2
  rw [n]at q;simp at q
theorem of_hidT {h:Heap} {H:Hp} {b:Addr} {o:Obj} (e:(hidT h H).get? b=some o):h.get? b=some o/\H b=none:=by
 have e':h.get? b=some o:=PySem.W.of_hideAll (trk h H) e
 refine⟨e',?_⟩
 cases q:H b with
 |none=>rfl
 |some x=>
  have hm:b∈trk h H:=List.mem_filter.mpr ⟨List.mem_range.mpr (Heap.lt_size e'),by simp [q]⟩
  have z:(hidT h H).get? b=none:=PySem.W.hideAll_none (trk h H) hm
  rw [z]at e;cases e
end L2
namespace L2
open PySem PySem.Spec PyProof.Rows
structure Mod (K:PySem.W.Frag) (mg:Str->Option Value) (base:Heap):Prop where
 kin:K.In base
 glob:base.Ns mainGlobals mg
 blt:∃mb,base.Ns builtinsNs mb/\∀x:Str,x≠"__name__"->mb x=bootBuiltins x
 nolimit:base.NoLimit
structure Cx where
 prog:Program
 w:World
 K:PySem.W.Frag
 mg:Str->Option Value
 base:Heap
 A:Around
 N:List Str
 s₀:Shared
 H₀:Hp
 env:Env
 outer:List Env
 stack:List Env
 ex:List Addr
 fn:Str->Bool
 calm:Bool
 pn:List (Addr×Obj)
 xe:Value->Shared->Prop
def frs (l:List Env):List Addr:=l.filterMap (·.frame)
abbrev Cx.fs (X:Cx):List Addr:=frs X.outer
def Vis (sc:Scope) (x:Str):Prop:=sc.names.lookup x=some .local∨sc.names.lookup x=some .cell∨sc.names.lookup x=some .free
def Loc (sc:Scope) (x:Str):Prop:=sc.names.lookup x=some .local∨sc.names.lookup x=some .cell
def Look (env:Env) (h:Heap) (m:Str->Option Value) (x:Str) (u:Value):Prop:=
 (env.kindOf x=some .local/\m x=some u)∨((env.kindOf x=some .cell∨env.kindOf x=some .free)/\∃c,env.cells.lookup x=some c/\h.IsCell c (some u))
structure Cx.Ok (X:Cx):Prop where
 mod:Mod X.K X.mg X.base
 kind:X.env.scope.kind= .function
 glob:X.env.globals=mainGlobals
 blt:X.env.builtins=builtinsNs
 above:X.s₀.heap.objs.size<=X.env.locals
 inj:∀x y c,X.env.cells.lookup x=some c->X.env.cells.lookup y=some c->x=y
 has:∀x,(X.env.kindOf x=some .cell∨X.env.kindOf x=some .free)->∃c,X.env.cells.lookup x=some c
 cab:∀x c,X.fn x=true->X.env.cells.lookup x=some c->X.s₀.heap.objs.size<=c
 hd:X.calm=true->X.A.handled=none
 frames:X.A.frames=some X.stack
 stk:X.stack=X.outer∨(X.stack=X.env::X.outer/\X.env.frame=some X.env.locals)
 exf:∀b∈X.ex,b≠X.env.locals/\∀x c,X.env.cells.lookup x=some c->c≠b
 bs:∀b o,X.base.get? b=some o->X.s₀.heap.get? b=some o/\X.H₀ b=none
 bsz:X.base.objs.size<=X.s₀.heap.objs.size
 noex:∀b o,X.base.get? b=some o->b∉X.ex
 exfs:∀b∈X.ex,b∉X.fs
 funs:X.s₀.heap.FunFrames X.base X.outer
 frf:∀b∈X.fs,X.H₀ b=none
structure Inv (X:Cx) (pins:List (Addr×Obj)) (σ:List (Option V)) (H:Hp) (s:Shared):Prop where
 ok:X.Ok
 os:s.os=X.s₀.os
 bare:AllBare s.gens
 base:Un X.fs X.ex X.H₀ H X.s₀.heap s.heap
 loc:∃m,s.heap.Ns X.env.locals m/\∀(i:Nat) (x:Str) (v:V),X.N[i]? =some x->σ[i]? =some (some v)->Vis X.env.scope x->∃u,RelV v u/\Look X.env s.heap m x u
 cell:∀x c,X.env.cells.lookup x=some c->∃v,s.heap.IsCell c v
 free:H X.env.locals=none
 freeC:∀x c,X.env.cells.lookup x=some c->H c=none
 pin:∀p∈X.pn++pins,s.heap.get? p.1=some p.2/\H p.1=none/\p.1≠X.env.locals/\p.1∉X.fs/\∀v,p.2.data≠ .cell v
 hok:HOk X.prog X.w H s.heap
 len:σ.length=X.N.length
section
variable {X:Cx} {pins:List (Addr×Obj)} {σ:List (Option V)} {H H':Hp} {s:Shared} {h':Heap}
theorem Cx.Ok.nofr (ok:X.Ok) {b:Addr} {o:Obj} (e:X.base.get? b=some o):b∉X.fs:=fun hb=>by
 have:=(ok.funs.mem hb).1
 rw [e]at this;cases this
theorem Inv.bs (I:Inv X pins σ H s):∀b o,X.base.get? b=some o->s.heap.get? b=some o/\H b=none:=fun b o e=>
 ⟨I.base.keep b o (I.ok.bs b o e).1 (I.ok.bs b o e).2 (I.ok.nofr e) (I.ok.noex b o e),I.base.free b o (I.ok.bs b o e).1 (I.ok.bs b o e).2 (I.ok.noex b o e)⟩
theorem Inv.bk (I:Inv X pins σ H s):∀b o,X.base.get? b=some o->s.heap.get? b=some o:=fun b o e=>(I.bs b o e).1
theorem Inv.mod (I:Inv X pins σ H s):Mod X.K X.mg X.base:=I.ok.mod
theorem Inv.kIn (I:Inv X pins σ H s):X.K.In s.heap:=I.ok.mod.kin.keeps I.bk
theorem Inv.lt (I:Inv X pins σ H s):X.env.locals<s.heap.objs.size:=let⟨_,hn,_⟩:=I.loc;hn.lt
theorem Inv.sz (I:Inv X pins σ H s):X.s₀.heap.objs.size<=s.heap.objs.size:=Nat.le_trans I.ok.above (Nat.le_of_lt I.lt)
theorem Inv.nofs (I:Inv X pins σ H s) {a:Addr} (h:s.heap.objs.size<=a):a∉X.fs:=fun hb=>by
 obtain⟨_,o,ho,_⟩:=I.ok.funs.mem hb
 exact absurd (Nat.lt_of_lt_of_le (Heap.lt_size ho) (Nat.le_trans I.sz h)) (Nat.lt_irrefl _)
theorem Inv.cne (I:Inv X pins σ H s):∀x c,X.env.cells.lookup x=some c->c≠X.env.locals:=fun x c e z=>by
 obtain⟨v,o,ho,hd⟩:=I.cell x c e
 obtain⟨m,⟨o',es,ep,ho',hd',_⟩,_⟩:=I.loc
 rw [z,ho']at ho;cases ho;rw [hd']at hd;cases hd
theorem Inv.funs (I:Inv X pins σ H s):s.heap.FunFrames X.base X.outer:=by
 have all:∀(l:List Env),(∀b∈frs l,b∈X.fs)->X.s₀.heap.FunFrames X.base l->s.heap.FunFrames X.base l:=by
  intro l
  induction l with
  |nil=>intro _ _;trivial
  |cons env r ih=>
   intro hs hl
   obtain⟨hk,⟨L,o,hf,hn,ho,hd⟩,hr⟩:=hl
   have hL:L∈X.fs:=hs L (by unfold frs;rw [List.filterMap_cons,hf];exact List.mem_cons_self)
   obtain⟨sl,e⟩:=I.base.slot L o ho (I.ok.frf L hL) hL fun z=>I.ok.exfs L z hL
   exact⟨hk,⟨L,_,hf,hn,e,hd⟩,ih (fun b hb=>hs b (by unfold frs;rw [List.filterMap_cons,hf];exact List.mem_cons_of_mem _ hb)) hr⟩
 exact all X.outer (fun _ hb=>hb) I.ok.funs
theorem Inv.stack (I:Inv X pins σ H s):s.heap.FunFrames X.base X.stack:=by
 rcases I.ok.stk with e|⟨e,hf⟩
 ·rw [e];exact I.funs
 ·rw [e]
  obtain⟨m,hn,_⟩:=I.loc
  refine .cons (by rw [I.ok.kind];decide) hf hn ?_ I.funs
  exact Heap.get?_none_of_le (Nat.le_trans I.ok.bsz I.ok.above)
theorem Inv.stkSub (I:Inv X pins σ H s):∀b∈frs X.stack,b∈X.env.locals::X.fs:=fun b hb=>by
 rcases I.ok.stk with e|⟨e,hf⟩
 ·rw [e]at hb;exact List.mem_cons_of_mem _ hb
 ·rw [e]at hb
  unfold frs at hb
  rw [List.filterMap_cons,hf]at hb
  exact hb
theorem Inv.stkFree (I:Inv X pins σ H s):∀b∈frs X.stack,H b=none:=fun b hb=>by
 rcases List.mem_cons.mp (I.stkSub b hb)with e|hb
 ·rw [e];exact I.free
 ·obtain⟨_,o,ho,_⟩:=I.ok.funs.mem hb
  exact I.base.free b o ho (I.ok.frf b hb) fun z=>I.ok.exfs b z hb
theorem Inv.step {g':Array GenState} {t':Nat} {d':Drawn} {ch:List Addr} (I:Inv X pins σ H s)
  (hch:∀b∈ch,(b∈X.ex∨X.s₀.heap.objs.size<=b)/\b≠X.env.locals/\(∀x c,X.env.cells.lookup x=some c->c≠b)/\∀p∈X.pn++pins,p.1≠b)
  (keep:∀b o,b≠X.env.locals->b∉X.fs->b∉ch->s.heap.get? b=some o->H b=none->h'.get? b=some o)
  (slot:∀b o,b≠X.env.locals->b∈X.fs->b∉ch->s.heap.get? b=some o->H b=none->∃sl,h'.get? b=some {o with slots:=sl}) (free:∀b o,b∉ch->s.heap.get? b=some o->H b=none->H' b=none)
  (there:∀b o,b∉ch->s.heap.get? b=some o->∃o',h'.get? b=some o')
  (tups:∀b xs,H b=some (.tup xs)->H' b=some (.tup xs)) (frzs:∀b o u,H b=some (.frz o u)->H' b=some (.frz o u)) (tbls:∀b ps,H b=some (.tbl ps)->∃more,H' b=some (.tbl (ps++more)))
  (ns:∀m,s.heap.Ns X.env.locals m->h'.Ns X.env.locals m) (hok:HOk X.prog X.w H' h') (hg:AllBare g'):
  Inv X pins σ H' {s with heap:=h',gens:=g',drawn:=d',toks:=t'}:=by
 have neL:∀b o,X.s₀.heap.get? b=some o->b≠X.env.locals:=fun b o e=>Nat.ne_of_lt (Nat.lt_of_lt_of_le (Heap.lt_size e) I.ok.above)
 have neC:∀b o,X.s₀.heap.get? b=some o->b∉X.ex->b∉ch:=fun b o e hx hb=>by
  rcases (hch b hb).1 with z|z
  ·exact hx z
  ·exact absurd (Nat.lt_of_lt_of_le (Heap.lt_size e) z) (Nat.lt_irrefl _)
 have cellK:∀x c,X.env.cells.lookup x=some c->∀v,s.heap.IsCell c v->h'.IsCell c v:=fun x c e v ⟨o,ho,hd⟩=>by
  have nch:c∉ch:=fun z=>(hch c z).2.2.1 x c e rfl
  by_cases hc:c∈X.fs
  ·obtain⟨sl,q⟩:=slot c o (I.cne x c e) hc nch ho (I.freeC x c e)
   exact⟨_,q,hd⟩
  ·exact⟨o,keep c o (I.cne x c e) hc nch ho (I.freeC x c e),hd⟩
 refine⟨I.ok,I.os,hg,⟨fun b o e n hb hx=>?_,fun b o e n hb hx=>?_,fun b o e n hx=>?_,fun b o e hx=>?_,fun b xs e=>tups b xs (I.base.tups b xs e),fun b o xs e=>frzs b o xs (I.base.frzs b o xs e),fun b ps e=>?_⟩,?_,fun x c e=>?_,?_,fun x c e=>?_,fun p hp=>?_,hok,I.len⟩
 ·exact keep b o (neL b o e) hb (neC b o e hx) (I.base.keep b o e n hb hx) (I.base.free b o e n hx)
 ·obtain⟨sl,e1⟩:=I.base.slot b o e n hb hx
  obtain⟨sl',e2⟩:=slot b _ (neL b o e) hb (neC b o e hx) e1 (I.base.free b o e n hx)
  exact⟨sl',e2⟩
 ·obtain⟨o',e1⟩:=I.base.there b o e hx
  exact free b o' (neC b o e hx) e1 (I.base.free b o e n hx)
 ·obtain⟨o',e1⟩:=I.base.there b o e hx
  exact there b o' (neC b o e hx) e1
 ·obtain⟨m1,e1⟩:=I.base.tbls b ps e
  obtain⟨m2,e2⟩:=tbls b _ e1
  exact⟨m1++m2,by rw [e2,Array.append_assoc]⟩
 ·obtain⟨m,hn,hl⟩:=I.loc
  refine⟨m,ns m hn,fun i x v e1 e2 e3=>?_⟩
  obtain⟨u,r,l⟩:=hl i x v e1 e2 e3
  refine⟨u,r,?_⟩
  rcases l with l|⟨k,c,e,z⟩
  ·exact .inl l
  ·exact .inr ⟨k,c,e,cellK x c e _ z⟩
 ·obtain⟨v,z⟩:=I.cell x c e
  exact⟨v,cellK x c e v z⟩
 ·obtain⟨m,⟨o,_,_,ho,_⟩,_⟩:=I.loc
  exact free _ o (fun z=>(hch _ z).2.1 rfl) ho I.free
 ·obtain⟨v,o,ho,hd⟩:=I.cell x c e
  exact free c o (fun z=>(hch c z).2.2.1 x c e rfl) ho (I.freeC x c e)
 ·obtain⟨e,n,ne,nf,d⟩:=I.pin p hp
  have nch:p.1∉ch:=fun z=>(hch p.1 z).2.2.2 p hp rfl
  exact⟨keep p.1 p.2 ne nf nch e n,free p.1 p.2 nch e n,ne,nf,d⟩
theorem Inv.un {t':Nat} (I:Inv X pins σ H s) (u:Un X.fs [] H H' s.heap h') (hok:HOk X.prog X.w H' h'):Inv X pins σ H' {s with heap:=h',toks:=t'}:=by
 obtain⟨m,⟨o,es,ep,ho,r⟩,_⟩:=id I.loc
 obtain⟨sl,hL⟩:=u.any ho I.free (by simp)
 exact I.step (g':=s.gens) (d':=s.drawn) (ch:=[]) (fun _ z=>nomatch z) (fun b o _ hb _ e n=>u.keep b o e n hb (by simp)) (fun b o _ hb _ e n=>u.slot b o e n hb (by simp)) (fun b o _ e n=>u.free b o e n (by simp)) (fun b o _ e=>u.there b o e (by simp)) u.tups u.frzs u.tbls (fun m' hm=>by
  obtain⟨o',es',ep',ho',r'⟩:=hm
  rw [ho]at ho';cases ho'
  exact⟨_,es',ep',hL,r'⟩) hok I.bare
theorem Inv.call {g':Array GenState} {t':Nat} {d':Drawn} {ch:List Addr} (I:Inv X pins σ H s) (u:Un (frs X.stack) ch H H' s.heap h') (hok:HOk X.prog X.w H' h') (hg:AllBare g')
  (hch:∀b∈ch,(b∈X.ex∨X.s₀.heap.objs.size<=b)/\b≠X.env.locals/\(∀x c,X.env.cells.lookup x=some c->c≠b)/\∀p∈X.pn++pins,p.1≠b):
  Inv X pins σ H' {s with heap:=h',gens:=g',drawn:=d',toks:=t'}:=by
 obtain⟨m,⟨o,es,ep,ho,r⟩,_⟩:=id I.loc
 obtain⟨sl,hL⟩:=u.any ho I.free fun z=>(hch _ z).2.1 rfl
 exact I.step (ch:=ch) hch (fun b o hL hb hc e n=>u.keep b o e n (fun z=>(List.mem_cons.mp (I.stkSub b z)).elim hL hb) hc) (fun b o _ _ hc e n=>u.any e n hc) (fun b o hc e n=>u.free b o e n hc) (fun b o hc e=>u.there b o e hc) u.tups u.frzs u.tbls (fun m' hm=>by
  obtain⟨o',es',ep',ho',r'⟩:=hm
  rw [ho]at ho';cases ho'
  exact⟨_,es',ep',hL,r'⟩) hok hg
theorem Inv.turned {t':Nat} {it:Addr} (I:Inv X pins σ H s) (k:∀b o,b≠it->s.heap.get? b=some o->h'.get? b=some o) (hn:H it=none) (hL:it≠X.env.locals)
  (h1:it∈X.ex∨X.s₀.heap.objs.size<=it) (h2:∀x c,X.env.cells.lookup x=some c->c≠it) (h3:∀p∈X.pn++pins,p.1≠it):Inv X pins σ H {s with heap:=h',toks:=t'}:=by
 have nit:∀b u,H b=some u->b≠it:=fun b u e z=>by rw [z,hn]at e;cases e
 refine I.step (g':=s.gens) (d':=s.drawn) (ch:=[it]) (fun b hb=>?_) (fun b o _ _ hc e _=>k b o (fun z=>hc (by simp [z])) e) (fun b o _ _ hc e _=>⟨o.slots,k b o (fun z=>hc (by simp [z])) e⟩) (fun _ _ _ _ n=>n)
  (fun b o hc e=>⟨o,k b o (fun z=>hc (by simp [z])) e⟩) (fun _ _ e=>e) (fun _ _ _ e=>e) (fun b ps e=>⟨#[],by rw [e];simp⟩) (fun m hm=>?_) (fun b u e=>?_) I.bare
 ·have e:b=it:=by simpa using hb
  subst e
  exact⟨h1,hL,h2,h3⟩
 ·obtain⟨o,es,ep,ho,r⟩:=hm
  exact⟨o,es,ep,k _ o (Ne.symm hL) ho,r⟩
 ·refine(I.hok b u e).stay (fun c v hc q=>k c v ?_ q) (fun _ q=>q) fun _ _ q=>q
  rcases hc with z|z
  ·rw [z];exact nit b u e
  ·exact nit c _ z
theorem Inv.tok (I:Inv X pins σ H s) (t:Nat):Inv X pins σ H {s with toks:=t}:=I.un (h':=s.heap) (t':=t) Un.refl I.hok
theorem Inv.kept {t':Nat} (I:Inv X pins σ H s) (k:∀b u,s.heap.get? b=some u->h'.get? b=some u):Inv X pins σ H {s with heap:=h',toks:=t'}:=I.un (Un.kept k) (I.hok.kept k)
theorem Inv.laid {a:Addr} {o:HO} {t':Nat} (I:Inv X pins σ H s) (k:∀b u,s.heap.get? b=some u->h'.get? b=some u) (hp:s.heap.objs.size<=a) (new:ObjOk X.prog X.w (upd H a o) h' a o):
  Inv X pins σ (upd H a o) {s with heap:=h',toks:=t'}:=I.un (Un.laid k hp (I.hok.fresh hp)) (I.hok.laid k hp new)
theorem Inv.write {x e:Addr} {o:HO} {t':Nat} (I:Inv X pins σ H s) (mu:Mut (H x)) (he:e=x∨H e=some (.own x)) (k:∀b u,b≠e->s.heap.get? b=some u->h'.get? b=some u) (heo:∃u,h'.get? e=some u)
  (new:ObjOk X.prog X.w (upd H x o) h' x o):Inv X pins σ (upd H x o) {s with heap:=h',toks:=t'}:=I.un (Un.write mu he k heo) (I.hok.write mu he k heo new)
theorem Inv.pins_of {pins':List (Addr×Obj)} (I:Inv X pins σ H s) (h:∀p∈pins',s.heap.get? p.1=some p.2/\H p.1=none/\p.1≠X.env.locals/\p.1∉X.fs/\∀v,p.2.data≠ .cell v):Inv X pins' σ H s:=
 ⟨I.ok,I.os,I.bare,I.base,I.loc,I.cell,I.free,I.freeC,fun p hp=>(List.mem_append.mp hp).elim (fun z=>I.pin p (List.mem_append_left _ z)) (h p),I.hok,I.len⟩
theorem nodup_ix {N:List Str} (hN:N.Nodup) {i j:Nat} {x:Str} (a:N[i]? =some x) (b:N[j]? =some x):i=j:=by
 obtain⟨h1,e1⟩:=List.getElem?_eq_some_iff.mp a
 obtain⟨h2,e2⟩:=List.getElem?_eq_some_iff.mp b
 exact(List.getElem_inj hN).mp (e1.trans e2.symm)
theorem store_ok2 {M:Model} {A:Around} {E:Value->Shared->Prop} {i:Nat} {x:Str} {v:V} {u:Value} {Q:Unit->Shared->Prop} (I:Inv X pins σ H s) (hN:X.N.Nodup) (hi:X.N[i]? =some x) (hx:Loc X.env.scope x) (r:RelV v u)
  (h:∀s',Inv X pins (σ.set i (some v)) H s'->(∃a,Heap.SameBut a s.heap s'.heap/\(a=X.env.locals∨X.env.cells.lookup x=some a))->Q () s') (hf:X.fn x=true∨X.env.scope.names.lookup x=some .local:=by first|exact .inl rfl|exact .inr rfl|assumption):wpAny M A (storeName X.env x u) Q E s:=by
 obtain⟨m,hn,hl⟩:=id I.loc
 have hcls:(X.env.scope.kind== .class || (X.env.scope.kind== .module && X.env.locals != X.env.globals))=false:=by rw [I.ok.kind];rfl
 have hiσ:i<σ.length:=by rw [I.len];exact(List.getElem?_eq_some_iff.mp hi).1
 have cne:=I.cne
 have tracked:∀{a:Addr} {h':Heap},(∃o,s.heap.get? a=some o/\H a=none)->Heap.SameBut a s.heap h'->HOk X.prog X.w H h':=fun{a h'} ha hs b ob e=>by
  obtain⟨_,_,hfree⟩:=ha
  refine(I.hok b ob e).stay (fun c w' hc q=>(hs.2 c ?_).trans q) (fun _ q=>q) fun _ _ q=>q
  rintro rfl
  rcases hc with rfl|hc
  ·rw [hfree]at e;cases e
  ·rw [hfree]at hc;cases hc
 rcases hx with hk|hk
 ·refine wpAny_storeName_local hk hn (fun h' hn' hs=>?_) hcls
  obtain⟨oL,_,_,hoL,_⟩:=id hn
  refine h _ ⟨I.ok,I.os,I.bare,⟨fun b o e n hb hx=>?_,fun b o e n hb hx=>?_,I.base.free,fun b o e hx=>?_,I.base.tups,I.base.frzs,I.base.tbls⟩,⟨_,hn',fun j y v' e1 e2 e3=>?_⟩,fun y c e=>?_,I.free,I.freeC,fun p hp=>?_,tracked ⟨oL,hoL,I.free⟩ hs,by simpa using I.len⟩ ⟨_,hs,.inl rfl⟩
  ·exact(hs.2 b (Nat.ne_of_lt (Nat.lt_of_lt_of_le (Heap.lt_size e) I.ok.above))).trans (I.base.keep b o e n hb hx)
  ·obtain⟨sl,e1⟩:=I.base.slot b o e n hb hx
   exact⟨sl,(hs.2 b (Nat.ne_of_lt (Nat.lt_of_lt_of_le (Heap.lt_size e) I.ok.above))).trans e1⟩
  ·obtain⟨o',e1⟩:=I.base.there b o e hx
   exact⟨o',(hs.2 b (Nat.ne_of_lt (Nat.lt_of_lt_of_le (Heap.lt_size e) I.ok.above))).trans e1⟩
  ·by_cases hj:j=i
   ·subst hj
    rw [hi]at e1;cases e1
    rw [List.getElem?_set_self hiσ]at e2
    cases e2
    exact⟨u,r,.inl ⟨hk,by simp⟩⟩
   ·rw [List.getElem?_set_ne (Ne.symm hj)]at e2
    obtain⟨u',r',q⟩:=hl j y v' e1 e2 e3
    refine⟨u',r',?_⟩
    rcases q with ⟨k,e⟩|⟨k,c,e,z⟩
    ·refine .inl ⟨k,?_⟩
     have:y≠x:=fun e=>hj (nodup_ix hN e1 (e▸hi))
     simp [this,e]
    ·exact .inr ⟨k,c,e,z.sameBut hs (cne y c e)⟩
  ·obtain⟨w',z⟩:=I.cell y c e
   exact⟨w',z.sameBut hs (cne y c e)⟩
  ·obtain⟨e,n,ne,nf,d⟩:=I.pin p hp
   exact⟨(hs.2 p.1 ne).trans e,n,ne,nf,d⟩
 ·have hfn:X.fn x=true:=by
   rcases hf with z|z
   ·exact z
   ·rw [z]at hk;cases hk
  obtain⟨c,hc⟩:=I.ok.has x (.inl hk)
  obtain⟨w',z⟩:=I.cell x c hc
  refine wpAny_storeName_cell I.ok.kind hk hc z (fun h' hc' hs=>?_)
  obtain⟨oc,hoc,hocd⟩:=id z
  refine h {s with heap:=h'} ⟨I.ok,I.os,I.bare,⟨fun b o e n hb hx=>?_,fun b o e n hb hx=>?_,I.base.free,fun b o e hx=>?_,I.base.tups,I.base.frzs,I.base.tbls⟩,⟨m,hn.sameBut hs (Ne.symm (cne x c hc)),fun j y v' e1 e2 e3=>?_⟩,fun y c' e=>?_,I.free,I.freeC,fun p hp=>?_,tracked ⟨oc,hoc,I.freeC x c hc⟩ hs,by simpa using I.len⟩ ⟨c,hs,.inr hc⟩
  ·exact(hs.2 b (Nat.ne_of_lt (Nat.lt_of_lt_of_le (Heap.lt_size e) (I.ok.cab x c hfn hc)))).trans (I.base.keep b o e n hb hx)
  ·obtain⟨sl,e1⟩:=I.base.slot b o e n hb hx
   exact⟨sl,(hs.2 b (Nat.ne_of_lt (Nat.lt_of_lt_of_le (Heap.lt_size e) (I.ok.cab x c hfn hc)))).trans e1⟩
  ·obtain⟨o',e1⟩:=I.base.there b o e hx
   exact⟨o',(hs.2 b (Nat.ne_of_lt (Nat.lt_of_lt_of_le (Heap.lt_size e) (I.ok.cab x c hfn hc)))).trans e1⟩
  ·by_cases hj:j=i
   ·subst hj
    rw [hi]at e1;cases e1
    rw [List.getElem?_set_self hiσ]at e2
    cases e2
    exact⟨u,r,.inr ⟨.inl hk,c,hc,hc'⟩⟩
   ·rw [List.getElem?_set_ne (Ne.symm hj)]at e2
    obtain⟨u',r',q⟩:=hl j y v' e1 e2 e3
    refine⟨u',r',?_⟩
    rcases q with q|⟨k,c',e,z'⟩
    ·exact .inl q
    ·refine .inr ⟨k,c',e,z'.sameBut hs ?_⟩
     rintro rfl
     exact hj (nodup_ix hN e1 (I.ok.inj _ _ _ e hc▸hi))
  ·by_cases hcc:c'=c
   ·subst hcc;exact⟨_,hc'⟩
   ·obtain⟨w2,z2⟩:=I.cell y c' e
    exact⟨w2,z2.sameBut hs hcc⟩
  ·obtain⟨e,n,ne,nf,d⟩:=I.pin p hp
   refine⟨(hs.2 p.1 ?_).trans e,n,ne,nf,d⟩
   intro q
   rw [q,hoc]at e
   have q':oc=p.2:=Option.some.inj e
   exact d w' (by rw [<-q'];exact hocd)
theorem store_ok {M:Model} {A:Around} {E:Value->Shared->Prop} {i:Nat} {x:Str} {v:V} {u:Value} {Q:Unit->Shared->Prop} (I:Inv X pins σ H s) (hN:X.N.Nodup) (hi:X.N[i]? =some x) (hx:Loc X.env.scope x) (r:RelV v u)
  (h:∀s',Inv X pins (σ.set i (some v)) H s'->Q () s') (hf:X.fn x=true∨X.env.scope.names.lookup x=some .local:=by first|exact .inl rfl|exact .inr rfl|assumption):wpAny M A (storeName X.env x u) Q E s:=
 store_ok2 I hN hi hx r (fun s' I' _=>h s' I') hf
theorem Inv.call' {s':Shared} {ch:List Addr} (I:Inv X pins σ H s) (ho:s'.os=s.os) (u:Un (frs X.stack) ch H H' s.heap s'.heap) (hok:HOk X.prog X.w H' s'.heap) (hg:AllBare s'.gens)
  (hch:∀b∈ch,(b∈X.ex∨X.s₀.heap.objs.size<=b)/\b≠X.env.locals/\(∀x c,X.env.cells.lookup x=some c->c≠b)/\∀p∈X.pn++pins,p.1≠b):Inv X pins σ H' s':=by
 obtain⟨h',g',d',t',o'⟩:=s'
 have e:o'=s.os:=ho
 subst e
 exact I.call (g':=g') (t':=t') (d':=d') u hok hg hch
end
abbrev XK:=Value->Option Addr->Hp->Prop
abbrev St:=List (Option V)
abbrev VK:=V->Hp->Prop
abbrev TE:=St->Hp->VK->Prop
abbrev TT:=St->Hp->(Bool->Hp->Prop)->Prop
abbrev TA:=St->Hp->(List V->Hp->Prop)->Prop
structure Ends where
 nx:St->Hp->Prop
 rt:VK
 bk:St->Hp->Prop:=fun _ _=>False
 ct:St->Hp->Prop:=fun _ _=>False
abbrev TS:=Ends->St->Hp->Prop
def EP (X:Cx) (pins:List (Addr×Obj)) (σ:St) (Q:VK) (u:Value) (s':Shared):Prop:=∃v H',Inv X pins σ H' s'/\RelV v u/\Q v H'
def TP (X:Cx) (pins:List (Addr×Obj)) (σ:St) (Q:Bool->Hp->Prop) (b:Bool) (s':Shared):Prop:=∃H',Inv X pins σ H' s'/\Q b H'
def AP (X:Cx) (pins:List (Addr×Obj)) (σ:St) (Q:List V->Hp->Prop) (us:List Value) (s':Shared):Prop:=∃vs H',Inv X pins σ H' s'/\Vals vs us/\Q vs H'
def SP (X:Cx) (pins:List (Addr×Obj)) (D:Ends) (f:Flow) (s':Shared):Prop:=
 match f with
 | .next=>∃σ' H',Inv X pins σ' H' s'/\D.nx σ' H'
 | .brk=>∃σ' H',Inv X pins σ' H' s'/\D.bk σ' H'
 | .cont=>∃σ' H',Inv X pins σ' H' s'/\D.ct σ' H'
 | .ret u=>∃v σ' H',Inv X pins σ' H' s'/\RelV v u/\D.rt v H'
def PE (X:Cx) (e:Expr) (t:TE):Prop:=
 ∀(pins:List (Addr×Obj)) (s:Shared) (σ:St) (H:Hp) (Q:VK),Inv X pins σ H s->t σ H Q->wpAny (model X.prog X.w) X.A (eval e X.env) (EP X pins σ Q) X.xe s
def PT (X:Cx) (e:Expr) (t:TT):Prop:=
 ∀(pins:List (Addr×Obj)) (s:Shared) (σ:St) (H:Hp) (Q:Bool->Hp->Prop),Inv X pins σ H s->t σ H Q->wpAny (model X.prog X.w) X.A (isTrue e X.env (eval e X.env)) (TP X pins σ Q) X.xe s
def PW (X:Cx) (e:Expr) (t:TT):Prop:=
 ∀(whole:Sem Value) (pins:List (Addr×Obj)) (s:Shared) (σ:St) (H:Hp) (Q:Bool->Hp->Prop),Inv X pins σ H s->t σ H Q->wpAny (model X.prog X.w) X.A (isTrue e X.env whole) (TP X pins σ Q) X.xe s
theorem PW.pt {X:Cx} {e:Expr} {t:TT} (h:PW X e t):PT X e t:=h _
def PA (X:Cx) (es:List Expr) (t:TA):Prop:=
 ∀(pos:Pos) (pins:List (Addr×Obj)) (s:Shared) (σ:St) (H:Hp) (Q:List V->Hp->Prop),Inv X pins σ H s->t σ H Q->wpAny (model X.prog X.w) X.A (spliced (backTo pos (starEach es X.env))) (AP X pins σ Q) X.xe s
def PS (X:Cx) (st:Stmt) (t:TS):Prop:=
 ∀(pins:List (Addr×Obj)) (s:Shared) (σ:St) (H:Hp) (D:Ends),Inv X pins σ H s->t D σ H->wpAny (model X.prog X.w) X.A (exec st X.env) (SP X pins D) X.xe s
def PSs (X:Cx) (st:List Stmt) (t:TS):Prop:=
 ∀(pins:List (Addr×Obj)) (s:Shared) (σ:St) (H:Hp) (D:Ends),Inv X pins σ H s->t D σ H->wpAny (model X.prog X.w) X.A (execs st X.env) (SP X pins D) X.xe s
theorem thn {α:Type} {t:Sem α} {Q Q':α->Shared->Prop} {M:Model} {A:Around} {E:Value->Shared->Prop} {s:Shared} (h:wpAny M A t Q E s) (hQ:∀a s,Q a s->Q' a s):wpAny M A t Q' E s:=wpAny_mono h hQ fun _ _ x=>x
end L2
namespace L2
open PySem PySem.Spec PyProof.Rows
section
variable {X:Cx}
def tVar (i:Nat):TE:=fun σ H Q=>∃v,σ[i]? =some (some v)/\Q v H
def tC (v:V):TE:=fun _ H Q=>Q v H
theorem pe_var {i:Nat} {x:Str} {pos:Pos} (hN:X.N[i]? =some x) (hv:Vis X.env.scope x) (hd:(x==("__debug__":Str))=false:=by decide) (hcd:(x==("__classdict__":Str))=false:=by decide):PE X (.Name x pos) (tVar i):=by
 intro pins s σ H Q I h
 obtain⟨v,e,h⟩:=h
 obtain⟨m,hn,hl⟩:=I.loc
 obtain⟨u,r,l⟩:=hl i x v hN e hv
 have fin:EP X pins σ Q u s:=⟨v,H,I,r,h⟩
 rcases l with ⟨hk,hm⟩|⟨hk,c,hc,hcell⟩
 ·exact wpAny_Name (wpAny_loadName_local I.ok.kind hk hn hm fin) hd
 ·rcases hk with hk|hk
  ·exact wpAny_Name (wpAny_loadName_cell I.ok.kind hk hc hcell fin) hd
  ·exact wpAny_Name (wpAny_loadName_free I.ok.kind hk hc hcell fin hcd) hd
theorem pe_int {i j pos}:PE X (.Constant (.int i) j pos) (tC (.int i)):=fun _ _ _ H _ I h=>wpAny_Constant_int ⟨.int i,H,I.tok _,⟨_,rfl⟩,h⟩
theorem pe_bl {b j pos}:PE X (.Constant (.bool b) j pos) (tC (.bl b)):=fun _ _ _ H _ I h=>Constant_bool ⟨.bl b,H,I,rfl,h⟩
theorem pe_non {j pos}:PE X (.Constant .none j pos) (tC .non):=fun _ _ _ H _ I h=>Constant_none ⟨.non,H,I,rfl,h⟩
theorem pe_str {x j pos}:PE X (.Constant (.str x) j pos) (tC (.str x)):=fun _ _ _ H _ I h=>Calls.Constant_str ⟨.str x,H,I.tok _,⟨_,rfl⟩,h⟩
def Gl (X:Cx) (x:Str):Prop:=X.env.kindOf x=some .globalImplicit
theorem ld_glob {E:Value->Shared->Prop} {pins:List (Addr×Obj)} {s:Shared} {σ:St} {H:Hp} {x:Str} {u:Value} {pos:Pos} {Q:Value->Shared->Prop} (I:Inv X pins σ H s) (hg:Gl X x) (hm:X.mg x=some u) (h:Q u s)
  (hd:(x==("__debug__":Str))=false:=by decide):wpAny (model X.prog X.w) X.A (eval (.Name x pos) X.env) Q E s:=
 Calls.Name_function_global I.ok.kind hg (Calls.loadGlobal_global (by rw [I.ok.glob];exact I.mod.glob.keeps I.bk) hm h) hd
theorem ld_blt {E:Value->Shared->Prop} {pins:List (Addr×Obj)} {s:Shared} {σ:St} {H:Hp} {x:Str} {u:Value} {pos:Pos} {Q:Value->Shared->Prop} (I:Inv X pins σ H s) (hg:Gl X x) (hm:X.mg x=none) (hv:bootBuiltins x=some u) (h:Q u s)
  (hn:x≠"__name__":=by decide) (hd:(x==("__debug__":Str))=false:=by decide):wpAny (model X.prog X.w) X.A (eval (.Name x pos) X.env) Q E s:=by
 obtain⟨mb,h1,h2⟩:=I.mod.blt
 exact Calls.Name_function_global I.ok.kind hg (Calls.loadGlobal_builtin (by rw [I.ok.glob];exact I.mod.glob.keeps I.bk) hm (by rw [I.ok.blt];exact h1.keeps I.bk) ((h2 x hn).trans hv) h) hd
theorem pe_glob {x:Str} {v:V} {u:Value} {pos:Pos} (hg:Gl X x) (hm:X.mg x=some u) (r:RelV v u) (hd:(x==("__debug__":Str))=false:=by decide):PE X (.Name x pos) (tC v):=
 fun _ _ _ H _ I h=>ld_glob I hg hm ⟨v,H,I,r,h⟩ hd
theorem pe_bltn {x:Str} {v:V} {u:Value} {pos:Pos} (hg:Gl X x) (hm:X.mg x=none) (hv:bootBuiltins x=some u) (r:RelV v u) (hn:x≠"__name__":=by decide) (hd:(x==("__debug__":Str))=false:=by decide):PE X (.Name x pos) (tC v):=
 fun _ _ _ H _ I h=>ld_blt I hg hm hv ⟨v,H,I,r,h⟩ hn hd
variable {a b:Expr} {ta tb:TE} {pos:Pos}
def PC (X:Cx) (op:CmpOp) (a b:Expr) (t:TE):Prop:=
 ∀(pins:List (Addr×Obj)) (s:Shared) (σ:St) (H:Hp) (Q:VK),Inv X pins σ H s->t σ H Q->
  wpAny (model X.prog X.w) X.A (eval a X.env) (fun v s₁=>wpAny (model X.prog X.w) X.A (eval b X.env) (fun u s₂=>wpAny (model X.prog X.w) X.A (compareOp op v u) (EP X pins σ Q) X.xe s₂) X.xe s₁) X.xe s
def tB (t:TE):TT:=fun σ H Q=>t σ H fun x H1=>∃c,x= .bl c/\Q c H1
theorem pt_cmp {op:CmpOp} {t:TE} (h:PC X op a b t) (h1:behindInMarks op b=false:=by first|exact nobehind _ (by decide) (by decide)|rfl):PT X (.Compare a [op] [b] pos) (tB t):=by
 intro pins s σ H Q I hw
 refine wpAny_isTrue_Compare1 (thn (h pins s σ H _ I hw) fun v s1 h1=>thn h1 fun u s2 h2=>thn h2 fun c s3 ⟨x,H1,I1,r1,q1⟩=>?_) h1
 obtain⟨d,rfl,q⟩:=q1
 cases r1
 exact wpAny_truthy_bool ⟨H1,I1,q⟩
theorem pt_val {e:Expr} {t:TE} (h:PE X e t) (he:∀whole,isTrue e X.env whole=(do let v<-whole;standAt e.pos;holding [v] (truthy v)):=by intro _;rfl):PT X e (tB t):=by
 intro pins s σ H Q I hw
 refine isTrue_plain (thn (h pins s σ H _ I hw) fun v s1 ⟨x,H1,I1,r1,q1⟩=>?_) (he _)
 obtain⟨d,rfl,q⟩:=q1
 cases r1
 exact wpAny_truthy_bool ⟨H1,I1,q⟩
variable {tA tB':TT} {rest:List Expr}
def tAnd (t u:TT):TT:=fun σ H Q=>t σ H fun c H1=>if c=true then u σ H1 Q else Q false H1
def tOr (t u:TT):TT:=fun σ H Q=>t σ H fun c H1=>if c=true then Q true H1 else u σ H1 Q
def tNot (t:TT):TT:=fun σ H Q=>t σ H fun c H1=>Q (!c) H1
theorem pw_and1 (ha:PT X a tA):PW X (.BoolOp .And [a] pos) tA:=by
 intro wh pins s σ H Q I h
 refine isTrue_and (thn (ha pins s σ H Q I h) fun c s1 e=>?_)
 cases c with
 |true=>exact isTrue_and_nil e
 |false=>exact e
theorem pw_or1 (ha:PT X a tA):PW X (.BoolOp .Or [a] pos) tA:=by
 intro wh pins s σ H Q I h
 refine isTrue_or (thn (ha pins s σ H Q I h) fun c s1 e=>?_)
 cases c with
 |false=>exact isTrue_or_nil e
 |true=>exact e
theorem pw_and (ha:PT X a tA) (hb:PW X (.BoolOp .And (b::rest) pos) tB'):PW X (.BoolOp .And (a::b::rest) pos) (tAnd tA tB'):=by
 intro wh pins s σ H Q I h
 refine isTrue_and (thn (ha pins s σ H _ I h) fun c s1 ⟨H1,I1,q1⟩=>?_)
 cases c with
 |true=>exact hb wh pins s1 σ H1 Q I1 q1
 |false=>exact⟨H1,I1,q1⟩
theorem pw_or (ha:PT X a tA) (hb:PW X (.BoolOp .Or (b::rest) pos) tB'):PW X (.BoolOp .Or (a::b::rest) pos) (tOr tA tB'):=by
 intro wh pins s σ H Q I h
 refine isTrue_or (thn (ha pins s σ H _ I h) fun c s1 ⟨H1,I1,q1⟩=>?_)
 cases c with
 |true=>exact⟨H1,I1,q1⟩
 |false=>exact hb wh pins s1 σ H1 Q I1 q1
theorem pt_not (ha:PT X a tA):PT X (.UnaryOp .Not a pos) (tNot tA):=by
 intro pins s σ H Q I h
 exact isTrue_not (ha pins s σ H (fun c H1=>Q (!c) H1) I h)
def tAndV (ta tb:TE):TE:=fun σ H Q=>ta σ H fun x H1=>∃c,x= .bl c/\if c=true then tb σ H1 Q else Q (.bl false) H1
def tOrV (ta tb:TE):TE:=fun σ H Q=>ta σ H fun x H1=>∃c,x= .bl c/\if c=true then Q (.bl true) H1 else tb σ H1 Q
def tNotV (ta:TE):TE:=fun σ H Q=>ta σ H fun x H1=>∃c,x= .bl c/\Q (.bl (!c)) H1
theorem pe_one {op} {t:TE} (h:PE X a t):PE X (.BoolOp op [a] pos) t:=fun pins s σ H Q I hw=>BoolOp_one (h pins s σ H Q I hw)
theorem pe_and (ha:PE X a ta) (hb:PE X (.BoolOp .And (b::rest) pos) tb):PE X (.BoolOp .And (a::b::rest) pos) (tAndV ta tb):=by
 intro pins s σ H Q I h
 refine BoolOp_and (thn (ha pins s σ H _ I h) fun v s1 ⟨x,H1,I1,r1,q1⟩=>?_)
 obtain⟨c,rfl,q1⟩:=q1
 cases r1
 refine wpAny_truthy_bool ?_
 cases c with
 |true=>exact hb pins s1 σ H1 Q I1 q1
 |false=>exact⟨.bl false,H1,I1,rfl,q1⟩
theorem pe_or (ha:PE X a ta) (hb:PE X (.BoolOp .Or (b::rest) pos) tb):PE X (.BoolOp .Or (a::b::rest) pos) (tOrV ta tb):=by
 intro pins s σ H Q I h
 refine BoolOp_or (thn (ha pins s σ H _ I h) fun v s1 ⟨x,H1,I1,r1,q1⟩=>?_)
 obtain⟨c,rfl,q1⟩:=q1
 cases r1
 refine wpAny_truthy_bool ?_
 cases c with
 |false=>exact hb pins s1 σ H1 Q I1 q1
 |true=>exact⟨.bl true,H1,I1,rfl,q1⟩
theorem pe_not (ha:PE X a ta):PE X (.UnaryOp .Not a pos) (tNotV ta):=by
 intro pins s σ H Q I h
 refine UnaryOp_ (thn (ha pins s σ H _ I h) fun v s1 ⟨x,H1,I1,r1,q1⟩=>?_)
 obtain⟨c,rfl,q1⟩:=q1
 cases r1
 exact not_of (wpAny_truthy_bool ⟨.bl (!c),H1,I1,rfl,q1⟩)
end
end L2
namespace L2
open PySem PySem.Spec PyProof.Rows
def SqL (K:PySem.W.Frag) (H:Hp) (a:Addr) (xs:List V):Prop:=
 Rd H a (.lst xs)∨
  ∃(o:Obj) (its:Array Value) (n:Nat),K.lookup a=some o/\o.cls= .type "list"/\o.dict=none/\o.data= .seq its n/\its.size<=sizeLine/\Vals xs its.toList
def SqT (K:PySem.W.Frag) (H:Hp) (a:Addr) (xs:List V):Prop:=
 Rd H a (.tup xs)∨
  ∃(o:Obj) (its:Array Value) (n:Nat),K.lookup a=some o/\o.cls= .type "tuple"/\o.data= .seq its n/\its.size<=sizeLine/\Vals xs its.toList
def absV:Value->Option V
 | .none=>some .non
 | .bool b=>some (.bl b)
 | .int i _=>some (.int i)
 | .str x _=>some (.str x)
 | .bytes b _=>some (.byt b)
 | .float b _=>some (.flt b)
 | .ref a=>some (.ref a)
 | .type n=>some (.ty n)
 |_=>none
theorem RelV.abs {x:V} {u:Value} (r:RelV x u):absV u=some x:=by
 cases x with
 |non=>cases r;rfl
 |bl _=>cases r;rfl
 |int _=>obtain⟨t,rfl⟩:=r;rfl
 |str _=>obtain⟨t,rfl⟩:=r;rfl
 |byt _=>obtain⟨t,rfl⟩:=r;rfl
 |flt _=>obtain⟨t,rfl⟩:=r;rfl
 |ref _=>cases r;rfl
 |ty _=>cases r;rfl
theorem RelV.inj {x y:V} {u:Value} (r:RelV x u) (q:RelV y u):x=y:=Option.some.inj (r.abs.symm.trans q.abs)
theorem Vals.inj:∀{xs ys:List V} {us:List Value},Vals xs us->Vals ys us->xs=ys
 |_,_,_,.nil,.nil=>rfl
 |_,_,_,.cons r t,.cons r' t'=>by rw [r.inj r',Vals.inj t t']
section
variable {X:Cx} {pins:List (Addr×Obj)} {σ:St} {H:Hp} {s:Shared} {a:Addr} {xs ys:List V}
theorem SqL.of {K:PySem.W.Frag} (h:H a=some (.lst xs)):SqL K H a xs:= .inl (.inl h)
theorem SqT.of {K:PySem.W.Frag} (h:H a=some (.tup xs)):SqT K H a xs:= .inl (.inl h)
theorem Inv.list (I:Inv X pins σ H s) (h:SqL X.K H a xs):∃its:List Value,Vals xs its/\PlainL s.heap a its.toArray/\xs.length<=sizeLine:=by
 rcases h with h|⟨o,its,n,hk,hc,hd,hs,hz,r⟩
 ·obtain⟨z,its,n,r,e⟩:=h.ok I.hok
  exact⟨its,r,⟨_,n,e,rfl,rfl,rfl⟩,z⟩
 ·refine⟨its.toList,r,⟨o,n,I.kIn a o hk,hc,hd,by simpa using hs⟩,?_⟩
  have e:=r.length
  simp only [Array.length_toList]at e
  omega
theorem Inv.tuple (I:Inv X pins σ H s) (h:SqT X.K H a xs):∃its:List Value,Vals xs its/\IsTup s.heap a its.toArray/\xs.length<=sizeLine:=by
 rcases h with h|⟨o,its,n,hk,hc,hs,hz,r⟩
 ·obtain⟨z,its,r,p⟩:=h.ok I.hok
  exact⟨its,r,p,z⟩
 ·refine⟨its.toList,r,⟨o,I.kIn a o hk,hc,n,by simpa using hs⟩,?_⟩
  have e:=r.length
  simp only [Array.length_toList]at e
  omega
theorem Inv.list_inj (I:Inv X pins σ H s) (h:SqL X.K H a xs) (h':SqL X.K H a ys):xs=ys:=by
 obtain⟨its,r,⟨o,n,e,_,_,d⟩,_⟩:=I.list h
 obtain⟨its',r',⟨o',n',e',_,_,d'⟩,_⟩:=I.list h'
 rw [e]at e';cases e'
 rw [d]at d'
 injection d' with d1 _
 have:its=its':=by simpa using congrArg Array.toList d1
 subst this
 exact r.inj r'
theorem Inv.tuple_inj (I:Inv X pins σ H s) (h:SqT X.K H a xs) (h':SqT X.K H a ys):xs=ys:=by
 obtain⟨its,r,⟨o,e,_,n,d⟩,_⟩:=I.tuple h
 obtain⟨its',r',⟨o',e',_,n',d'⟩,_⟩:=I.tuple h'
 rw [e]at e';cases e'
 rw [d]at d'
 injection d' with d1 _
 have:its=its':=by simpa using congrArg Array.toList d1
 subst this
 exact r.inj r'
end
abbrev Cx.wish (X:Cx) (E:Value->Shared->Prop):Cx:={X with xe:=E}
abbrev Cx.nox (X:Cx):Cx:=X.wish fun _ _=>False
theorem Cx.Ok.wish {X:Cx} (ok:X.Ok) (E:Value->Shared->Prop):(X.wish E).Ok:=
 ⟨ok.mod,ok.kind,ok.glob,ok.blt,ok.above,ok.inj,ok.has,ok.cab,ok.hd,ok.frames,ok.stk,ok.exf,ok.bs,ok.bsz,ok.noex,ok.exfs,ok.funs,ok.frf⟩
theorem Cx.Ok.unwish {X:Cx} {E:Value->Shared->Prop} (ok:(X.wish E).Ok):X.Ok:=
 ⟨ok.mod,ok.kind,ok.glob,ok.blt,ok.above,ok.inj,ok.has,ok.cab,ok.hd,ok.frames,ok.stk,ok.exf,ok.bs,ok.bsz,ok.noex,ok.exfs,ok.funs,ok.frf⟩
section
variable {X:Cx} {pins:List (Addr×Obj)} {σ:St} {H:Hp} {s:Shared} {E:Value->Shared->Prop}
theorem Inv.wish (I:Inv X pins σ H s) (E:Value->Shared->Prop):Inv (X.wish E) pins σ H s:=⟨I.ok.wish E,I.os,I.bare,I.base,I.loc,I.cell,I.free,I.freeC,I.pin,I.hok,I.len⟩
theorem Inv.unwish (I:Inv (X.wish E) pins σ H s):Inv X pins σ H s:=⟨I.ok.unwish,I.os,I.bare,I.base,I.loc,I.cell,I.free,I.freeC,I.pin,I.hok,I.len⟩
theorem SP.unwish {D:Ends} {f:Flow} {s':Shared} (h:SP (X.wish E) pins D f s'):SP X pins D f s':=by
 cases f with
 |next=>obtain⟨σ',H',I,q⟩:=h;exact⟨σ',H',I.unwish,q⟩
 |brk=>obtain⟨σ',H',I,q⟩:=h;exact⟨σ',H',I.unwish,q⟩
 |cont=>obtain⟨σ',H',I,q⟩:=h;exact⟨σ',H',I.unwish,q⟩
 |ret u=>obtain⟨v,σ',H',I,r,q⟩:=h;exact⟨v,σ',H',I.unwish,r,q⟩
theorem PSs.nox {st:List Stmt} {t:TS} (h:PSs X.nox st t):PSs X st t:=fun pins s σ H D I hw=>
 wpAny_mono (h pins s σ H D (I.wish _) hw) (fun _ _ q=>q.unwish) fun _ _ z=>False.elim z
end
section
variable {X:Cx} {st:Stmt} {rest:List Stmt} {t u:TS} {e:Expr} {te:TE} {pos:Pos}
def tNext:TS:=fun D σ H=>D.nx σ H
def tSeq (t u:TS):TS:=fun D σ H=>t {D with nx:=u D} σ H
theorem pss_nil:PSs X [] tNext:=fun _ _ σ H _ I h=>wpAny_execs_nil ⟨σ,H,I,h⟩
theorem pss_cons (h1:PS X st t) (h2:PSs X rest u):PSs X (st::rest) (tSeq t u):=by
 intro pins s σ H D I h
 refine wpAny_execs_cons (thn (h1 pins s σ H {D with nx:=u D} I h) fun f s1 q=>?_)
 cases f with
 |next=>
  obtain⟨σ',H',I',q⟩:=q
  exact h2 pins s1 σ' H' D I' q
 |ret v=>exact q
 |brk=>exact q
 |cont=>exact q
theorem pss_one (h1:PS X st t):PSs X [st] t:=by
 intro pins s σ H D I h
 refine wpAny_execs_cons (thn (h1 pins s σ H D I h) fun f s1 q=>?_)
 cases f with
 |next=>exact wpAny_execs_nil q
 |ret v=>exact q
 |brk=>exact q
 |cont=>exact q
theorem Inv.quiet {pins:List (Addr×Obj)} {σ:St} {H:Hp} {s:Shared} (I:Inv X pins σ H s):interactive X.env=false:=by simp [interactive,I.ok.kind]
def tDrop (te:TE):TS:=fun D σ H=>te σ H fun _ H1=>D.nx σ H1
theorem ps_expr (he:PE X e te) (hs:swapsWith e none pos.line X.env=pure false:=by rfl):PS X (.Expr e pos) (tDrop te):=by
 intro pins s σ H D I h
 exact wpAny_Expr_any (thn (he pins s σ H _ I h) fun v s1 ⟨x,H1,I1,r1,q1⟩=>⟨σ,H1,I1,q1⟩) I.quiet hs
def tRet (te:TE):TS:=fun D σ H=>te σ H D.rt
theorem ps_ret (he:PE X e te):PS X (.Return (some e) pos) (tRet te):=by
 intro pins s σ H D I h
 exact wpAny_Return_some (thn (he pins s σ H _ I h) fun v s1 ⟨x,H1,I1,r1,q1⟩=>⟨x,σ,H1,I1,r1,q1⟩)
def tIfS (c:TT) (t u:TS):TS:=fun D σ H=>c σ H fun b H1=>if b=true then t D σ H1 else u D σ H1
theorem ps_if {c:Expr} {a b:List Stmt} {tc:TT} (hc:PT X c tc) (ha:PSs X a t) (hb:PSs X b u):PS X (.If c a b pos) (tIfS tc t u):=by
 intro pins s σ H D I h
 refine wpAny_If (thn (hc pins s σ H _ I h) fun d s1 ⟨H1,I1,q1⟩=>?_)
 cases d with
 |true=>exact ha pins s1 σ H1 D I1 q1
 |false=>exact hb pins s1 σ H1 D I1 q1
end
abbrev TG:=V->St->Hp->(St->Hp->Prop)->Prop
abbrev TGs:=List V->St->Hp->(St->Hp->Prop)->Prop
def PG (X:Cx) (target:Expr) (t:TG):Prop:=
 ∀(pins:List (Addr×Obj)) (s:Shared) (σ:St) (H:Hp) (v:V) (u:Value) (Q:St->Hp->Prop),Inv X pins σ H s->RelV v u->t v σ H Q->
  wpAny (model X.prog X.w) X.A (assign target X.env u) (fun _ s'=>∃σ' H',Inv X pins σ' H' s'/\Q σ' H') X.xe s
def PGs (X:Cx) (ts:List Expr) (t:TGs):Prop:=
 ∀(pins:List (Addr×Obj)) (s:Shared) (σ:St) (H:Hp) (vs:List V) (us:List Value) (Q:St->Hp->Prop),Inv X pins σ H s->Vals vs us->t vs σ H Q->
  wpAny (model X.prog X.w) X.A (assignInOrder ((assignEach ts X.env).map (·.2)) us) (fun _ s'=>∃σ' H',Inv X pins σ' H' s'/\Q σ' H') X.xe s
abbrev TSet:=V->V->V->Hp->(Hp->Prop)->Prop
def PSet (X:Cx) (t:TSet):Prop:=
 ∀(pins:List (Addr×Obj)) (s:Shared) (σ:St) (H:Hp) (o i v:V) (ov iv u:Value) (Q:Hp->Prop),Inv X pins σ H s->RelV o ov->RelV i iv->RelV v u->t o i v H Q->
  wpAny (model X.prog X.w) X.A (setItem ov iv u) (fun _ s'=>∃H',Inv X pins σ H' s'/\Q H') X.xe s
section
variable {X:Cx} {pos:Pos}
def gName (i:Nat):TG:=fun v σ H Q=>Q (σ.set i (some v)) H
theorem pg_name {i:Nat} {x:Str} (hN:X.N.Nodup) (hi:X.N[i]? =some x) (hx:Loc X.env.scope x) (hf:X.fn x=true∨X.env.scope.names.lookup x=some .local:=by first|exact .inl rfl|exact .inr rfl|assumption):PG X (.Name x pos) (gName i):=by
 intro pins s σ H v u Q I r h
 exact wpAny_assign_Name (store_ok I hN hi hx r (fun s' I'=>⟨_,H,I',h⟩) hf)
def gNil:TGs:=fun vs σ H Q=>vs=[]/\Q σ H
def gCons (t:TG) (u:TGs):TGs:=fun vs σ H Q=>∃v r,vs=v::r/\t v σ H fun σ' H'=>u r σ' H' Q
theorem pgs_nil:PGs X [] gNil:=by
 intro pins s σ H vs us Q I r h
 obtain⟨e,h⟩:=h
 subst e
 cases r
 exact assignInOrder_nil ⟨σ,H,I,h⟩
theorem pgs_cons {e:Expr} {es:List Expr} {t:TG} {u:TGs} (h1:PG X e t) (h2:PGs X es u)
  (hs:(assignEach (e::es) X.env).map (·.2)=assign e X.env::(assignEach es X.env).map (·.2):=by rfl):PGs X (e::es) (gCons t u):=by
 intro pins s σ H vs us Q I r h
 obtain⟨v,vr,e1,h⟩:=h
 subst e1
 cases r with
 |cons r rr=>
  rw [hs]
  refine assignInOrder_cons (thn (h1 pins s σ H _ _ _ I r h) fun _ s1 ⟨σ1,H1,I1,q1⟩=>?_)
  exact h2 pins s1 σ1 H1 _ _ Q I1 rr q1
def gTup (K:PySem.W.Frag) (n:Nat) (t:TGs):TG:=fun v σ H Q=>∃a xs,v= .ref a/\SqT K H a xs/\xs.length=n/\t xs σ H Q
theorem pg_tup {es:List Expr} {k:Nat} {t:TGs} {n:Nat} (hc:X.calm=true) (h:PGs X es t)
  (hn:(assignEach es X.env).length=n:=by rfl) (hst:(assignEach es X.env).findIdx? (·.1)=none:=by rfl):PG X (.Tuple es k pos) (gTup X.K n t):=by
 intro pins s σ H v u Q I r hw
 obtain⟨a,xs,e1,hq,hl,hw⟩:=hw
 subst e1
 cases r
 obtain⟨its,rv,ht,hz⟩:=I.tuple hq
 refine assign_Tuple_tuple (I.ok.hd hc) ht (by simp [hn, <-hl,rv.length]) hst fun h' hx=>?_
 have I1:Inv X pins σ H {s with heap:=h'}:=I.kept (t':=s.toks) fun b o e=>hx b o (Nat.ne_of_lt (Heap.lt_size e)) e
 exact h pins _ σ H xs _ Q I1 (by simpa using rv) hw
def gSub (to ti:TE) (t:TSet):TG:=fun v σ H Q=>to σ H fun o H1=>ti σ H1 fun i H2=>t o i v H2 fun H3=>Q σ H3
theorem pg_sub {o i:Expr} {to ti:TE} {t:TSet} (ho:PE X o to) (hi:PE X i ti) (hs:PSet X t)
  (ha:∀v,assign (.Subscript o i pos) X.env v=(do
   let ov<-holding [v] (eval o X.env)
   let iv<-holding [v,ov] (eval i X.env)
   standAt pos
   holding [v,ov,iv] (setItem ov iv v)
   release [v,ov,iv] []):=by intro _;rfl):PG X (.Subscript o i pos) (gSub to ti t):=by
 intro pins s σ H v u Q I r h
 rw [ha]
 refine wpAny_bind (wpAny_holding (thn (ho pins s σ H _ I h) fun ov s1 ⟨x,H1,I1,r1,q1⟩=>?_))
 refine wpAny_bind (wpAny_holding (thn (hi pins s1 σ H1 _ I1 q1) fun iv s2 ⟨y,H2,I2,r2,q2⟩=>?_))
 refine wpAny_bind (wpAny_standAt (wpAny_bind (wpAny_holding (thn (hs pins s2 σ H2 x y v ov iv u _ I2 r1 r2 r q2) fun _ s3 ⟨H3,I3,q3⟩=>?_))))
 exact wpAny_release ⟨σ,H3,I3,q3⟩
def tAsg (te:TE) (g:TG):TS:=fun D σ H=>te σ H fun x H1=>g x σ H1 D.nx
theorem ps_asg {tg e:Expr} {te:TE} {g:TG} (he:PE X e te) (hg:PG X tg g) (hs:swapsWithSole [tg] e pos.line X.env=pure false:=by rfl) (hw:swappedStores [tg] e X.env=pure none:=by rfl)
  (h1:(assignEach [tg] X.env).map (·.2)=[assign tg X.env]:=by rfl):PS X (.Assign [tg] e pos) (tAsg te g):=by
 intro pins s σ H D I h
 refine wpAny_Assign_stores (thn (he pins s σ H _ I h) fun v s1 ⟨x,H1,I1,r1,q1⟩=>?_) hs hw
 rw [h1]
 exact thn (hg pins s1 σ H1 x v _ I1 r1 q1) fun _ s2 q=>q
theorem ps_set {i:Nat} {x:Str} {e:Expr} {te:TE} {pos':Pos} (hN:X.N.Nodup) (hi:X.N[i]? =some x) (hx:Loc X.env.scope x) (he:PE X e te) (hs:swapsWith e (some (.Name x pos')) pos.line X.env=pure false:=by rfl) (hf:X.fn x=true∨X.env.scope.names.lookup x=some .local:=by first|exact .inl rfl|exact .inr rfl|assumption):
  PS X (.Assign [.Name x pos'] e pos) (tAsg te (gName i)):=by
 intro pins s σ H D I h
 refine wpAny_Assign_Name (thn (he pins s σ H _ I h) fun v s1 ⟨y,H1,I1,r1,q1⟩=>?_) hs
 exact store_ok I1 hN hi hx r1 (fun s2 I2=>⟨_,H1,I2,q1⟩) hf
end
section
variable {X:Cx} {pos:Pos}
def tWhile (c:TT) (tb:TS):TS:=fun D σ H=>∃W:Nat->St->Hp->Prop,(∃m,W m σ H)/\∀m σ H,W m σ H->
 c σ H fun b H1=>if b=true then∃N:St->Hp->Prop,(∀σ' H',N σ' H'->∃m',m'<m/\W m' σ' H')/\tb {D with nx:=N,ct:=N,bk:=D.nx} σ H1 else D.nx σ H1
theorem ps_while {c:Expr} {body:List Stmt} {tc:TT} {tb:TS} (hp:PassesOwn (model X.prog X.w) X.A X.env X.xe) (hc:PT X c tc) (hb:PSs X body tb):PS X (.While c body [] pos) (tWhile tc tb):=by
 intro pins s σ H D I h
 obtain⟨W,⟨m0,w0⟩,turn⟩:=h
 refine wpAny_While (codeAny_whileLoop (fun n s'=>∃σ' H',Inv X pins σ' H' s'/\W n σ' H') ?_ m0 ⟨σ,H,I,w0⟩)
 rintro n s1 ⟨σ1,H1,I1,w1⟩
 refine wpAny_passesOwn hp (thn (hc pins s1 σ1 H1 _ I1 (turn n σ1 H1 w1)) fun b s2 ⟨H2,I2,q2⟩=>?_)
 cases b with
 |true=>
  obtain⟨N,hN,q2⟩:=q2
  rw [if_pos rfl]
  refine wpAny_passesOwn hp (thn (hb pins s2 σ1 H2 _ I2 q2) fun f s3 q3=>?_)
  cases f with
  |next=>
   obtain⟨σ3,H3,I3,n3⟩:=q3
   obtain⟨m',hm,w3⟩:=hN σ3 H3 n3
   exact⟨m',hm,σ3,H3,I3,w3⟩
  |cont=>
   obtain⟨σ3,H3,I3,n3⟩:=q3
   obtain⟨m',hm,w3⟩:=hN σ3 H3 n3
   exact⟨m',hm,σ3,H3,I3,w3⟩
  |brk=>exact q3
  |ret v=>exact q3
 |false=>
  rw [if_neg Bool.false_ne_true]
  exact wpAny_execs_nil ⟨σ1,H2,I2,q2⟩
end
structure It where
 go:Nat->Hp->Prop
 yld:Nat->Hp->V->Hp->Prop
 stop:Nat->Hp->Prop
def FpOk (X:Cx) (pins:List (Addr×Obj)) (H:Hp) (b:Addr):Prop:=
 H b=none/\b≠X.env.locals/\b∉X.fs/\(b∈X.ex∨X.s₀.heap.objs.size<=b)/\(∀x c,X.env.cells.lookup x=some c->c≠b)/\∀p∈X.pn++pins,p.1≠b
theorem Inv.fpOk {X:Cx} {pins:List (Addr×Obj)} {σ:St} {H H':Hp} {s:Shared} {b:Addr} (I:Inv X pins σ H s) (hb:s.heap.objs.size<=b) (hn:H' b=none):FpOk X pins H' b:=by
 refine⟨hn,Nat.ne_of_gt (Nat.lt_of_lt_of_le I.lt hb),I.nofs hb,.inr (Nat.le_trans I.sz hb),fun x c e z=>?_,fun p hp z=>?_⟩
 ·obtain⟨v,q⟩:=I.cell x c e
  exact absurd (Nat.lt_of_lt_of_le q.lt (by rw [z];exact hb)) (Nat.lt_irrefl _)
 ·exact absurd (Nat.lt_of_lt_of_le (Heap.lt_size (I.pin p hp).1) (by rw [z];exact hb)) (Nat.lt_irrefl _)
structure Turn (P:Program) (w:World) (K:PySem.W.Frag) (tg:Expr) (J:It) (fp:List Addr) (it:Addr) (tn:Nat->Heap->Prop):Prop where
 mem:it∈fp
 obj:∀i h,tn i h->∀b∈fp,∃o,h.get? b=some o/\∀v,o.data≠ .cell v
 keep:∀i h h',tn i h->(∀b∈fp,∀o,h.get? b=some o->h'.get? b=some o)->tn i h'
 item:∀(X:Cx),X.prog=P->X.w=w->X.K=K->X.calm=true->∀(i:Nat) (pins:List (Addr×Obj)) (s:Shared) (σ:St) (H:Hp) (E:Value->Shared->Prop),Inv X pins σ H s->(∀b∈fp,FpOk X pins H b)->tn i s.heap->J.go i H->
  wpAny (model P w) X.A (pyNext (.ref it)) (fun r s1=>∃u,r=some u/\
   wpAny (model P w) X.A (letOwnedTupleGo tg (.ref it) u) (fun _ s2=>∃x H',Inv X pins σ H' s2/\RelV x u/\J.yld i H x H'/\tn (i+1) s2.heap/\∀b∈fp,H' b=none) E s1) E s
 done:∀(X:Cx),X.prog=P->X.w=w->X.K=K->X.calm=true->∀(i:Nat) (pins:List (Addr×Obj)) (s:Shared) (σ:St) (H:Hp) (E:Value->Shared->Prop),Inv X pins σ H s->(∀b∈fp,FpOk X pins H b)->tn i s.heap->J.stop i H->
  wpAny (model P w) X.A (pyNext (.ref it)) (fun r s1=>r=none/\Inv X pins σ H s1) E s
 self:∀(A:Around) (i:Nat) (s:Shared) (Q:Value->Shared->Prop) (E:Value->Shared->Prop),tn i s.heap->Q (.ref it) s->wpAny (model P w) A (pyIter (.ref it)) Q E s
abbrev TI:=St->Hp->(It->Hp->Prop)->Prop
def PIE (X:Cx) (pins:List (Addr×Obj)) (σ:St) (tg:Expr) (R:It->Hp->Prop) (itv:Value) (s2:Shared):Prop:=
 ∃(it:Addr) (fp:List Addr) (tn:Nat->Heap->Prop) (J:It) (H':Hp),itv= .ref it/\Inv X pins σ H' s2/\Turn X.prog X.w X.K tg J fp it tn/\tn 0 s2.heap/\(∀b∈fp,FpOk X pins H' b)/\R J H'
def PI (X:Cx) (tg iter:Expr) (wi:TI):Prop:=
 ∀(pins:List (Addr×Obj)) (s:Shared) (σ:St) (H:Hp) (R:It->Hp->Prop),Inv X pins σ H s->wi σ H R->
  wpAny (model X.prog X.w) X.A (eval iter X.env) (fun v s1=>wpAny (model X.prog X.w) X.A (pyIter v) (PIE X pins σ tg R) X.xe s1) X.xe s
theorem go_of {M : Model} {A : Around} {E : Value → Shared → Prop} {s : Shared} {tg : Expr} {it : Addr} {u : Value} {o : Obj} {n : String} {vs : Array Value} {Q : Unit → Shared → Prop} (ho : s.heap.get? it = some o) (hc : o.cls = .type n) (hd : o.data = .fields vs)
    (hn : ["enumerate", "zip", "dict_itemiterator", "dict_reverseitemiterator", "odict_iterator", "itertools.zip_longest", "itertools.pairwise"].contains n = false) (hQ : Q () s) : wpAny M A (letOwnedTupleGo tg (.ref it) u) Q E s := by
  unfold letOwnedTupleGo
  cases tg <;> first
    | exact wpAny_pure hQ
    | (cases u <;> first
        | exact wpAny_pure hQ
        | (refine wpAny_bind (wpAny_load ho ?_)
           rw [hc, hd]
           show wpAny M A (if (["enumerate", "zip", "dict_itemiterator", "dict_reverseitemiterator", "odict_iterator", "itertools.zip_longest", "itertools.pairwise"].contains n && vs[0]? == some (rawInt _)) = true then _ else _) Q E s
           rw [if_neg (by intro h; rw [hn, Bool.false_and] at h; cases h)]
           exact wpAny_pure hQ))
def Itl (K:PySem.W.Frag) (a:Addr):It:=
 ⟨fun i H=>∃xs x,SqL K H a xs/\xs[i]? =some x,fun i H x H'=>H'=H/\∀xs,SqL K H a xs->xs[i]? =some x,fun i H=>∃xs,SqL K H a xs/\xs.length<=i⟩
def Itr (lo:Int) (n:Nat):It:=⟨fun i _=>i<n,fun i H x H'=>H'=H/\x= .int (lo+i),fun i _=>n<=i⟩
theorem turn_list {P:Program} {w:World} {K:PySem.W.Frag} {tg:Expr} (a it:Addr):Turn P w K tg (Itl K a) [it] it (fun i h=>h.IsListIter it a i) where
 mem:=by simp
 obj:=fun i h st b hb=>by
  have e:b=it:=by simpa using hb
  subst e
  obtain⟨o,e,c,d⟩:=st
  exact⟨o,e,fun v z=>by rw [d]at z;cases z⟩
 keep:=fun i h h' st k=>st.at fun o e=>k it (by simp) o e
 item:=by
  intro X hP hw hK hc i pins s σ H E I hf st hg
  subst hP hw hK
  obtain⟨xs,x,hq,hx⟩:=hg
  obtain⟨its,rv,p,hz⟩:=I.list hq
  obtain⟨u,hu,ru⟩:=rv.get hx
  obtain⟨f0,f1,f2,f3,f4,f5⟩:=hf it (by simp)
  refine wpAny_pyNext_list_item st p.isList (x:=u) (by simpa using hu) fun h' st' sb=>?_
  have I1:Inv X pins σ H {s with heap:=h'}:=I.turned (t':=s.toks) (fun b o hb e=>(sb.2 b hb).trans e) f0 f1 f3 f4 f5
  obtain⟨o,e,c,d⟩:=id st'
  exact⟨u,rfl,go_of (s:={s with heap:=h'}) e c d (by decide) ⟨x,H,I1,ru,⟨rfl,fun ys hy=>by rw [I.list_inj hy hq];exact hx⟩,st',fun b hb=>(hf b hb).1⟩⟩
 done:=by
  intro X hP hw hK hc i pins s σ H E I hf st hg
  subst hP hw hK
  obtain⟨xs,hq,hx⟩:=hg
  obtain⟨its,rv,p,hz⟩:=I.list hq
  obtain⟨f0,f1,f2,f3,f4,f5⟩:=hf it (by simp)
  have hl:=rv.length
  exact wpAny_pyNext_list_end (I.ok.hd hc) st p.isList (by simp;omega) fun h' eb=>⟨rfl,I.turned (t':=s.toks) (fun b o hb e=>eb b o hb e) f0 f1 f3 f4 f5⟩
 self:=fun _ _ _ _ _ st h=>wpAny_pyIter_listiter st h
theorem turn_range {P:Program} {w:World} {K:PySem.W.Frag} {tg:Expr} (it:Addr) (lo:Int) (n:Nat):Turn P w K tg (Itr lo n) [it] it (fun i h=>IsRangeIter h it (lo+(i:Nat)*1) ((n:Int)-(i:Nat)) 1) where
 mem:=by simp
 obj:=fun i h st b hb=>by
  have e:b=it:=by simpa using hb
  subst e
  exact⟨_,st,fun v z=>by
   have z':Data.fields _=Data.cell v:=z
   cases z'⟩
 keep:=fun i h h' st k=>k it (by simp) _ st
 item:=by
  intro X hP hw hK hc i pins s σ H E I hf st hg
  subst hP hw hK
  obtain⟨f0,f1,f2,f3,f4,f5⟩:=hf it (by simp)
  have W:=Walks.range (prog:=X.prog) (w:=X.w) (I.ok.hd hc) it lo 1 n
  refine W.item i s _ _ hg st fun v h' tk hv st' kk=>?_
  obtain⟨t,rfl⟩:=hv
  have I1:Inv X pins σ H {s with heap:=h',toks:=tk}:=I.turned (fun b o hb e=>kk b o (by simpa using hb) e) f0 f1 f3 f4 f5
  refine⟨_,rfl,go_of (s:={s with heap:=h',toks:=tk}) (n:="range_iterator") st' rfl rfl (by decide) ⟨.int (lo+i),H,I1,⟨t,?_⟩,⟨rfl,rfl⟩,st',fun b hb=>(hf b hb).1⟩⟩
  rw [Int.mul_one]
 done:=by
  intro X hP hw hK hc i pins s σ H E I hf st hg
  subst hP hw hK
  obtain⟨f0,f1,f2,f3,f4,f5⟩:=hf it (by simp)
  exact wpAny_pyNext_range_end (I.ok.hd hc) st (by have:n<=i:=hg;omega) fun h' eb=>⟨rfl,I.turned (t':=s.toks) (fun b o hb e=>eb b o hb e) f0 f1 f3 f4 f5⟩
 self:=fun _ _ _ _ _ st h=>wpAny_pyIter_rangeiter st h
end L2
namespace L2
open PySem PySem.Spec PyProof.Rows
section
variable {X:Cx} {tg:Expr}
def iList (K:PySem.W.Frag) (tl:TE):TI:=fun σ H R=>tl σ H fun x H1=>∃a,x= .ref a/\(∃xs,SqL K H1 a xs)/\R (Itl K a) H1
theorem pi_list {l:Expr} {tl:TE} (hl:PE X l tl):PI X tg l (iList X.K tl):=by
 intro pins s σ H R I h
 refine thn (hl pins s σ H _ I h) fun v s1 ⟨x,H1,I1,r1,q1⟩=>?_
 obtain⟨a,e,⟨xs,hq⟩,q⟩:=q1
 subst e
 cases r1
 obtain⟨its,rv,p,hz⟩:=I1.list hq
 refine wpAny_pyIter_list p.isList ?_
 refine⟨s1.heap.objs.size,[s1.heap.objs.size],_,_,H1,rfl,I1.kept (t':=s1.toks) fun b o e=>Heap.get?_push_of_some _ e,turn_list a _,⟨_,Heap.get?_push_size _ rfl,rfl,rfl⟩,fun b hb=>?_,q⟩
 have e:b=s1.heap.objs.size:=by simpa using hb
 subst e
 exact I1.fpOk (Nat.le_refl _) (I1.hok.fresh (Nat.le_refl _))
theorem range_it {pins:List (Addr×Obj)} {σ:St} {H:Hp} {s:Shared} {R:It->Hp->Prop} {E:Value->Shared->Prop} {lo hi:Int} {t u v:Tok} {tk:Nat} (I:Inv X pins σ H s) (h1: -(2 ^ 62)<=lo) (h2:lo<2 ^ 62) (h3: -(2 ^ 62)<=hi) (h4:hi<2 ^ 62)
  (q:R (Itr lo (hi-lo).toNat) H):wpAny (model X.prog X.w) X.A (pyIter (.ref s.heap.objs.size)) (PIE X pins σ tg R) E {s with heap:=s.heap.push {cls:= .type "range",data:= .fields #[.int lo t,.int hi u,.int 1 v]},toks:=tk}:=by
 refine wpAny_pyIter_range (IsRange.new ..) (small_one h1 h2 h3 h4) ?_
 have I1:Inv X pins σ H {s with heap:=s.heap.push {cls:= .type "range",data:= .fields #[.int lo t,.int hi u,.int 1 v]},toks:=tk}:=I.kept fun b o e=>Heap.get?_push_of_some _ e
 refine⟨(s.heap.push {cls:= .type "range",data:= .fields #[.int lo t,.int hi u,.int 1 v]}).objs.size,[(s.heap.push {cls:= .type "range",data:= .fields #[.int lo t,.int hi u,.int 1 v]}).objs.size],_,_,H,rfl,
  I1.kept (t':=tk) fun b o e=>Heap.get?_push_of_some _ e,turn_range _ lo (hi-lo).toNat,?_,fun b hb=>?_,q⟩
 ·have e1:lo+((0:Nat):Int)*1=lo:=by simp
  have e2:(((hi-lo).toNat:Nat):Int)-((0:Nat):Int)=Builtin.Range.rangeSize lo hi 1:=by rw [rangeSize_one];split<;>omega
  show IsRangeIter _ _ (lo+((0:Nat):Int)*1) ((((hi-lo).toNat:Nat):Int)-((0:Nat):Int)) 1
  rw [e1,e2]
  exact Heap.get?_push_size _ rfl
 ·have e:b=(s.heap.push {cls:= .type "range",data:= .fields #[.int lo t,.int hi u,.int 1 v]}).objs.size:=by simpa using hb
  subst e
  exact I1.fpOk (Nat.le_refl _) (I1.hok.fresh (Nat.le_refl _))
def iRng1 (ta:TA):TI:=fun σ H R=>ta σ H fun vs H1=>∃j:Int,vs=[.int j]/\ -(2 ^ 62)<=j/\j<2 ^ 62/\R (Itr 0 j.toNat) H1
theorem pi_range1 {a:Expr} {ta:TA} {p pos:Pos} (hg:Gl X "range") (hm:X.mg "range"=none) (ha:PA X [a] ta) (hs:starEach [a] X.env=[(false,eval a X.env)]:=by rfl):PI X tg (.Call (.Name "range" p) [a] [] pos) (iRng1 ta):=by
 intro pins s σ H R I h
 refine Call_ (ld_blt I hg hm boot_range (PyProof.Rows.callWith_type1 (thn (ha pos pins s σ H _ I h) fun us s1 ⟨vs,H1,I1,r1,q1⟩=>?_) hs rfl))
 obtain⟨j,e,q1,q2,q⟩:=q1
 subst e
 cases r1 with
 |cons r rr=>
  cases rr
  obtain⟨t,rfl⟩:=r
  exact call_range_1 (range_it I1 (by omega) (by omega) q1 q2 (by simpa using q))
def tFor (wi:TI) (g:TG) (tb:TS):TS:=fun D σ H=>wi σ H fun J H1=>∃W:Nat->Nat->St->Hp->Prop,(∃m,W 0 m σ H1)/\∀i m σ H,W i m σ H->
 (J.stop i H/\D.nx σ H)∨(J.go i H/\∃N:St->Hp->Prop,(∀σ' H',N σ' H'->∃m',m'<m/\W (i+1) m' σ' H')/\∀x H',J.yld i H x H'->g x σ H' fun σ2 H2=>tb {D with nx:=N,ct:=N,bk:=D.nx} σ2 H2)
def pinsAt (fp:List Addr) (h:Heap):List (Addr×Obj):=fp.filterMap fun b=>(h.get? b).map fun o=>(b,o)
theorem mem_pinsAt {fp:List Addr} {h:Heap} {b:Addr} {o:Obj} (hb:b∈fp) (e:h.get? b=some o):(b,o)∈pinsAt fp h:=List.mem_filterMap.mpr ⟨b,hb,by rw [e];rfl⟩
theorem of_pinsAt {fp:List Addr} {h:Heap} {p:Addr×Obj} (hp:p∈pinsAt fp h):p.1∈fp/\h.get? p.1=some p.2:=by
 obtain⟨b,hb,e⟩:=List.mem_filterMap.mp hp
 cases q:h.get? b with
 |none=>rw [q]at e;cases e
 |some o=>
  rw [q]at e
  have e':(b,o)=p:=Option.some.inj e
  subst e'
  exact⟨hb,q⟩
theorem Inv.pinned {pins:List (Addr×Obj)} {σ:St} {H:Hp} {s:Shared} {fp:List Addr} (I:Inv X pins σ H s) (hf:∀b∈fp,FpOk X pins H b) (ho:∀b∈fp,∃o,s.heap.get? b=some o/\∀v,o.data≠ .cell v):Inv X (pins++pinsAt fp s.heap) σ H s:=
 I.pins_of fun p hp=>(List.mem_append.mp hp).elim (fun z=>I.pin p (List.mem_append_right _ z)) fun z=>by
  obtain⟨hb,e⟩:=of_pinsAt z
  obtain⟨f0,f1,f2,_⟩:=hf p.1 hb
  obtain⟨o,e',d⟩:=ho p.1 hb
  rw [e]at e';cases e'
  exact⟨e,f0,f1,f2,d⟩
theorem Inv.unpinned {pins pl:List (Addr×Obj)} {σ:St} {H:Hp} {s:Shared} (I:Inv X (pins++pl) σ H s):Inv X pins σ H s:=I.pins_of fun p hp=>I.pin p (List.mem_append_right _ (List.mem_append_left _ hp))
theorem ps_for {iter:Expr} {body:List Stmt} {wi:TI} {g:TG} {tb:TS} {pos:Pos} (hp:PassesOwn (model X.prog X.w) X.A X.env X.xe) (hc:X.calm=true) (hi:PI X tg iter wi) (hg:PG X tg g) (hb:PSs X body tb)
  (hs:∀x,foldedSetIterable iter X.env x=pure x:=by intro _;rfl):PS X (.For tg iter body [] pos) (tFor wi g tb):=by
 intro pins s σ H D I h
 refine wpAny_For (thn (hi pins s σ H _ I h) fun v s1 h1=>thn h1 fun itv s2 h2=>?_) hs
 obtain⟨it,fp,tn,J,H2,e,I2,T,st2,f2,W,⟨m0,w0⟩,turn⟩:=h2
 subst e
 have stat:∀{H':Hp},(∀b∈fp,H' b=none)->∀b∈fp,FpOk X pins H' b:=fun hn b hb=>⟨hn b hb,(f2 b hb).2⟩
 refine codeAny_forLoop_any (fun n s'=>∃i σ' H',Inv X pins σ' H' s'/\tn i s'.heap/\(∀b∈fp,H' b=none)/\W i n σ' H') ?_ m0 ⟨0,σ,H2,I2,st2,fun b hb=>(f2 b hb).1,w0⟩
 rintro n s3 ⟨i,σ3,H3,I3,st3,fr3,w3⟩
 rcases turn i n σ3 H3 w3 with ⟨stop,qn⟩|⟨go,N,hN,step⟩
 ·refine wpAny_passesOwn hp (thn (T.done X rfl rfl rfl hc i pins s3 σ3 H3 X.xe I3 (stat fr3) st3 stop) fun r s4 ⟨hr,I4⟩=>?_)
  subst hr
  exact wpAny_execs_nil ⟨σ3,H3,I4,qn⟩
 ·refine wpAny_passesOwn hp (thn (T.item X rfl rfl rfl hc i pins s3 σ3 H3 X.xe I3 (stat fr3) st3 go) fun r s4 ⟨u,hr,h4⟩=>?_)
  subst hr
  refine wpAny_passesOwn hp (thn h4 fun _ s5 ⟨x,H5,I5,r5,y5,st5,fr5⟩=>?_)
  have I5':=I5.pinned (stat fr5) (T.obj _ _ st5)
  refine wpAny_passesOwn hp (thn (hg _ s5 σ3 H5 x u _ I5' r5 (step x H5 y5)) fun _ s6 ⟨σ6,H6,I6,q6⟩=>?_)
  refine wpAny_passesOwn hp (thn (hb _ s6 σ6 H6 _ I6 q6) fun f s7 q7=>?_)
  have again:∀{σ7:St} {H7:Hp},Inv X (pins++pinsAt fp s5.heap) σ7 H7 s7->N σ7 H7->∃m,m<n/\∃i σ' H',Inv X pins σ' H' s7/\tn i s7.heap/\(∀b∈fp,H' b=none)/\W i m σ' H':=fun{σ7 H7} I7 n7=>by
   obtain⟨m',hm,w7⟩:=hN σ7 H7 n7
   refine⟨m',hm,i+1,σ7,H7,I7.unpinned,T.keep _ _ _ st5 fun b hb o e=>(I7.pin (b,o) (List.mem_append_right _ (List.mem_append_right _ (mem_pinsAt hb e)))).1,fun b hb=>?_,w7⟩
   obtain⟨o,e,d⟩:=T.obj _ _ st5 b hb
   exact(I7.pin (b,o) (List.mem_append_right _ (List.mem_append_right _ (mem_pinsAt hb e)))).2.1
  cases f with
  |next=>obtain⟨σ7,H7,I7,n7⟩:=q7;exact again I7 n7
  |cont=>obtain⟨σ7,H7,I7,n7⟩:=q7;exact again I7 n7
  |brk=>obtain⟨σ7,H7,I7,q7⟩:=q7;exact⟨σ7,H7,I7.unpinned,q7⟩
  |ret v=>obtain⟨x7,σ7,H7,I7,r7,q7⟩:=q7;exact⟨x7,σ7,H7,I7.unpinned,r7,q7⟩
end
theorem for_list {K:PySem.W.Frag} {a:Addr} {xs:List V} {g:TG} {tb:TS} {D:Ends} {σ:St} {H:Hp} (Pv:Nat->St->Hp->Prop) (h0:Pv 0 σ H) (hl:∀i σ H,i<=xs.length->Pv i σ H->SqL K H a xs)
  (hs:∀i x σ H,xs[i]? =some x->Pv i σ H->g x σ H fun σ2 H2=>tb {D with nx:=Pv (i+1),ct:=Pv (i+1),bk:=D.nx} σ2 H2) (hd:∀σ H,Pv xs.length σ H->D.nx σ H):
  ∃W:Nat->Nat->St->Hp->Prop,(∃m,W 0 m σ H)/\∀i m σ H,W i m σ H->
   ((Itl K a).stop i H/\D.nx σ H)∨((Itl K a).go i H/\∃N:St->Hp->Prop,(∀σ' H',N σ' H'->∃m',m'<m/\W (i+1) m' σ' H')/\∀x H',(Itl K a).yld i H x H'->g x σ H' fun σ2 H2=>tb {D with nx:=N,ct:=N,bk:=D.nx} σ2 H2):=by
 refine⟨fun i m σ H=>m=xs.length-i/\i<=xs.length/\Pv i σ H,⟨xs.length,by simp,Nat.zero_le _,h0⟩,?_⟩
 rintro i m σ H ⟨rfl,hi,p⟩
 have q:=hl i σ H hi p
 by_cases hlt:i<xs.length
 ·refine .inr ⟨⟨xs,xs[i],q,by simp [hlt]⟩,Pv (i+1),fun σ' H' p'=>⟨xs.length-(i+1),by omega,rfl,hlt,p'⟩,fun x H' y=>?_⟩
  obtain⟨e,y⟩:=y
  subst e
  exact hs i x σ _ (y xs q) p
 ·have e:i=xs.length:=by omega
  subst e
  exact .inl ⟨⟨xs,q,Nat.le_refl _⟩,hd σ H p⟩
theorem for_range {lo:Int} {n:Nat} {g:TG} {tb:TS} {D:Ends} {σ:St} {H:Hp} (Pv:Nat->St->Hp->Prop) (h0:Pv 0 σ H)
  (hs:∀i σ H,i<n->Pv i σ H->g (.int (lo+i)) σ H fun σ2 H2=>tb {D with nx:=Pv (i+1),ct:=Pv (i+1),bk:=D.nx} σ2 H2) (hd:∀σ H,Pv n σ H->D.nx σ H):
  ∃W:Nat->Nat->St->Hp->Prop,(∃m,W 0 m σ H)/\∀i m σ H,W i m σ H->
   ((Itr lo n).stop i H/\D.nx σ H)∨((Itr lo n).go i H/\∃N:St->Hp->Prop,(∀σ' H',N σ' H'->∃m',m'<m/\W (i+1) m' σ' H')/\∀x H',(Itr lo n).yld i H x H'->g x σ H' fun σ2 H2=>tb {D with nx:=N,ct:=N,bk:=D.nx} σ2 H2):=by
 refine⟨fun i m σ H=>m=n-i/\i<=n/\Pv i σ H,⟨n,by simp,Nat.zero_le _,h0⟩,?_⟩
 rintro i m σ H ⟨rfl,hi,p⟩
 by_cases hlt:i<n
 ·refine .inr ⟨hlt,Pv (i+1),fun σ' H' p'=>⟨n-(i+1),by omega,rfl,hlt,p'⟩,fun x H' y=>?_⟩
  obtain⟨e,y⟩:=y
  subst e y
  exact hs i σ _ hlt p
 ·have e:i=n:=by omega
  subst e
  exact .inl ⟨Nat.le_refl _,hd σ H p⟩
end L2
namespace L2
open PySem PySem.Spec PyProof.Rows
abbrev R2:=V->V->Hp->VK->Prop
def OpR (X:Cx) (f:Value->Value->Sem Value) (r:R2):Prop:=
 ∀(pins:List (Addr×Obj)) (s:Shared) (σ:St) (H:Hp) (x y:V) (v u:Value) (Q:VK),Inv X pins σ H s->RelV x v->RelV y u->r x y H Q->
  wpAny (model X.prog X.w) X.A (f v u) (EP X pins σ Q) X.xe s
def UnR (X:Cx) (f:Value->Sem Value) (r:V->Hp->VK->Prop):Prop:=
 ∀(pins:List (Addr×Obj)) (s:Shared) (σ:St) (H:Hp) (x:V) (v:Value) (Q:VK),Inv X pins σ H s->RelV x v->r x H Q->
  wpAny (model X.prog X.w) X.A (f v) (EP X pins σ Q) X.xe s
def CallR (X:Cx) (f:Value) (r:List V->Hp->VK->Prop):Prop:=
 ∀(pins:List (Addr×Obj)) (s:Shared) (σ:St) (H:Hp) (xs:List V) (us:List Value) (Q:VK),Inv X pins σ H s->Vals xs us->r xs H Q->
  wpAny (model X.prog X.w) X.A (call f us) (EP X pins σ Q) X.xe s
def tOp (r:R2) (ta tb:TE):TE:=fun σ H Q=>ta σ H fun x H1=>tb σ H1 fun y H2=>r x y H2 Q
def tUn (r:V->Hp->VK->Prop) (ta:TE):TE:=fun σ H Q=>ta σ H fun x H1=>r x H1 Q
def rI (C:Int->Int->Prop) (g:Int->Int->V):R2:=fun x y H Q=>∃i j,x= .int i/\y= .int j/\C i j/\Q (g i j) H
def rI0 (g:Int->Int->V):R2:=fun x y H Q=>∃i j,x= .int i/\y= .int j/\Q (g i j) H
def rU (g:Int->V):V->Hp->VK->Prop:=fun x H Q=>∃i,x= .int i/\Q (g i) H
section
variable {X:Cx} {a b c:Expr} {ta tb tc:TE} {pos:Pos}
theorem binT (ha:PE X a ta) (hb:PE X b tb) {pins:List (Addr×Obj)} {s:Shared} {σ:St} {H:Hp} {R:V->V->Hp->Prop} (I:Inv X pins σ H s)
  (h:ta σ H fun x H1=>tb σ H1 fun y H2=>R x y H2) {Q:Value->Shared->Prop} {f:Value->Value->Sem Value}
  (hf:∀v u s2 x y H2,Inv X pins σ H2 s2->RelV x v->RelV y u->R x y H2->wpAny (model X.prog X.w) X.A (f v u) Q X.xe s2):
  wpAny (model X.prog X.w) X.A (eval a X.env) (fun v s₁=>wpAny (model X.prog X.w) X.A (eval b X.env) (fun u s₂=>wpAny (model X.prog X.w) X.A (f v u) Q X.xe s₂) X.xe s₁) X.xe s:=by
 refine thn (ha pins s σ H _ I h) fun v s1 ⟨x,H1,I1,r1,q1⟩=>?_
 refine thn (hb pins s1 σ H1 _ I1 q1) fun u s2 ⟨y,H2,I2,r2,q2⟩=>?_
 exact hf v u s2 x y H2 I2 r1 r2 q2
theorem pe_op {op:Operator} {r:R2} (ho:OpR X (binaryOp op) r) (ha:PE X a ta) (hb:PE X b tb):PE X (.BinOp a op b pos) (tOp r ta tb):=by
 intro pins s σ H Q I h
 exact wpAny_BinOp (binT ha hb I h fun v u s2 x y H2 I2 rx ry q=>ho pins s2 σ H2 x y v u Q I2 rx ry q)
theorem pe_un {op:UnaryOp} {r:V->Hp->VK->Prop} (ho:UnR X (unaryOp op) r) (ha:PE X a ta):PE X (.UnaryOp op a pos) (tUn r ta):=by
 intro pins s σ H Q I h
 exact UnaryOp_ (thn (ha pins s σ H _ I h) fun v s1 ⟨x,H1,I1,r1,q1⟩=>ho pins s1 σ H1 x v Q I1 r1 q1)
theorem opI {f:Value->Value->Sem Value} {C:Int->Int->Prop} {g:Int->Int->Int}
  (rule:∀(i j:Int) (t u:Tok) (s:Shared) (Q:Value->Shared->Prop) (E:Value->Shared->Prop),C i j->Q (.int (g i j) s.toks) {s with toks:=s.toks+1}->wpAny (model X.prog X.w) X.A (f (.int i t) (.int j u)) Q E s):
  OpR X f (rI C fun i j=> .int (g i j)):=by
 intro pins s σ H x y v u Q I rx ry h
 obtain⟨i,j,rfl,rfl,hc,q⟩:=h
 obtain⟨t,rfl⟩:=rx
 obtain⟨t',rfl⟩:=ry
 exact rule i j t t' s _ _ hc ⟨.int (g i j),H,I.tok _,⟨_,rfl⟩,q⟩
theorem opI0 {f:Value->Value->Sem Value} {g:Int->Int->Int}
  (rule:∀(i j:Int) (t u:Tok) (s:Shared) (Q:Value->Shared->Prop) (E:Value->Shared->Prop),Q (.int (g i j) s.toks) {s with toks:=s.toks+1}->wpAny (model X.prog X.w) X.A (f (.int i t) (.int j u)) Q E s):
  OpR X f (rI0 fun i j=> .int (g i j)):=by
 intro pins s σ H x y v u Q I rx ry h
 obtain⟨i,j,rfl,rfl,q⟩:=h
 obtain⟨t,rfl⟩:=rx
 obtain⟨t',rfl⟩:=ry
 exact rule i j t t' s _ _ ⟨.int (g i j),H,I.tok _,⟨_,rfl⟩,q⟩
theorem opB0 {f:Value->Value->Sem Value} {g:Int->Int->Bool}
  (rule:∀(i j:Int) (t u:Tok) (s:Shared) (Q:Value->Shared->Prop) (E:Value->Shared->Prop),Q (.bool (g i j)) s->wpAny (model X.prog X.w) X.A (f (.int i t) (.int j u)) Q E s):
  OpR X f (rI0 fun i j=> .bl (g i j)):=by
 intro pins s σ H x y v u Q I rx ry h
 obtain⟨i,j,rfl,rfl,q⟩:=h
 obtain⟨t,rfl⟩:=rx
 obtain⟨t',rfl⟩:=ry
 exact rule i j t t' s _ _ ⟨.bl (g i j),H,I,rfl,q⟩
def CDiv (i j:Int):Prop:=0<j/\j<1073741824
def CPow (i j:Int):Prop:=0<=j/\j<=1000000/\i.natAbs<2 ^ 64
def CMul (i j:Int):Prop:=(-(2 ^ 64)<i/\i<2 ^ 64)∨(-(2 ^ 64)<j/\j<2 ^ 64)
theorem CMul.ok {i j:Int} (h:CMul i j):IntMulOk i j:=by
 rcases h with ⟨h1,h2⟩|⟨h1,h2⟩
 ·exact .of_left (intBits_le_64 h1 h2)
 ·exact .of_right (intBits_le_64 h1 h2)
theorem op_add:OpR X (binaryOp .Add) (rI0 fun i j=> .int (i+j)):=opI0 fun _ _ _ _ _ _ _ q=>add_int q
theorem op_sub:OpR X (binaryOp .Sub) (rI0 fun i j=> .int (i-j)):=opI0 fun _ _ _ _ _ _ _ q=>sub_int q
theorem op_mul:OpR X (binaryOp .Mult) (rI CMul fun i j=> .int (i*j)):=opI fun _ _ _ _ _ _ _ hc q=>mul_int q hc.ok
theorem op_fdiv:OpR X (binaryOp .FloorDiv) (rI CDiv fun i j=> .int (i / j)):=opI fun i j _ _ _ _ _ hc q=>by
 have h1:(0:Int)<j:=hc.1
 have h2:j<1073741824:=hc.2
 exact floordiv_int (by omega) (by rw [Int.fdiv_eq_ediv_of_nonneg i (by omega)];exact q) (.inl (PyProof.noPylong_small (by omega)))
theorem op_mod:OpR X (binaryOp .Mod) (rI (fun _ j=>0<j) fun i j=> .int (i % j)):=opI fun i j _ _ _ _ _ hc q=>by
 have h1:(0:Int)<j:=hc
 exact mod_int' (by omega) (by rw [Int.fmod_eq_emod_of_nonneg i (by omega)];exact q)
theorem op_pow:OpR X (binaryOp .Pow) (rI CPow fun i j=> .int (i ^ j.toNat)):=opI fun _ _ _ _ _ _ _ hc q=>pow_int_small hc.1 hc.2.1 hc.2.2 q
theorem unI {f:Value->Sem Value} {g:Int->Int}
  (rule:∀(i:Int) (t:Tok) (s:Shared) (Q:Value->Shared->Prop) (E:Value->Shared->Prop),Q (.int (g i) s.toks) {s with toks:=s.toks+1}->wpAny (model X.prog X.w) X.A (f (.int i t)) Q E s):
  UnR X f (rU fun i=> .int (g i)):=by
 intro pins s σ H x v Q I rx h
 obtain⟨i,rfl,q⟩:=h
 obtain⟨t,rfl⟩:=rx
 exact rule i t s _ _ ⟨.int (g i),H,I.tok _,⟨_,rfl⟩,q⟩
theorem un_neg:UnR X (unaryOp .USub) (rU fun i=> .int (-i)):=unI fun _ _ _ _ _ q=>neg_int q
end
def scal:V->V->Bool
 | .non,.non=>true| .non,.int _=>true| .int _,.non=>true| .non,.bl _=>true| .bl _,.non=>true| .non,.str _=>true| .str _,.non=>true
 | .int _,.int _=>true| .bl _,.bl _=>true| .str _,.str _=>true| .byt _,.byt _=>true
 | .int _,.str _=>true| .str _,.int _=>true| .bl _,.str _=>true| .str _,.bl _=>true
 |_,_=>false
def rEq:R2:=fun x y H Q=>scal x y=true/\Q (.bl (decide (x=y))) H
def rNe:R2:=fun x y H Q=>scal x y=true/\Q (.bl (!decide (x=y))) H
theorem dec_int {i j:Int}:decide (V.int i=V.int j)=(i==j):=by
 rw [Bool.eq_iff_iff]
 simp
theorem dec_bl {i j:Bool}:decide (V.bl i=V.bl j)=(i==j):=by
 rw [Bool.eq_iff_iff]
 simp
theorem dec_str {i j:Str}:decide (V.str i=V.str j)=(i==j):=by
 rw [Bool.eq_iff_iff]
 simp
theorem dec_byt {i j:Array UInt8}:decide (V.byt i=V.byt j)=(i.toList==j.toList):=by
 rw [Bool.eq_iff_iff]
 cases i
 cases j
 simp
section
variable {X:Cx} {a b c:Expr} {ta tb tc:TE} {pos:Pos}
theorem fin_bl {pins:List (Addr×Obj)} {σ:St} {H:Hp} {s:Shared} {Q:VK} {k k':Bool} (I:Inv X pins σ H s) (q:Q (.bl k) H) (e:k=k'):EP X pins σ Q (.bool k') s:=by
 subst e
 exact⟨.bl k,H,I,rfl,q⟩
theorem op_eq:OpR X (compareOp .Eq) rEq:=by
 intro pins s σ H x y v u Q I rx ry h
 obtain⟨hs,q⟩:=h
 cases x with
 |non=>
  cases rx
  cases y with
  |non=>cases ry;exact PySem.EqNone.eq_none_none (fin_bl I q (by simp))
  |bl j=>cases ry;exact PySem.EqNone.eq_none_bool (fin_bl I q (by simp))
  |int j=>obtain⟨t',rfl⟩:=ry;exact PySem.EqNone.eq_none_int (fin_bl I q (by simp))
  |str j=>obtain⟨t',rfl⟩:=ry;exact PySem.EqNone.eq_none_str (fin_bl I q (by simp))
  |_=>exact absurd (show false=true from hs) Bool.false_ne_true
 |bl i=>
  cases rx
  cases y with
  |non=>cases ry;exact PySem.EqNone.eq_bool_none (fin_bl I q (by simp))
  |bl j=>cases ry;exact eq_bool (fin_bl I q dec_bl)
  |str j=>obtain⟨t',rfl⟩:=ry;exact PySem.EqMixed.eq_bool_str (fin_bl I q (by simp))
  |_=>exact absurd (show false=true from hs) Bool.false_ne_true
 |int i=>
  obtain⟨t,rfl⟩:=rx
  cases y with
  |non=>cases ry;exact PySem.EqNone.eq_int_none (fin_bl I q (by simp))
  |int j=>obtain⟨t',rfl⟩:=ry;exact eq_int (fin_bl I q dec_int)
  |str j=>obtain⟨t',rfl⟩:=ry;exact PySem.EqMixed.eq_int_str (fin_bl I q (by simp))
  |_=>exact absurd (show false=true from hs) Bool.false_ne_true
 |str i=>
  obtain⟨t,rfl⟩:=rx
  cases y with
  |non=>cases ry;exact PySem.EqNone.eq_str_none (fin_bl I q (by simp))
  |bl j=>cases ry;exact PySem.EqMixed.eq_str_bool (fin_bl I q (by simp))
  |int j=>obtain⟨t',rfl⟩:=ry;exact PySem.EqMixed.eq_str_int (fin_bl I q (by simp))
  |str j=>obtain⟨t',rfl⟩:=ry;exact eq_str (fin_bl I q dec_str)
  |_=>exact absurd (show false=true from hs) Bool.false_ne_true
 |byt i=>
  obtain⟨t,rfl⟩:=rx
  cases y with
  |byt j=>obtain⟨t',rfl⟩:=ry;exact PySem.W.eq_bytes (fin_bl I q dec_byt)
  |_=>exact absurd (show false=true from hs) Bool.false_ne_true
 |_=>cases y<;>exact absurd (show false=true from hs) Bool.false_ne_true
theorem op_ne:OpR X (compareOp .NotEq) rNe:=by
 intro pins s σ H x y v u Q I rx ry h
 obtain⟨hs,q⟩:=h
 cases x with
 |non=>
  cases rx
  cases y with
  |non=>cases ry;exact PySem.EqNone.ne_none_none (fin_bl I q (by simp))
  |bl j=>cases ry;exact PySem.EqNone.ne_none_bool (fin_bl I q (by simp))
  |int j=>obtain⟨t',rfl⟩:=ry;exact PySem.EqNone.ne_none_int (fin_bl I q (by simp))
  |str j=>obtain⟨t',rfl⟩:=ry;exact PySem.EqNone.ne_none_str (fin_bl I q (by simp))
  |_=>exact absurd (show false=true from hs) Bool.false_ne_true
 |bl i=>
  cases rx
  cases y with
  |non=>cases ry;exact PySem.EqNone.ne_bool_none (fin_bl I q (by simp))
  |bl j=>cases ry;exact ne_bool (fin_bl I q (congrArg not dec_bl))
  |str j=>obtain⟨t',rfl⟩:=ry;exact PySem.EqMixed.ne_bool_str (fin_bl I q (by simp))
  |_=>exact absurd (show false=true from hs) Bool.false_ne_true
 |int i=>
  obtain⟨t,rfl⟩:=rx
  cases y with
  |non=>cases ry;exact PySem.EqNone.ne_int_none (fin_bl I q (by simp))
  |int j=>obtain⟨t',rfl⟩:=ry;exact ne_int (fin_bl I q (congrArg not dec_int))
  |str j=>obtain⟨t',rfl⟩:=ry;exact PySem.EqMixed.ne_int_str (fin_bl I q (by simp))
  |_=>exact absurd (show false=true from hs) Bool.false_ne_true
 |str i=>
  obtain⟨t,rfl⟩:=rx
  cases y with
  |non=>cases ry;exact PySem.EqNone.ne_str_none (fin_bl I q (by simp))
  |bl j=>cases ry;exact PySem.EqMixed.ne_str_bool (fin_bl I q (by simp))
  |int j=>obtain⟨t',rfl⟩:=ry;exact PySem.EqMixed.ne_str_int (fin_bl I q (by simp))
  |str j=>obtain⟨t',rfl⟩:=ry;exact ne_str (fin_bl I q (congrArg not dec_str))
  |_=>exact absurd (show false=true from hs) Bool.false_ne_true
 |byt i=>
  obtain⟨t,rfl⟩:=rx
  cases y with
  |byt j=>obtain⟨t',rfl⟩:=ry;exact PySem.W.ne_bytes (fin_bl I q (congrArg not dec_byt))
  |_=>exact absurd (show false=true from hs) Bool.false_ne_true
 |_=>cases y<;>exact absurd (show false=true from hs) Bool.false_ne_true
theorem op_lt:OpR X (compareOp .Lt) (rI0 fun i j=> .bl (decide (i<j))):=opB0 fun _ _ _ _ _ _ _ q=>lt_int q
theorem op_le:OpR X (compareOp .LtE) (rI0 fun i j=> .bl (decide (i<=j))):=opB0 fun _ _ _ _ _ _ _ q=>le_int q
theorem op_gt:OpR X (compareOp .Gt) (rI0 fun i j=> .bl (decide (j<i))):=opB0 fun _ _ _ _ _ _ _ q=>gt_int q
theorem op_ge:OpR X (compareOp .GtE) (rI0 fun i j=> .bl (decide (j<=i))):=opB0 fun _ _ _ _ _ _ _ q=>ge_int q
theorem op_isN:OpR X (compareOp .Is) (fun x y H Q=>y= .non/\Q (.bl (decide (x= .non))) H):=by
 intro pins s σ H x y v u Q I rx ry h
 obtain⟨rfl,q⟩:=h
 cases ry
 refine is_none_gen (fin_bl I q ?_)
 cases x<;>first
  |(cases rx;rfl)
  |(obtain⟨t,rfl⟩:=rx;rfl)
theorem op_notN:OpR X (compareOp .IsNot) (fun x y H Q=>y= .non/\Q (.bl (!decide (x= .non))) H):=by
 intro pins s σ H x y v u Q I rx ry h
 obtain⟨rfl,q⟩:=h
 cases ry
 refine isnot_none_gen (fin_bl I q ?_)
 cases x<;>first
  |(cases rx;rfl)
  |(obtain⟨t,rfl⟩:=rx;rfl)
theorem nomark (b:Expr) {op:CmpOp} (h:op≠ .In:=by decide) (h2:op≠ .NotIn:=by decide):behindInMarks op b=false:=by
 have e1:(op==CmpOp.In)=false:=by cases op<;>first|rfl|exact absurd rfl h
 have e2:(op==CmpOp.NotIn)=false:=by cases op<;>first|rfl|exact absurd rfl h2
 cases b<;>simp [behindInMarks,e1,e2]
theorem pe_cmpR {op:CmpOp} {r:R2} (ho:OpR X (compareOp op) r) (ha:PE X a ta) (hb:PE X b tb) (hm:behindInMarks op b=false):PE X (.Compare a [op] [b] pos) (tOp r ta tb):=by
 intro pins s σ H Q I h
 exact wpAny_Compare1 (binT ha hb I h fun v u s2 x y H2 I2 rx ry q=>ho pins s2 σ H2 x y v u Q I2 rx ry q) hm
def tTest (t:TE):TT:=fun σ H Q=>t σ H fun x H'=>∃k,x= .bl k/\Q k H'
theorem pt_cmpR {op:CmpOp} {r:R2} (ho:OpR X (compareOp op) r) (ha:PE X a ta) (hb:PE X b tb) (hm:behindInMarks op b=false):PT X (.Compare a [op] [b] pos) (tTest (tOp r ta tb)):=by
 intro pins s σ H Q I h
 refine wpAny_isTrue_Compare1 (thn (ha pins s σ H _ I h) fun v s1 ⟨x,H1,I1,r1,q1⟩=>thn (hb pins s1 σ H1 _ I1 q1) fun u s2 ⟨y,H2,I2,r2,q2⟩=>
  thn (ho pins s2 σ H2 x y v u _ I2 r1 r2 q2) fun c s3 ⟨z,H3,I3,r3,k,e,q3⟩=>?_) hm
 subst e
 cases r3
 exact wpAny_truthy_bool ⟨H3,I3,q3⟩
def tChain (r r':R2) (ta tb tc:TE):TE:=fun σ H Q=>ta σ H fun x H1=>tb σ H1 fun y H2=>r x y H2 fun z H3=>∃k,z= .bl k/\
 (if k=true then tc σ H3 fun w' H4=>r' y w' H4 Q else Q (.bl false) H3)
theorem pe_chain {op op':CmpOp} {r r':R2} (ho:OpR X (compareOp op) r) (ho':OpR X (compareOp op') r') (ha:PE X a ta) (hb:PE X b tb) (hc:PE X c tc)
  (hm:lastMarks [op,op'] [b,c]=false:=by with_unfolding_all rfl):PE X (.Compare a [op,op'] [b,c] pos) (tChain r r' ta tb tc):=by
 intro pins s σ H Q I h
 refine Compare_chain (thn (ha pins s σ H _ I h) fun v s1 ⟨x,H1,I1,r1,q1⟩=>chain_link (thn (hb pins s1 σ H1 _ I1 q1) fun u s2 ⟨y,H2,I2,r2,q2⟩=>
  thn (ho pins s2 σ H2 x y v u _ I2 r1 r2 q2) fun d s3 ⟨z,H3,I3,r3,k,e,q3⟩=>?_)) hm
 subst e
 cases r3
 refine wpAny_truthy_bool ?_
 cases k with
 |false=>exact ite_ff ⟨.bl false,H3,I3,rfl,q3⟩
 |true=>exact ite_tt (chain_last (thn (hc pins s3 σ H3 _ I3 q3) fun w' s4 ⟨z',H4,I4,r4,q4⟩=>ho' pins s4 σ H4 y z' u w' Q I4 r2 r4 q4))
theorem line63:(sizeLine:Nat)<2 ^ 63:=by rw [sizeLine_eq];decide
theorem vals1 {x:V} {us:List Value} (r:Vals [x] us):∃u,us=[u]/\RelV x u:=by
 cases r with
 |cons r1 r2=>cases r2;exact⟨_,rfl,r1⟩
theorem vals2 {x y:V} {us:List Value} (r:Vals [x,y] us):∃u w',us=[u,w']/\RelV x u/\RelV y w':=by
 cases r with
 |cons r1 r2=>
  cases r2 with
  |cons r3 r4=>cases r4;exact⟨_,_,rfl,r1,r3⟩
theorem call_max2 (hc:X.calm=true):CallR X (.builtin "max") (fun xs H Q=>∃i j,xs=[.int i,.int j]/\Q (.int (if j>i then j else i)) H):=by
 intro pins s σ H xs us Q I r h
 obtain⟨i,j,rfl,q⟩:=h
 obtain⟨u,w',rfl,⟨t,rfl⟩,⟨t',rfl⟩⟩:=vals2 r
 refine max_two_ints (I.ok.hd hc) fun h' tk k=>⟨_,H,I.kept k,?_,q⟩
 by_cases hj:j>i
 ·rw [if_pos hj,if_pos hj];exact⟨_,rfl⟩
 ·rw [if_neg hj,if_neg hj];exact⟨_,rfl⟩
theorem call_min2 (hc:X.calm=true):CallR X (.builtin "min") (fun xs H Q=>∃i j,xs=[.int i,.int j]/\Q (.int (if j<i then j else i)) H):=by
 intro pins s σ H xs us Q I r h
 obtain⟨i,j,rfl,q⟩:=h
 obtain⟨u,w',rfl,⟨t,rfl⟩,⟨t',rfl⟩⟩:=vals2 r
 refine min_two_ints (I.ok.hd hc) fun h' tk k=>⟨_,H,I.kept k,?_,q⟩
 by_cases hj:j<i
 ·rw [if_pos hj,if_pos hj];exact⟨_,rfl⟩
 ·rw [if_neg hj,if_neg hj];exact⟨_,rfl⟩
theorem call_int1:CallR X (.type "int") (fun xs H Q=>(∃i,xs=[.int i]/\Q (.int i) H)∨∃k,xs=[.bl k]/\Q (.int (if k then 1 else 0)) H):=by
 intro pins s σ H xs us Q I r h
 rcases h with ⟨i,rfl,q⟩|⟨k,rfl,q⟩
 ·obtain⟨u,rfl,t,rfl⟩:=vals1 r
  exact call_int_int ⟨.int i,H,I,⟨_,rfl⟩,q⟩
 ·obtain⟨u,rfl,r1⟩:=vals1 r
  cases r1
  exact call_int_bool ⟨.int (if k then 1 else 0),H,I.tok _,⟨_,rfl⟩,q⟩
end
end L2
namespace L2
open PySem PySem.Spec PyProof.Rows
structure ObjM (h:Heap) (x dx C:Addr) (mA:Str->Option Value):Prop where
 obj:h.get? x=some (PySem.W.instObj C dx)
 ns:h.Ns1 dx mA
 ne:dx≠x
theorem lookIn_ns {h:Heap} {dx:Addr} {mA:Str->Option Value} (n:h.Ns1 dx mA):∃od,h.get? dx=some od/\∀name,PySem.W.lookIn name od=some (mA name):=by
 obtain⟨o,es,ep,ho,hd,hk,_,hm⟩:=n
 refine⟨o,ho,fun name=>?_⟩
 have e:=hm name
 unfold nsFind findBy at e
 rw [<-Array.find?_toList]at e
 unfold PySem.W.lookIn
 rw [hd]
 dsimp only
 split
 ·rename_i y q
  rw [q]at e
  exact congrArg some e
 ·rename_i q
  rw [q]at e
  have a:es.toList.any (·.refKey)=false:=by
   rw [List.any_eq_false]
   intro y hy
   obtain⟨z,t,hkey⟩:=hk y (Array.mem_toList_iff.mp hy)
   simp [DictEntry.refKey,hkey]
  have a':¬es.toList.any (·.refKey)=true:=by rw [a];exact Bool.false_ne_true
  rw [if_neg a']
  exact congrArg some e
theorem ObjM.look {h:Heap} {x dx C:Addr} {mA:Str->Option Value} (I:ObjM h x dx C mA):∃od,PySem.W.InstAt h x (PySem.W.instObj C dx) C (some od)/\∀name,PySem.W.lookIn name od=some (mA name):=
 let⟨od,ho,hl⟩:=lookIn_ns I.ns
 ⟨od,⟨I.obj,rfl,rfl,ho⟩,hl⟩
section
variable {prog:Program} {w:World} {A:Around} {E:Value->Shared->Prop} {s:Shared} {K:PySem.W.Frag} {x dx C f:Addr} {mA:Str->Option Value} {name:Str} {v:Value}
end
theorem RelO.some_of {v:V} {o:Option Value} (r:RelO (some v) o):∃u,o=some u/\RelV v u:=by
 cases o with
 |none=>exact(show False from r).elim
 |some u=>exact⟨u,rfl,r⟩
section
variable {P:Program} {w:World} {H H':Hp} {h h':Heap} {a C dx:Addr} {fs fs':List (Str×V)}
theorem ins_get (hok:HOk P w H h) (e:H a=some (.ins C dx fs)):∃mA,ObjM h a dx C mA/\(∀f,RelO (fs.lookup f) (mA f))/\PySem.Within mA (fs.map (·.1))/\fs.length<=1000/\H dx=some (.own a):=by
 obtain⟨d,z,ne,ob,mA,n,r,q⟩:=(show ObjOk P w H h a (.ins C dx fs)from hok a _ e)
 exact⟨mA,⟨ob,n,ne⟩,r,q,z,d⟩
end
structure Cls (K:PySem.W.Frag) (C:Addr):Prop where
 pg:PySem.W.plainGet K C Str.empty=true
 hd:PySem.W.hasDictIn K C=true
 po:PySem.W.plainOver K C=true
 sa:PySem.W.findIn K (.ref C) "__setattr__"=some (some (.builtin "object.__setattr__"))
theorem Cls.get {K:PySem.W.Frag} {C:Addr} (c:Cls K C) (f:Str):PySem.W.plainGet K C f=true:=c.pg
section
variable {X:Cx} {pins:List (Addr×Obj)} {σ:St} {H:Hp} {s:Shared} {a C dx:Addr} {fs:List (Str×V)} {f:Str} {v:V} {A:Around} {E:Value->Shared->Prop}
end
section
variable {X:Cx} {o e value:Expr} {f:Str} {pos pos' tpos:Pos} {ta tv:TE}
end
section
variable {X:Cx} {pins:List (Addr×Obj)} {σ:St} {H:Hp} {s:Shared} {A:Around} {E:Value->Shared->Prop} {Q:Value->Shared->Prop} {c:Value} {b:Bool}
inductive TyOf (K:PySem.W.Frag) (H:Hp):V->Value->Prop where
 |non:TyOf K H .non (.type "NoneType")
 |bl (x:Bool):TyOf K H (.bl x) (.type "bool")
 |int (i:Int):TyOf K H (.int i) (.type "int")
 |str (x:Str):TyOf K H (.str x) (.type "str")
 |flt (x:UInt64):TyOf K H (.flt x) (.type "float")
 |lst {a:Addr} {xs:List V} (e:H a=some (.lst xs)):TyOf K H (.ref a) (.type "list")
 |frz {a:Addr} {o:Obj} {xs:List V} (e:H a=some (.frz o (.lst xs))):TyOf K H (.ref a) (.type "list")
 |tup {a:Addr} {xs:List V} (e:H a=some (.tup xs)):TyOf K H (.ref a) (.type "tuple")
 |dK {a:Addr} {kvs:List (Key×V)} (e:H a=some (.dK kvs)):TyOf K H (.ref a) (.type "dict")
 |dT {a:Addr} {kvs:List (List Key×V)} (e:H a=some (.dT kvs)):TyOf K H (.ref a) (.type "dict")
 |ins {a C dx:Addr} {fs:List (Str×V)} (e:H a=some (.ins C dx fs)) (cl:Cls K C) (ha:PySem.W.findIn K (.ref C) "__class__"=some (some (.builtin "object.__class__")))
   (hn:PySem.W.specialIn K (.builtin "object.__class__") "__get__"=some (some (.builtin "getset_descriptor.__get__"))) (htk:PySem.W.takesIn K (.builtin "object.__class__")=some true)
   (hm:PySem.W.mroIn K C (.type "object")=some true):TyOf K H (.ref a) (.ref C)
theorem isinst_ok {x:V} {u t:Value} (I:Inv X pins σ H s) (rx:RelV x u) (ty:TyOf X.K H x t) (e:PySem.W.kitOne X.K t c=some b) (h:∀tk,Q (.bool b) {s with toks:=tk}):
  wpAny (model X.prog X.w) A (call (.builtin "isinstance") [u,c]) Q E s:=by
 cases ty with
 |non=>cases (show u=Value.none from rx);exact PySem.W.kia_one PySem.W.kitx_none I.kIn True.intro e (fun z=>nomatch z) h
 |bl y=>cases (show u=Value.bool y from rx);exact PySem.W.kia_one PySem.W.kitx_bool I.kIn True.intro e (fun z=>nomatch z) h
 |int i=>obtain⟨t,q⟩:=(show∃t,u=Value.int i t from rx);cases q;exact PySem.W.kia_one PySem.W.kitx_int I.kIn True.intro e (fun z=>nomatch z) h
 |str y=>obtain⟨t,q⟩:=(show∃t,u=Value.str y t from rx);cases q;exact PySem.W.kia_one PySem.W.kitx_str I.kIn True.intro e (fun z=>nomatch z) h
 |flt y=>obtain⟨t,q⟩:=(show∃t,u=Value.float y t from rx);cases q;exact PySem.W.kia_one PySem.W.kitx_float I.kIn True.intro e (fun z=>nomatch z) h
 |@lst a xs ea=>
  cases (show u=Value.ref a from rx)
  obtain⟨_,_,n,_,h1⟩:=(show ObjOk X.prog X.w H s.heap a (.lst xs)from I.hok a _ ea)
  exact PySem.W.kia_one PySem.W.kitx_list I.kIn ⟨_,h1,rfl⟩ e (fun z=>nomatch z) h
 |@frz a ob xs ea=>
  cases (show u=Value.ref a from rx)
  obtain⟨_,_,_,n,_,h1⟩:=(show ObjOk X.prog X.w H s.heap a (.frz ob (.lst xs))from I.hok a _ ea)
  exact PySem.W.kia_one PySem.W.kitx_list I.kIn ⟨_,h1,rfl⟩ e (fun z=>nomatch z) h
 |@tup a xs ea=>
  cases (show u=Value.ref a from rx)
  obtain⟨_,_,_,p⟩:=(show ObjOk X.prog X.w H s.heap a (.tup xs)from I.hok a _ ea)
  obtain⟨o,h1,h2,_⟩:=p
  exact PySem.W.kia_one PySem.W.kitx_tuple I.kIn ⟨o,h1,h2⟩ e (fun z=>nomatch z) h
 |@dK a kvs ea=>
  cases (show u=Value.ref a from rx)
  obtain⟨_,_,vs,_,p⟩:=(show ObjOk X.prog X.w H s.heap a (.dK kvs)from I.hok a _ ea)
  obtain⟨o,es,ep,h1,h2,_⟩:=p
  exact PySem.W.kia_one PySem.W.kitx_dict I.kIn ⟨o,h1,h2.1⟩ e (fun z=>nomatch z) h
 |@dT a kvs ea=>
  cases (show u=Value.ref a from rx)
  obtain⟨_,_,xs,_,o,es,ep,h1,h2,_⟩:=(show ObjOk X.prog X.w H s.heap a (.dT kvs)from I.hok a _ ea)
  exact PySem.W.kia_one PySem.W.kitx_dict I.kIn ⟨o,h1,h2.1⟩ e (fun z=>nomatch z) h
 |@ins a C dx fs ea cl ha hn htk hm=>
  cases (show u=Value.ref a from rx)
  obtain⟨mA,O,_⟩:=ins_get I.hok ea
  obtain⟨od,J,_⟩:=O.look
  exact PySem.W.kia_one (PySem.W.kitx_own (cl.get _) cl.hd ha hn htk hm) I.kIn J e (fun z=>nomatch z) h
end
end L2
namespace L2
open PySem PySem.Spec PyProof.Rows
structure Room (k:Nat) (A:Around):Prop where
 hd:A.handled=none
 dp:A.depth+3*k+5<recursionLimit
 un:A.units+16*k+200<cLine
theorem Room.mono {j k:Nat} {A:Around} (r:Room k A) (h:j<=k):Room j A:=⟨r.hd,by have:=r.dp;omega,by have:=r.un;omega⟩
theorem Room.deeper {k:Nat} {A:Around} (r:Room (k+1) A) (env:Env):Room k (A.deeper env):=
 ⟨r.hd,by have:=r.dp;show A.depth+1+3*k+5<_;omega,by have:=r.un;show A.units+3+16*k+200<_;omega⟩
theorem Room.depth {k:Nat} {A:Around} (r:Room k A):A.depth<recursionLimit:=by have:=r.dp;omega
theorem Room.units {k:Nat} {A:Around} (r:Room k A):A.units+64<cLine:=by have:=r.un;omega
def tNil:TA:=fun _ H Q=>Q [] H
def tCons (ta:TE) (tr:TA):TA:=fun σ H Q=>ta σ H fun x H1=>tr σ H1 fun xs H2=>Q (x::xs) H2
section
variable {X:Cx} {e:Expr} {es:List Expr} {te:TE} {t:TA} {pos:Pos}
theorem pa_nil:PA X [] tNil:=fun _ _ _ _ H Q I h=>Calls.spliced_nil ⟨[],H,I,.nil,h⟩
theorem pa_cons (ha:PE X e te) (hr:PA X es t) (hs:starEach (e::es) X.env=(false,eval e X.env)::starEach es X.env:=by rfl):PA X (e::es) (tCons te t):=by
 intro pos pins s σ H Q I h
 rw [hs]
 show wpAny _ _ (spliced ((false,eval e X.env)::backTo pos (starEach es X.env))) _ _ s
 refine Calls.spliced_cons (thn (ha pins s σ H _ I h) fun u s1 ⟨x,H1,I1,r1,q1⟩=>?_)
 exact thn (hr pos pins s1 σ H1 _ I1 q1) fun us s2 ⟨xs,H2,I2,r2,q2⟩=>⟨x::xs,H2,I2,.cons r1 r2,q2⟩
def tTup (t:TA):TE:=fun σ H Q=>t σ H fun xs H1=>xs.length<=sizeLine/\∀p,H1 p=none->Q (.ref p) (upd H1 p (.tup xs))
def tLst (t:TA):TE:=fun σ H Q=>t σ H fun xs H1=>xs.length<=sizeLine/\∀p,H1 p=none->Q (.ref p) (upd H1 p (.lst xs))
theorem pe_tup {x1} (h:PA X es t):PE X (.Tuple es x1 pos) (tTup t):=by
 intro pins s σ H Q I hq
 refine wpAny_Tuple_spliced (thn (h pos pins s σ H _ I hq) fun us s1 ⟨xs,H1,I1,r,z,q⟩=>⟨by rw [<-r.length];exact z,?_⟩)
 have hf:H1 s1.heap.objs.size=none:=I1.hok.fresh (Nat.le_refl _)
 refine⟨.ref s1.heap.objs.size,upd H1 s1.heap.objs.size (.tup xs),I1.laid (t':=s1.toks) (fun b u e=>Heap.get?_push_of_some _ e) (Nat.le_refl _) ?_,rfl,q _ hf⟩
 exact⟨z,us,r,⟨_,Heap.get?_push_size _ rfl,rfl,_,rfl⟩⟩
theorem pe_lst (h:PA X es t):PE X (.List es pos) (tLst t):=by
 intro pins s σ H Q I hq
 refine wpAny_List_spliced (thn (h pos pins s σ H _ I hq) fun us s1 ⟨xs,H1,I1,r,z,q⟩=>⟨by rw [<-r.length];exact z,?_⟩)
 have hf:H1 s1.heap.objs.size=none:=I1.hok.fresh (Nat.le_refl _)
 refine⟨.ref s1.heap.objs.size,upd H1 s1.heap.objs.size (.lst xs),I1.laid (t':=s1.toks) (fun b u e=>Heap.get?_push_of_some _ e) (Nat.le_refl _) ?_,rfl,q _ hf⟩
 exact⟨z,us,0,r,Heap.get?_push_size _ rfl⟩
end
abbrev Sp:=List V->Hp->VK->XK->Prop
abbrev CXT:=List Env->Hp->Shared->XK->Value->Shared->Prop
structure Env0 (P:Program) (w:World) (K:PySem.W.Frag) (mg:Str->Option Value) (base:Heap) (A:Around) (outer:List Env) (s:Shared) (H:Hp):Prop where
 frames:A.frames=some outer
 mod:Mod K mg base
 bs:∀b o,base.get? b=some o->s.heap.get? b=some o/\H b=none
 bsz:base.objs.size<=s.heap.objs.size
 funs:s.heap.FunFrames base outer
 frf:∀b∈frs outer,H b=none
 hok:HOk P w H s.heap
 bare:AllBare s.gens
def CE (outer:List Env) (P:Program) (w:World) (H:Hp) (s:Shared) (Q:VK) (u:Value) (s':Shared):Prop:=
 ∃v H',s'.os=s.os/\AllBare s'.gens/\Un (frs outer) [] H H' s.heap s'.heap/\HOk P w H' s'.heap/\RelV v u/\Q v H'
def CR (CX:CXT) (outer:List Env) (P:Program) (w:World) (H:Hp) (s:Shared) (Q:VK) (E:XK) (r:Result) (s':Shared):Prop:=
 match r with
 | .ok (.ret u)=>CE outer P w H s Q u s'
 | .ok _=>False
 | .error e=>CX outer H s E e s'
structure FnOk (P:Program) (w:World) (K:PySem.W.Frag) (mg:Str->Option Value) (base:Heap) (CX:CXT) (k:Nat) (f:Addr) (fd:FuncData) (ps:List Str) (sp:Sp):Prop where
 len:∀vs H Q E,sp vs H Q E->vs.length=ps.length
 run:∀(A:Around) (outer:List Env) (s:Shared) (H:Hp) (args:Args) (us:List Value) (vs:List V) (Q:VK) (E:XK),Room k A->Env0 P w K mg base A outer s H->BindsTo s fd args (ps.zip us)->Vals vs us->sp vs H Q E->
  codeAny (model P w) A (.call (.ref f) args) (CR CX outer P w H s Q E) s
section
variable {X:Cx} {pins:List (Addr×Obj)} {σ:St} {H:Hp} {s s':Shared}
theorem Inv.env0 (I:Inv X pins σ H s):Env0 X.prog X.w X.K X.mg X.base X.A X.stack s H:=
 ⟨I.ok.frames,I.ok.mod,I.bs,Nat.le_trans I.ok.bsz I.sz,I.stack,I.stkFree,I.hok,I.bare⟩
theorem Inv.after {Q:VK} {u:Value} (I:Inv X pins σ H s) (h:CE X.stack X.prog X.w H s Q u s'):EP X pins σ Q u s':=by
 obtain⟨v,H',os,bare,un,hok,r,q⟩:=h
 obtain⟨hh,g,d,t,os'⟩:=s'
 obtain rfl:os'=s.os:=os
 exact⟨v,H',I.call (h':=hh) (g':=g) (d':=d) (t':=t) (ch:=[]) un hok bare (fun b z=>absurd z (by simp)),r,q⟩
end
def tCall (sp:Sp) (dvs:List V) (E:XK) (t:TA):TE:=fun σ H Q=>t σ H fun vs H1=>sp (vs++dvs) H1 Q E
def Binds (K:PySem.W.Frag) (fd:FuncData) (ps:List Str) (ds:List Value):Prop:=
 ∀(s:Shared) (us:List Value),K.In s.heap->(us++ds).length=ps.length->BindsTo s fd ⟨us,[]⟩ (ps.zip (us++ds))
theorem Binds.all {K:PySem.W.Frag} {fd:FuncData} {ps:List Str} (h:∀us:List Value,us.length=ps.length->bindArgs fd ⟨us,[]⟩=pure (ps.zip us)):Binds K fd ps []:=fun s us _ hl=>by
 rw [List.append_nil]at hl⊢
 exact .of_eq (h us hl)
def Passes (CX:CXT) (X:Cx) (E:XK):Prop:=∀(pins:List (Addr×Obj)) (σ:St) (H:Hp) (s:Shared) (e:Value) (s':Shared),Inv X pins σ H s->CX X.stack H s E e s'->X.xe e s'
section
variable {X:Cx} {CX:CXT} {k:Nat} {f C:Addr} {fd:FuncData} {ps:List Str} {sp:Sp} {dvs:List V} {ds:List Value} {E:XK} {x m:Str} {p pos apos:Pos} {e o:Expr} {es:List Expr} {ta:TE} {t:TA}
theorem run_fn {pins:List (Addr×Obj)} {σ:St} {H:Hp} {s:Shared} {Q:VK} {us:List Value} {vs:List V} (F:FnOk X.prog X.w X.K X.mg X.base CX k f fd ps sp) (hr:Room k X.A) (hb:Binds X.K fd ps ds) (hd:Vals dvs ds) (hx:Passes CX X E)
  (I:Inv X pins σ H s) (r:Vals vs us) (h:sp (vs++dvs) H Q E):wpAny (model X.prog X.w) X.A (call (.ref f) us) (EP X pins σ Q) X.xe s:=by
 have r2:Vals (vs++dvs) (us++ds):=r.append hd
 have hl:(us++ds).length=ps.length:=by rw [<-r2.length];exact F.len _ _ _ _ h
 refine wpAny_call (codeAny_mono (F.run X.A X.stack s H ⟨us,[]⟩ (us++ds) (vs++dvs) Q E hr I.env0 (hb s us I.kIn hl) r2 h) fun r s' hq=>?_)
 cases r with
 |error e=>exact hx pins σ H s e s' I hq
 |ok fl=>
  cases fl with
  |ret u=>exact I.after hq
  |next=>exact False.elim hq
  |brk=>exact False.elim hq
  |cont=>exact False.elim hq
theorem pe_call (F:FnOk X.prog X.w X.K X.mg X.base CX k f fd ps sp) (hr:Room k X.A) (hg:Gl X x) (hm:X.mg x=some (.ref f)) (hk:PySem.W.keepIn X.K (.ref f)=true) (hb:Binds X.K fd ps ds) (hd:Vals dvs ds) (hx:Passes CX X E)
  (ha:PA X (e::es) t) (hdb:(x==("__debug__":Str))=false:=by decide) (he:starEach (e::es) X.env=(false,eval e X.env)::starEach es X.env:=by rfl) (hpl:(backTo pos (starEach es X.env)).any (·.1)=false:=by rfl):
  PE X (.Call (.Name x p) (e::es) [] pos) (tCall sp dvs E t):=by
 intro pins s σ H Q I h
 refine wpAny_Call_Name_kw (ld_glob I hg hm ?_ hdb)
 refine PySem.W.callWith_K (h₀:=X.base) I.ok.mod.kin hk (thn (ha pos pins s σ H _ I h) fun us s1 ⟨vs,H1,I1,r,q⟩=>⟨I1.kIn,?_⟩) he hpl
 exact run_fn F hr hb hd hx I1 r q
end
def PK (X:Cx) (kws:List Keyword) (t:TA):Prop:=
 ∀(pos:Pos) (pins:List (Addr×Obj)) (s:Shared) (σ:St) (H:Hp) (Q:List V->Hp->Prop),Inv X pins σ H s->t σ H Q->wpAny (model X.prog X.w) X.A (evalAll ((backToKw pos (keywordEach kws X.env)).map (·.2))) (AP X pins σ Q) X.xe s
section
variable {X:Cx} {CX:CXT} {k:Nat} {f C:Addr} {fd:FuncData} {ps ks:List Str} {sp:Sp} {E:XK} {x m:Str} {p pos apos kpos:Pos} {e o:Expr} {es:List Expr} {kws:List Keyword} {te ta:TE} {t tk:TA} {nm:Option Str}
theorem pk_nil:PK X [] tNil:=fun _ _ _ _ H Q I h=>wpAny_evalAll_nil ⟨[],H,I,.nil,h⟩
theorem pk_cons (ha:PE X e te) (hr:PK X kws t):PK X (⟨nm,e,kpos⟩::kws) (tCons te t):=by
 intro pos pins s σ H Q I h
 show wpAny _ _ (evalAll ((do let v<-eval e X.env;standAt pos;pure v)::(backToKw pos (keywordEach kws X.env)).map (·.2))) _ _ s
 refine wpAny_evalAll_cons (wpAny_bind (thn (ha pins s σ H _ I h) fun u s1 ⟨x,H1,I1,r1,q1⟩=>wpAny_bind (wpAny_standAt (wpAny_pure ?_))))
 exact thn (hr pos pins s1 σ H1 _ I1 q1) fun us s2 ⟨xs,H2,I2,r2,q2⟩=>⟨x::xs,H2,I2,.cons r1 r2,q2⟩
variable {g:List Value->List Value->List Value} {gV:List V->List V->List V}
end
structure FnScope (N P:List Str) (sc:Scope):Prop where
 kind:sc.kind= .function
 co:sc.isCoroutine=false
 gen:sc.isGenerator=false
 nd:N.Nodup
 pre:N.take P.length=P
 par:∀x∈P,sc.names.lookup x=some .local∨sc.names.lookup x=some .cell
 nofree:∀y∈sc.names,y.2≠ .free
theorem bindL_out {kindOf:Str->Option NameKind} {x:Str}:∀{binds:List (Str×Value)} {m:Str->Option Value},(∀v,(x,v)∉binds)->bindL kindOf binds m x=m x
 | [],_,_=>rfl
 |(n,v)::r,m,h=>by
  unfold bindL
  rw [bindL_out fun w hw=>h w (List.mem_cons_of_mem _ hw)]
  split
  ·have:x≠n:=by rintro rfl;exact h v List.mem_cons_self
   simp [this]
  ·rfl
theorem bindC_out {kindOf:Str->Option NameKind} {x:Str}:∀{binds:List (Str×Value)} {m:Str->Option Value},(∀v,(x,v)∉binds)->bindC kindOf binds m x=m x
 | [],_,_=>rfl
 |(n,v)::r,m,h=>by
  unfold bindC
  rw [bindC_out fun w hw=>h w (List.mem_cons_of_mem _ hw)]
  split
  ·rfl
  ·have:x≠n:=by rintro rfl;exact h v List.mem_cons_self
   simp [this]
theorem bindL_get {kindOf:Str->Option NameKind} {x:Str} {v:Value}:∀{P:List Str} {vs:List Value} {i:Nat} {m:Str->Option Value},P.Nodup->P[i]? =some x->vs[i]? =some v->kindOf x=some .local->
  bindL kindOf (P.zip vs) m x=some v
 | [],_,_,_,_,h,_,_=>by simp at h
 |_::_,[],_,_,_,_,h,_=>by simp at h
 |p::P,w::vs,0,m,nd,h1,h2,hk=>by
  simp at h1 h2;subst h1;subst h2
  show bindL kindOf ((p,w)::P.zip vs) m p=_
  unfold bindL
  rw [bindL_out fun v hv=>(List.nodup_cons.mp nd).1 (List.of_mem_zip hv).1,if_pos hk]
  simp
 |p::P,w::vs,i+1,m,nd,h1,h2,hk=>by
  show bindL kindOf ((p,w)::P.zip vs) m x=_
  unfold bindL
  exact bindL_get (i:=i) (List.nodup_cons.mp nd).2 (by simpa using h1) (by simpa using h2) hk
theorem bindC_get {kindOf:Str->Option NameKind} {x:Str} {v:Value}:∀{P:List Str} {vs:List Value} {i:Nat} {m:Str->Option Value},P.Nodup->P[i]? =some x->vs[i]? =some v->kindOf x≠some .local->
  bindC kindOf (P.zip vs) m x=some v
 | [],_,_,_,_,h,_,_=>by simp at h
 |_::_,[],_,_,_,_,h,_=>by simp at h
 |p::P,w::vs,0,m,nd,h1,h2,hk=>by
  simp at h1 h2;subst h1;subst h2
  show bindC kindOf ((p,w)::P.zip vs) m p=_
  unfold bindC
  rw [bindC_out fun v hv=>(List.nodup_cons.mp nd).1 (List.of_mem_zip hv).1,if_neg hk]
  simp
 |p::P,w::vs,i+1,m,nd,h1,h2,hk=>by
  show bindC kindOf ((p,w)::P.zip vs) m x=_
  unfold bindC
  exact bindC_get (i:=i) (List.nodup_cons.mp nd).2 (by simpa using h1) (by simpa using h2) hk
def start (N:List Str) (vs:List V):St:=vs.map some++List.replicate (N.length-vs.length) none
def cxOf (CX:CXT) (P:Program) (w:World) (K:PySem.W.Frag) (mg:Str->Option Value) (base:Heap) (N:List Str) (qual:Str) (scope:Scope) (f:Addr) (cd:Value) (A:Around) (outer:List Env) (s:Shared) (H:Hp) (E:XK):Cx where
 prog:=P
 w:=w
 K:=K
 mg:=mg
 base:=base
 A:=A.deeper (envOfC qual scope s.heap.objs.size f cd)
 N:=N
 s₀:=s
 H₀:=H
 env:=envOfC qual scope s.heap.objs.size f cd
 outer:=outer
 stack:=envOfC qual scope s.heap.objs.size f cd::outer
 ex:=[]
 calm:=true
 fn:=fun _=>true
 pn:=[]
 xe:=fun e s'=>wpAny (model P w) (A.deeper (envOfC qual scope s.heap.objs.size f cd)) (leaving (envOfC qual scope s.heap.objs.size f cd) e) (fun _ s''=>CX outer H s E e s'') (fun e' s''=>CX outer H s E e' s'') s'
theorem cell_has {sc:Scope} {n:Nat} {x:Str} (h:sc.names.lookup x=some .cell):∃c,(cellsFrom n sc.names []).lookup x=some c:=by
 have q:=PySem.W.cellsFrom_some sc.names n [] (.inl h)
 exact Option.isSome_iff_exists.mp q
theorem inv_start {CX:CXT} {P:Program} {w:World} {K:PySem.W.Frag} {mg:Str->Option Value} {base:Heap} {N ps:List Str} {qual:Str} {scope:Scope} {f:Addr} {cd:Value} {A:Around} {outer:List Env} {s s1:Shared} {H:Hp} {E:XK} {us:List Value} {vs:List V}
  (S:FnScope N ps scope) (hd:A.handled=none) (e0:Env0 P w K mg base A outer s H) (hl:vs.length=ps.length) (r:Vals vs us)
  (x:InCallC s s.heap.objs.size (bindL (envOfC qual scope s.heap.objs.size f cd).kindOf (ps.zip us) fun _=>none) (cellsFrom (s.heap.objs.size+1) scope.names []) (bindC (envOfC qual scope s.heap.objs.size f cd).kindOf (ps.zip us) fun _=>none) s1):
  Inv (cxOf CX P w K mg base N qual scope f cd A outer s H E) [] (start N vs) H s1:=by
 have hpl:ps.length<=N.length:=by have:=congrArg List.length S.pre;rw [List.length_take]at this;omega
 obtain⟨h1,tk,rfl,hk⟩:=x.done
 have noA:∀b:Addr,b∉(cxOf CX P w K mg base N qual scope f cd A outer s H E).ex:=fun b z=>absurd (show b∈([]:List Addr)from z) (by simp)
 refine⟨⟨e0.mod,S.kind,rfl,rfl,Nat.le_refl _,fun y z c h1 h2=>?_,fun y hy=>?_,fun y c _ h=>?_,fun _=>hd,Around.frames_deeper e0.frames,.inr ⟨rfl,rfl⟩,fun b z=>absurd z (noA b),e0.bs,e0.bsz,fun b _ _=>noA b,fun b z=>absurd z (noA b),e0.funs,e0.frf⟩,
  rfl,e0.bare,Un.kept hk,⟨_,x.toInCall.ns,fun i y v h1 h2 h3=>?_⟩,fun y c h=>⟨_,x.cell y c h⟩,e0.hok.fresh (Nat.le_refl _),fun y c h=>?_,fun p hp=>absurd (show p∈([]:List (Addr×Obj))from hp) (by simp),e0.hok.kept hk,?_⟩
 ·exact name_of_addr x.apart (PySem.mem_of_lookup h1) (PySem.mem_of_lookup h2)
 ·have hy:scope.names.lookup y=some .cell∨scope.names.lookup y=some .free:=hy
  rcases hy with hy|hy
  ·exact cell_has hy
  ·exact absurd rfl (S.nofree _ (PySem.mem_of_lookup hy))
 ·exact Nat.le_of_lt (x.above y c (PySem.mem_of_lookup h))
 ·have hi:i<vs.length:=by
   unfold start at h2
   by_cases hi:i<vs.length
   ·exact hi
   ·rw [List.getElem?_append_right (by simpa using hi)]at h2
    rw [List.getElem?_replicate]at h2
    split at h2<;>cases h2
  have ha:vs[i]? =some v:=by
   unfold start at h2
   rw [List.getElem?_append_left (by simpa using hi),List.getElem?_map]at h2
   cases e:vs[i]? with
   |none=>rw [e]at h2;cases h2
   |some a=>rw [e]at h2;cases h2;rfl
  obtain⟨u,hu,rv⟩:=r.get ha
  have hp:ps[i]? =some y:=by
   rw [<-S.pre,List.getElem?_take_of_lt (by omega)];exact h1
  have ndP:ps.Nodup:=by rw [<-S.pre];exact S.nd.sublist (List.take_sublist _ _)
  refine⟨u,rv,?_⟩
  rcases S.par y (List.mem_of_getElem? hp)with k|k
  ·exact .inl ⟨k,bindL_get ndP hp hu k⟩
  ·obtain⟨c,e⟩:=cell_has (n:=s.heap.objs.size+1) k
   refine .inr ⟨.inl k,c,e,?_⟩
   have q:=x.cell y c e
   rw [bindC_get ndP hp hu (by show scope.names.lookup y≠_;rw [k];decide)]at q
   exact q
 ·exact e0.hok.fresh (Nat.le_of_lt (x.above y c (PySem.mem_of_lookup h)))
 ·unfold start
  show _=N.length
  rw [List.length_append,List.length_map,List.length_replicate]
  omega
theorem fn_of {CX:CXT} {P:Program} {w:World} {K:PySem.W.Frag} {mg:Str->Option Value} {base:Heap} {k:Nat} {f:Addr} {name qual:Str} {params:Arguments} {body:List Stmt} {scope:Scope} {dV kV doc pm cdv ct oc:Value} {an od:Option Addr}
  {osl:Array (Option Value)} {N ps:List Str} {sp:Sp} (lk:K.lookup f=some ⟨oc,od,.func (PySem.W.fnOf name qual params body scope dV kV doc pm an cdv ct),osl⟩) (hcd:PySem.W.codeIn K cdv qual=true) (S:FnScope N ps scope)
  (len:∀vs H Q E,sp vs H Q E->vs.length=ps.length)
  (hbody:∀(A:Around) (outer:List Env) (s:Shared) (H:Hp) (vs:List V) (Q:VK) (E:XK),Room k (A.deeper (envOfC qual scope s.heap.objs.size f cdv))->sp vs H Q E->
   ∃t,PSs (cxOf CX P w K mg base N qual scope f cdv A outer s H E) body t/\t {nx:=fun _ H'=>Q .non H',rt:=Q} (start N vs) H):
  FnOk P w K mg base CX (k+1) f (PySem.W.fnOf name qual params body scope dV kV doc pm an cdv ct) ps sp:=by
 refine⟨len,fun A outer s H args us vs Q E hr e0 hb r hsp=>?_⟩
 have hl:=len _ _ _ _ hsp
 have KX:K.In s.heap:=e0.mod.kin.keeps fun b o e=>(e0.bs b o e).1
 have lim:s.heap.NoLimit:=e0.mod.nolimit.keeps fun b o e=>(e0.bs b o e).1
 have hkind:∀y∈ps.zip us,scope.names.lookup y.1=some .local∨(scope.names.lookup y.1=some .cell/\((cellsFrom (s.heap.objs.size+1) scope.names []).lookup y.1).isSome=true):=fun⟨n,v⟩ hy=>by
  rcases S.par n (List.of_mem_zip hy).1 with q|q
  ·exact .inl q
  ·exact .inr ⟨q,PySem.W.cellsFrom_some _ _ _ (.inl q)⟩
 refine codeAny_call_function hr.depth (KX _ _ lk) rfl S.co S.gen rfl (PySem.W.codeRec_of KX hcd) (hb _ _ _ _ ?_)
 refine wpAny_newFunctionEnv_cells S.kind hkind fun env he s1 x=>?_
 subst he
 refine⟨lim.keeps x.toInCall.keep,codeAny_func ?_⟩
 obtain⟨t,ht,hq⟩:=hbody A outer s H vs Q E (hr.deeper _) hsp
 have I:Inv (cxOf CX P w K mg base N qual scope f cdv A outer s H E) [] (start N vs) H s1:=inv_start S hr.hd e0 hl r x
 refine wpAny_mono (ht [] s1 (start N vs) H _ I hq) (fun fl s' hs=>?_) fun e s' hs=>hs
 have fin:∀{σ':St} {H':Hp} {v:V} {u:Value},Inv (cxOf CX P w K mg base N qual scope f cdv A outer s H E) [] σ' H' s'->RelV v u->Q v H'->CE outer P w H s Q u s':=
  fun{σ' H' v u} J rv q=>⟨v,H',J.os,J.bare,J.base,J.hok,rv,q⟩
 cases fl with
 |ret u=>
  obtain⟨v,σ',H',J,rv,q⟩:=hs
  exact fin J rv q
 |next=>
  obtain⟨σ',H',J,q⟩:=hs
  exact fin (v:=V.non) (u:=Value.none) J rfl q
 |brk=>
  obtain⟨_,_,_,q⟩:=hs
  exact False.elim q
 |cont=>
  obtain⟨_,_,_,q⟩:=hs
  exact False.elim q
end L2
namespace L2
open PySem PySem.Spec PyProof.Rows
section
variable {X:Cx} {x:Str} {p pos:Pos} {e:Expr} {es:List Expr} {t:TA} {id T:String} {r:List V->Hp->VK->Prop}
def tCB (r:List V->Hp->VK->Prop) (t:TA):TE:=fun σ H Q=>t σ H fun vs H1=>r vs H1 Q
theorem pe_callB (hc:CallR X (.builtin id) r) (hg:Gl X x) (hm:X.mg x=none) (hv:bootBuiltins x=some (.builtin id)) (ha:PA X (e::es) t) (hn:x≠"__name__":=by decide) (hdb:(x==("__debug__":Str))=false:=by decide)
  (he:starEach (e::es) X.env=(false,eval e X.env)::starEach es X.env:=by rfl) (hpl:(backTo pos (starEach es X.env)).any (·.1)=false:=by rfl):PE X (.Call (.Name x p) (e::es) [] pos) (tCB r t):=by
 intro pins s σ H Q I h
 refine wpAny_Call_Name_kw (ld_blt I hg hm hv ?_ hn hdb)
 exact PyProof.Rows.callWith_builtin1 (thn (ha pos pins s σ H _ I h) fun us s1 ⟨vs,H1,I1,r1,q1⟩=>hc pins s1 σ H1 vs us Q I1 r1 q1) he hpl
theorem pe_callTy (hc:CallR X (.type T) r) (hg:Gl X x) (hm:X.mg x=none) (hv:bootBuiltins x=some (.type T)) (ha:PA X (e::es) t) (hn:x≠"__name__":=by decide) (hdb:(x==("__debug__":Str))=false:=by decide)
  (he:starEach (e::es) X.env=(false,eval e X.env)::starEach es X.env:=by rfl) (hpl:(backTo pos (starEach es X.env)).any (·.1)=false:=by rfl):PE X (.Call (.Name x p) (e::es) [] pos) (tCB r t):=by
 intro pins s σ H Q I h
 refine wpAny_Call_Name_kw (ld_blt I hg hm hv ?_ hn hdb)
 exact PyProof.Rows.callWith_type1 (thn (ha pos pins s σ H _ I h) fun us s1 ⟨vs,H1,I1,r1,q1⟩=>hc pins s1 σ H1 vs us Q I1 r1 q1) he hpl
end
end L2
namespace HT
open PySem PyProof.Rows
section
open PySem.SeqAt
open PySem.AutoSeq1 (wpAny_loadPart')
open PySem.MeetsSeq PySem.MeetsSeq2 PySem.MeetsSeq3
end
section
variable {prog:Program} {w:World} {A:Around} {E:Value->Shared->Prop} {s:Shared}
def sIx (n d:Nat):Option Int->Nat
 |none=>d
 |some v=>if v<0 then(v+(n:Int)).toNat else min v.toNat n
theorem sIx_nat (n d k:Nat):sIx n d (some (k:Int))=min k n:=by
 show(if(k:Int)<0 then((k:Int)+(n:Int)).toNat else min (k:Int).toNat n)=min k n
 rw [if_neg (by omega),Int.toNat_natCast]
end
end HT
namespace L2
open PySem PySem.Spec PyProof.Rows
abbrev TO:=St->Hp->(Option Int->Hp->Prop)->Prop
def PO (X:Cx) (e:Option Expr) (t:TO):Prop:=
 ∀(pins:List (Addr×Obj)) (s:Shared) (σ:St) (H:Hp) (Q:Option Int->Hp->Prop),Inv X pins σ H s->t σ H Q->
  wpAny (model X.prog X.w) X.A (evalPart e X.env) (fun u s'=>∃o H',Inv X pins σ H' s'/\IsPart u o/\Q o H') X.xe s
def tNoPart:TO:=fun _ H Q=>Q none H
def tPart (t:TE):TO:=fun σ H Q=>t σ H fun x H1=>∃i,x= .int i/\Q (some i) H1
theorem intsAre_of {ns:List Int}:∀{us:List Value},Vals (ns.map V.int) us->IntsAre us ns:=by
 induction ns with
 |nil=>intro us r;rw [List.map_nil]at r;cases r;exact .nil
 |cons n ns ih=>
  intro us r
  rw [List.map_cons]at r
  cases r with
  |cons r1 r2=>
   obtain⟨t,e⟩:=r1
   subst e
   exact .cons n t (ih r2)
section
variable {X:Cx} {e:Expr} {te:TE} {lo hi:Option Expr} {tl th:TO} {pos p2:Pos}
theorem po_none:PO X none tNoPart:=by
 intro pins s σ H Q I h
 rw [evalPart_none]
 exact wpAny_pure ⟨none,H,I,.none,h⟩
theorem po_some (h:PE X e te):PO X (some e) (tPart te):=by
 intro pins s σ H Q I hw
 rw [evalPart_some]
 refine thn (h pins s σ H _ I hw) fun u s1 ⟨x,H1,I1,r1,q1⟩=>?_
 obtain⟨i,rfl,q⟩:=q1
 obtain⟨t,rfl⟩:=r1
 exact⟨some i,H1,I1,.int i t,q⟩
def SlR (X:Cx) (r:V->Option Int->Option Int->Hp->VK->Prop):Prop:=
 ∀(pins:List (Addr×Obj)) (s:Shared) (σ:St) (H:Hp) (x:V) (v vl vu:Value) (lo hi:Option Int) (sl:Addr) (Q:VK),Inv X pins σ H s->RelV x v->s.heap.IsSliceOf sl vl vu .none->IsPart vl lo->IsPart vu hi->r x lo hi H Q->
  ∃T id,typeLookup (.type T) "__getitem__"=pure (some (.builtin id))/\s.TypeIs v T/\wpAny (model X.prog X.w) X.A (getItem v (.ref sl)) (EP X pins σ Q) X.xe s
def tSl (r:V->Option Int->Option Int->Hp->VK->Prop) (te:TE) (tl th:TO):TE:=fun σ H Q=>te σ H fun x H1=>tl σ H1 fun l H2=>th σ H2 fun u H3=>r x l u H3 Q
theorem pe_slice {r:V->Option Int->Option Int->Hp->VK->Prop} (hr:SlR X r) (he:PE X e te) (hl:PO X lo tl) (hu:PO X hi th):PE X (.Subscript e (.Slice lo hi none p2) pos) (tSl r te tl th):=by
 intro pins s σ H Q I h
 refine Subscript_ (thn (he pins s σ H _ I h) fun v s1 ⟨x,H1,I1,r1,q1⟩=>?_)
 refine wpAny_Slice (thn (hl pins s1 σ H1 _ I1 q1) fun vl s2 ⟨l,H2,I2,pl,q2⟩=>thn (hu pins s2 σ H2 _ I2 q2) fun vu s3 ⟨u,H3,I3,pu,q3⟩=>?_)
 rw [evalPart_none]
 refine wpAny_pure ?_
 have I4:Inv X pins σ H3 {s3 with heap:=s3.heap.push {cls:= .type "slice",data:= .fields #[vl,vu,.none]}}:=I3.kept (t':=s3.toks) fun b ob q=>Heap.get?_push_of_some _ q
 obtain⟨T,id,hT,ht,hg⟩:=hr pins {s3 with heap:=s3.heap.push {cls:= .type "slice",data:= .fields #[vl,vu,.none]}} σ H3 x v vl vu l u s3.heap.objs.size Q I4 r1 (Heap.IsSliceOf.new ..) pl pu q3
 show wpAny (model X.prog X.w) X.A (subscriptTail e (.Slice lo hi none p2) v (.ref s3.heap.objs.size)) (EP X pins σ Q) X.xe {s3 with heap:=s3.heap.push {cls:= .type "slice",data:= .fields #[vl,vu,.none]}}
 exact tail_any (ops:=[.ref s3.heap.objs.size,v]) ht hT hg (by with_unfolding_all rfl)
def cutV (xs:List V) (lo hi:Option Int):List V:=(xs.drop (HT.sIx xs.length 0 lo)).take (HT.sIx xs.length xs.length hi-HT.sIx xs.length 0 lo)
theorem cutV_length (xs:List V) (lo hi:Option Int):(cutV xs lo hi).length<=xs.length:=by
 unfold cutV
 rw [List.length_take,List.length_drop]
 omega
end
end L2
namespace L2
open PySem PySem.Spec PyProof.Rows
def ixN (n:Nat) (i:Int):Option Nat:=if 0<=i then(if i<n then some i.toNat else none)else if-(n:Int)<=i then some (i+n).toNat else none
def atI {α:Type} (xs:List α) (i:Int):Option α:=(ixN xs.length i).bind fun j=>xs[j]?
theorem ixN_seq {n:Nat} {i:Int} {j:Nat} (h:ixN n i=some j):seqIndex? i n=some j/\j<n/\ -(n:Int)<=i/\i<n:=by
 unfold ixN at h
 by_cases h0:0<=i
 ·rw [if_pos h0]at h
  by_cases h1:i<n
  ·rw [if_pos h1]at h
   have e:i.toNat=j:=Option.some.inj h
   exact⟨by rw [seqIndex_of h0 h1,e],by omega,by omega,h1⟩
  ·rw [if_neg h1]at h;cases h
 ·rw [if_neg h0]at h
  by_cases h1: -(n:Int)<=i
  ·rw [if_pos h1]at h
   have e:(i+n).toNat=j:=Option.some.inj h
   exact⟨by rw [seqIndex_neg (by omega) h1,e],by omega,h1,by omega⟩
  ·rw [if_neg h1]at h;cases h
theorem atI_get {α:Type} {xs:List α} {i:Int} {v:α} (h:atI xs i=some v):∃j,seqIndex? i xs.length=some j/\xs[j]? =some v/\j<xs.length/\ -(xs.length:Int)<=i/\i<xs.length:=by
 unfold atI at h
 cases e:ixN xs.length i with
 |none=>rw [e]at h;cases h
 |some j=>
  rw [e]at h
  obtain⟨h1,h2,h3,h4⟩:=ixN_seq e
  exact⟨j,h1,h,h2,h3,h4⟩
theorem atI_nat {α:Type} {xs:List α} {j:Nat} {v:α} (h:xs[j]? =some v):atI xs (j:Int)=some v:=by
 have hj:j<xs.length:=(List.getElem?_eq_some_iff.mp h).1
 have e:ixN xs.length (j:Int)=some j:=by
  unfold ixN
  rw [if_pos (by omega),if_pos (by omega)];simp
 unfold atI;rw [e];exact h
def PlainIx (b:Expr):Prop:=∀o i,subscripted b false o i=operate [o,i] (getItem o i)
def IxR (X:Cx) (r:R2):Prop:=
 ∀(value slice:Expr) (pins:List (Addr×Obj)) (s:Shared) (σ:St) (H:Hp) (x y:V) (v u:Value) (Q:VK),Inv X pins σ H s->RelV x v->RelV y u->r x y H Q->
  subscripted slice false v u=operate [v,u] (getItem v u)->wpAny (model X.prog X.w) X.A (subscriptTail value slice v u) (EP X pins σ Q) X.xe s
def MtR (X:Cx) (id:String) (r:V->List V->Hp->VK->Prop):Prop:=
 ∀(pins:List (Addr×Obj)) (s:Shared) (σ:St) (H:Hp) (x:V) (xs:List V) (v:Value) (us:List Value) (Q:VK),Inv X pins σ H s->RelV x v->Vals xs us->r x xs H Q->
  wpAny (model X.prog X.w) X.A (call (.builtin id) (v::us)) (EP X pins σ Q) X.xe s
section
variable {X:Cx} {a b:Expr} {ta tb:TE} {pos:Pos}
theorem pe_ix {r:R2} (hr:IxR X r) (ha:PE X a ta) (hb:PE X b tb) (hs:PlainIx b):PE X (.Subscript a b pos) (tOp r ta tb):=by
 intro pins s σ H Q I h
 exact Subscript_ (binT ha hb I h fun v u s2 x y H2 I2 rx ry q=>hr a b pins s2 σ H2 x y v u Q I2 rx ry q (hs _ _))
def rIxL (K:PySem.W.Frag):R2:=fun x y H Q=>∃p xs i v,x= .ref p/\y= .int i/\SqL K H p xs/\atI xs i=some v/\Q v H
def rIxT (K:PySem.W.Frag):R2:=fun x y H Q=>∃p xs i v,x= .ref p/\y= .int i/\SqT K H p xs/\atI xs i=some v/\Q v H
theorem ix_list:IxR X (rIxL X.K):=by
 intro value slice pins s σ H x y v u Q I rx ry h hs
 obtain⟨p,xs,i,z,rfl,rfl,hq,he,q⟩:=h
 cases rx
 obtain⟨t,rfl⟩:=ry
 obtain⟨its,r,pl,hz⟩:=I.list hq
 obtain⟨j,h1,h2,h3,h4,h5⟩:=atI_get he
 obtain⟨w,ew,rw'⟩:=r.get h2
 have hl:=r.length
 have hn:=line63
 have fin:EP X pins σ Q w s:=⟨z,H,I,rw',q⟩
 by_cases h0:0<=i
 ·have hj:i.toNat=j:=by
   rw [seqIndex_of h0 h5]at h1
   exact Option.some.inj h1
  exact item_listR pl.isList h0 (by omega) (by rw [hj];simpa using ew) fin hs
 ·have hj:(i+(its.toArray.size:Int)).toNat=j:=by
   rw [seqIndex_neg (by omega) h4]at h1
   rw [List.size_toArray, <-hl]
   exact Option.some.inj h1
  exact subscriptTail_builtinR (x:=w) pl.isList.typeIs slot_list_getitem.lookup
   (wpAny_getItem_list_neg (Q:=fun r s'=>r=w/\EP X pins σ Q r s') pl.isList (by omega) (by rw [List.size_toArray]<;>omega) (by omega) (by rw [hj];simpa using ew) ⟨rfl,fin⟩) hs
theorem ix_tup:IxR X (rIxT X.K):=by
 intro value slice pins s σ H x y v u Q I rx ry h hs
 obtain⟨p,xs,i,z,rfl,rfl,hq,he,q⟩:=h
 cases rx
 obtain⟨t,rfl⟩:=ry
 obtain⟨its,r,pl,hz⟩:=I.tuple hq
 obtain⟨j,h1,h2,h3,h4,h5⟩:=atI_get he
 obtain⟨w,ew,rw'⟩:=r.get h2
 have hl:=r.length
 have hn:=line63
 have fin:EP X pins σ Q w s:=⟨z,H,I,rw',q⟩
 exact subscriptTail_builtinR (x:=w) pl.typeIs slot_tuple_getitem.lookup
  (getItem_tuple (j:=j) (Q:=fun r s'=>r=w/\EP X pins σ Q r s') pl (by omega) (by omega) (by rw [List.size_toArray, <-hl];exact h1) (by simpa using ew) ⟨rfl,fin⟩) hs
theorem mapSeq_set (its:List Value) (n j:Nat) (u:Value):Obj.mapSeq (·.setIfInBounds j u) {cls:= .type "list",data:= .seq its.toArray n}={cls:= .type "list",data:= .seq (its.set j u).toArray n}:=by
 simp [Obj.mapSeq]
theorem Inv.lst {pins:List (Addr×Obj)} {σ:St} {H:Hp} {s:Shared} {p:Addr} {xs:List V} (I:Inv X pins σ H s) (h:H p=some (.lst xs)):
  ∃(its:List Value) (n:Nat),Vals xs its/\s.heap.get? p=some {cls:= .type "list",data:= .seq its.toArray n}/\xs.length<=sizeLine:=by
 obtain⟨z,its,n,r,e⟩:=I.hok p _ h
 exact⟨its,n,r,e,z⟩
theorem Inv.lstUpd {pins:List (Addr×Obj)} {σ:St} {H:Hp} {s:Shared} {p:Addr} {xs ys:List V} {its its':List Value} {n n':Nat} {f:Obj->Obj} (I:Inv X pins σ H s) (h:H p=some (.lst xs))
  (ho:s.heap.get? p=some {cls:= .type "list",data:= .seq its.toArray n}) (hf:f {cls:= .type "list",data:= .seq its.toArray n}={cls:= .type "list",data:= .seq its'.toArray n'}) (r:Vals ys its') (hz:ys.length<=sizeLine) (t:Nat):
  Inv X pins σ (upd H p (.lst ys)) {s with heap:=s.heap.update p f,toks:=t}:=by
 have e:(s.heap.update p f).get? p=some {cls:= .type "list",data:= .seq its'.toArray n'}:=by
  rw [Heap.get?_update_self f ho (by rw [hf]<;>rfl),hf]
 refine I.write (x:=p) (e:=p) (by rw [h];trivial) (.inl rfl) (fun b u hb q=>(Heap.get?_update_other _ _ (Ne.symm hb)).trans q) ⟨_,e⟩ ?_
 exact⟨hz,its',n',r,e⟩
def rSetL:V->V->V->Hp->(Hp->Prop)->Prop:=fun o i v H Q=>∃p xs k j,o= .ref p/\i= .int k/\H p=some (.lst xs)/\ixN xs.length k=some j/\Q (upd H p (.lst (xs.set j v)))
theorem set_list:PSet X rSetL:=by
 intro pins s σ H o i v ov iv u Q I ro ri rv h
 obtain⟨p,xs,k,j,rfl,rfl,hp,hj,q⟩:=h
 cases ro
 obtain⟨t,rfl⟩:=ri
 obtain⟨its,n,r,ho,hz⟩:=I.lst hp
 obtain⟨h1,h2,h3,h4⟩:=ixN_seq hj
 have hl:=r.length
 have hn:=line63
 have I':Inv X pins σ (upd H p (.lst (xs.set j v))) {s with heap:=s.heap.update p (Obj.mapSeq (·.setIfInBounds j u))}:=
  I.lstUpd hp ho (mapSeq_set its n j u) (r.set rv j) (by rw [List.length_set];exact hz) s.toks
 by_cases h0:0<=k
 ·have hk:k.toNat=j:=by
   rw [seqIndex_of h0 h4]at h1
   exact Option.some.inj h1
  exact PySem.W.ki_setAt ho h0 (by omega) (by rw [List.size_toArray, <-hl];exact h4) (by rw [hk];exact⟨_,I',q⟩)
 ·have hk:(k+(its.toArray.size:Int)).toNat=j:=by
   rw [seqIndex_neg (by omega) h3]at h1
   rw [List.size_toArray, <-hl]
   exact Option.some.inj h1
  exact PySem.W.ki_setBack ho (by omega) (by rw [List.size_toArray, <-hl];exact h3) (by omega) (by rw [hk];exact⟨_,I',q⟩)
theorem slice_bounds (lo hi:Option Int) (n:Nat):(sliceBounds lo hi none n).1=((HT.sIx n 0 lo:Nat):Int)/\(sliceBounds lo hi none n).2.1=((HT.sIx n n hi:Nat):Int)/\(sliceBounds lo hi none n).2.2=1:=by
 refine⟨?_,?_,rfl⟩
 ·cases lo with
  |none=>simp [sliceBounds,HT.sIx]
  |some i=>
   simp only [sliceBounds,HT.sIx,Option.getD_none,show(1:Int)>0 by decide,if_true]
   by_cases h:i<0
   ·simp only [h,if_true]<;>omega
   ·simp only [h,if_false]<;>omega
 ·cases hi with
  |none=>simp [sliceBounds,HT.sIx]
  |some i=>
   simp only [sliceBounds,HT.sIx,Option.getD_none,show(1:Int)>0 by decide,if_true]
   by_cases h:i<0
   ·simp only [h,if_true]<;>omega
   ·simp only [h,if_false]<;>omega
theorem slicePick_cut (its:List Value) (lo hi:Option Int):slicePick its.toArray lo hi none=((its.drop (HT.sIx its.length 0 lo)).take (HT.sIx its.length its.length hi-HT.sIx its.length 0 lo)).toArray:=by
 obtain⟨h1,h2,h3⟩:=slice_bounds lo hi its.toArray.size
 unfold slicePick
 rw [h1,h2,h3]
 simp only [sliceRange_one,pick_run,List.size_toArray]<;>rfl
def rSlL (K:PySem.W.Frag):V->Option Int->Option Int->Hp->VK->Prop:=fun x lo hi H Q=>∃a xs,x= .ref a/\SqL K H a xs/\∀p,H p=none->Q (.ref p) (upd H p (.lst (cutV xs lo hi)))
theorem sl_list:SlR X (rSlL X.K):=by
 intro pins s σ H x v vl vu lo hi sl Q I rx hs pl pu h
 obtain⟨a,xs,rfl,hx,q⟩:=h
 cases rx
 obtain⟨its,r,ht,hz⟩:=I.list hx
 have hlen:=r.length
 refine⟨"list",_,slot_list_getitem.lookup,ht.isList.typeIs,?_⟩
 refine wpAny_getItem_list_slice ht.isList hs pl pu .none (by simp) ?_ (by rw [List.size_toArray]<;>omega)
 rw [slicePick_cut, <-hlen]
 refine⟨.ref s.heap.objs.size,_,I.laid (t':=s.toks) (o:= .lst (cutV xs lo hi)) (fun b ob q=>Heap.get?_push_of_some _ q) (Nat.le_refl _) ?_,rfl,q _ (I.hok.fresh (Nat.le_refl _))⟩
 exact⟨Nat.le_trans (cutV_length xs lo hi) hz,_,0,(r.drop (HT.sIx xs.length 0 lo)).take (HT.sIx xs.length xs.length hi-HT.sIx xs.length 0 lo),Heap.get?_push_size _ rfl⟩
def flatV:V->Bool
 | .non=>true
 | .bl _=>true
 | .int _=>true
 | .str _=>true
 |_=>false
def eqV:V->V->Bool
 | .non,.non=>true
 | .bl a,.bl b=>a==b
 | .bl a,.int b=>(if a then 1 else 0)==b
 | .int a,.bl b=>a==(if b then 1 else 0)
 | .int a,.int b=>a==b
 | .str a,.str b=>a==b
 |_,_=>false
theorem eqAt_V {A:Around} {s:Shared} {y x:V} {u v:Value} (ry:RelV y u) (rx:RelV x v) (fy:flatV y=true) (fx:flatV x=true):SeqAt.EqAt A s u v (eqV y x):=by
 cases y with
 |non=>
  cases ry
  cases x with
  |non=>cases rx;exact SeqAt.EqAt.same _
  |bl b=>cases rx;exact SeqAt.EqAt.none_bool b
  |int b=>obtain⟨t,rfl⟩:=rx;exact SeqAt.EqAt.none_int b t
  |str b=>obtain⟨t,rfl⟩:=rx;exact SeqAt.EqAt.none_str b t
  |_=>exact absurd (show false=true from fx) Bool.false_ne_true
 |bl a=>
  cases ry
  cases x with
  |non=>cases rx;exact SeqAt.EqAt.bool_none a
  |bl b=>cases rx;exact SeqAt.EqAt.bool_bool a b
  |int b=>obtain⟨t,rfl⟩:=rx;exact SeqAt.EqAt.bool_int a b t
  |str b=>obtain⟨t,rfl⟩:=rx;exact SeqAt.EqAt.bool_str a b t
  |_=>exact absurd (show false=true from fx) Bool.false_ne_true
 |int a=>
  obtain⟨t',rfl⟩:=ry
  cases x with
  |non=>cases rx;exact SeqAt.EqAt.int_none a t'
  |bl b=>cases rx;exact SeqAt.EqAt.int_bool a t' b
  |int b=>obtain⟨t,rfl⟩:=rx;exact SeqAt.EqAt.int_int a t' b t
  |str b=>obtain⟨t,rfl⟩:=rx;exact SeqAt.EqAt.int_str a t' b t
  |_=>exact absurd (show false=true from fx) Bool.false_ne_true
 |str a=>
  obtain⟨t',rfl⟩:=ry
  cases x with
  |non=>cases rx;exact SeqAt.EqAt.str_none a t'
  |bl b=>cases rx;exact SeqAt.EqAt.str_bool a t' b
  |int b=>obtain⟨t,rfl⟩:=rx;exact SeqAt.EqAt.str_int a t' b t
  |str b=>obtain⟨t,rfl⟩:=rx;exact SeqAt.EqAt.str_str a t' b t
  |_=>exact absurd (show false=true from fx) Bool.false_ne_true
 |_=>exact absurd (show false=true from fy) Bool.false_ne_true
def eqU (x:V) (u:Value):Bool:=match u with
 | .none=>eqV .non x
 | .bool b=>eqV (.bl b) x
 | .int i _=>eqV (.int i) x
 | .str z _=>eqV (.str z) x
 |_=>false
theorem eqU_of {x y:V} {u:Value} (r:RelV y u) (f:flatV y=true):eqU x u=eqV y x:=by
 cases y with
 |non=>cases r;rfl
 |bl b=>cases r;rfl
 |int i=>obtain⟨t,rfl⟩:=r;rfl
 |str z=>obtain⟨t,rfl⟩:=r;rfl
 |_=>exact absurd (show false=true from f) Bool.false_ne_true
theorem any_eqU {x:V}:∀{xs:List V} {us:List Value},Vals xs us->xs.all flatV=true->us.any (eqU x)=xs.any fun y=>eqV y x
 |_,_,.nil,_=>rfl
 |y::xs,u::us,.cons r t,f=>by
  rw [List.all_cons,Bool.and_eq_true]at f
  rw [List.any_cons,List.any_cons,eqU_of r f.1,any_eqU t f.2]
theorem mem_eqAt {A:Around} {s:Shared} {x:V} {v:Value} (rx:RelV x v) (fx:flatV x=true):∀{xs:List V} {us:List Value},Vals xs us->xs.all flatV=true->∀u∈us,SeqAt.EqAt A s u v (eqU x u)
 |_,_,.nil,_=>fun u hu=>by cases hu
 |y::xs,u::us,.cons r t,f=>fun u' hu=>by
  rw [List.all_cons,Bool.and_eq_true]at f
  rcases List.mem_cons.mp hu with rfl|hu
  ·rw [eqU_of r f.1];exact eqAt_V r rx f.1 fx
  ·exact mem_eqAt rx fx t f.2 u' hu
def inV (x:V) (xs:List V):Bool:=xs.any fun y=>eqV y x
def rIn (K:PySem.W.Frag) (neg:Bool):R2:=fun x y H Q=>∃p xs,y= .ref p/\(SqL K H p xs∨SqT K H p xs)/\flatV x=true/\xs.all flatV=true/\Q (.bl (if neg then !inV x xs else inV x xs)) H
theorem op_in_seq:OpR X (compareOp .In) (rIn X.K false):=by
 intro pins s σ H x y v u Q I rx ry h
 obtain⟨p,xs,rfl,hq,fx,fs,q⟩:=h
 cases ry
 rcases hq with hq|hq
 ·obtain⟨its,r,pl,hz⟩:=I.list hq
  refine SeqAt.in_listAt (eqU x) pl.isList (fun w hw=>mem_eqAt rx fx r fs w (by simpa using hw)) ⟨.bl _,H,I,rfl,?_⟩
  rw [show its.toArray.any (eqU x)=its.any (eqU x) by simp,any_eqU r fs]
  exact q
 ·obtain⟨its,r,pl,hz⟩:=I.tuple hq
  refine SeqAt.in_tupleAt (eqU x) pl (fun w hw=>mem_eqAt rx fx r fs w (by simpa using hw)) ⟨.bl _,H,I,rfl,?_⟩
  rw [show its.toArray.any (eqU x)=its.any (eqU x) by simp,any_eqU r fs]
  exact q
theorem op_notIn_seq:OpR X (compareOp .NotIn) (rIn X.K true):=by
 intro pins s σ H x y v u Q I rx ry h
 obtain⟨p,xs,rfl,hq,fx,fs,q⟩:=h
 cases ry
 rcases hq with hq|hq
 ·obtain⟨its,r,pl,hz⟩:=I.list hq
  refine SeqAt.notIn_listAt (eqU x) pl.isList (fun w hw=>mem_eqAt rx fx r fs w (by simpa using hw)) ⟨.bl _,H,I,rfl,?_⟩
  rw [show its.toArray.any (eqU x)=its.any (eqU x) by simp,any_eqU r fs]
  exact q
 ·obtain⟨its,r,pl,hz⟩:=I.tuple hq
  refine SeqAt.notIn_tupleAt (eqU x) pl (fun w hw=>mem_eqAt rx fx r fs w (by simpa using hw)) ⟨.bl _,H,I,rfl,?_⟩
  rw [show its.toArray.any (eqU x)=its.any (eqU x) by simp,any_eqU r fs]
  exact q
theorem call_len_seq:CallR X (.builtin "len") (fun xs H Q=>∃p ys,xs=[.ref p]/\(SqL X.K H p ys∨SqT X.K H p ys)/\Q (.int ys.length) H):=by
 intro pins s σ H xs us Q I r h
 obtain⟨p,ys,rfl,hq,q⟩:=h
 obtain⟨u,rfl,rx⟩:=vals1 r
 cases rx
 have hn:=line63
 rcases hq with hq|hq
 ·obtain⟨its,r',pl,hz⟩:=I.list hq
  have hlen:=r'.length
  exact Calls.call_len_list pl.isList (by simp only [List.size_toArray]<;>omega) ⟨.int ys.length,H,I.tok _,⟨s.toks+1,by rw [List.size_toArray,hlen]⟩,q⟩
 ·obtain⟨its,r',pl,hz⟩:=I.tuple hq
  have hlen:=r'.length
  exact len_tuple pl (by simp only [List.size_toArray]<;>omega) ⟨.int ys.length,H,I.tok _,⟨s.toks+1,by rw [List.size_toArray,hlen]⟩,q⟩
theorem call_list_of:CallR X (.type "list") (fun xs H Q=>∃p ys,xs=[.ref p]/\(SqL X.K H p ys∨SqT X.K H p ys)/\∀l,H l=none->Q (.ref l) (upd H l (.lst ys))):=by
 intro pins s σ H xs us Q I r h
 obtain⟨p,ys,rfl,hq,q⟩:=h
 obtain⟨u,rfl,rx⟩:=vals1 r
 cases rx
 have fin:∀(its:List Value),Vals ys its->ys.length<=sizeLine->∀(h':Heap) (c':Nat),(∀b o',s.heap.get? b=some o'->h'.get? b=some o')->
   h'.get? s.heap.objs.size=some {cls:= .type "list",dict:=none,data:= .seq its.toArray c',slots:= #[]}->EP X pins σ Q (.ref s.heap.objs.size) {s with heap:=h'}:=fun its r' hz h' c' kp e=>
  ⟨.ref s.heap.objs.size,_,I.laid (t':=s.toks) kp (Nat.le_refl _) (show ObjOk X.prog X.w _ h' _ (.lst ys)from⟨hz,its,c',r',e⟩),rfl,q _ (I.hok.fresh (Nat.le_refl _))⟩
 rcases hq with hq|hq
 ·obtain⟨its,r',pl,hz⟩:=I.list hq
  have hlen:=r'.length
  obtain⟨o,ho,hc,n,hd⟩:=pl.isList
  exact call_list_seq p (.inl rfl) ho hc hd (fun h' c' kp e=>fin its r' hz h' c' kp e) (by simp only [List.size_toArray]<;>omega)
 ·obtain⟨its,r',pl,hz⟩:=I.tuple hq
  have hlen:=r'.length
  obtain⟨o,ho,hc,n,hd⟩:=pl
  exact call_list_seq p (.inr rfl) ho hc hd (fun h' c' kp e=>fin its r' hz h' c' kp e) (by simp only [List.size_toArray]<;>omega)
def tyV (K:PySem.W.Frag) (T:String) (x:V) (H:Hp):Prop:=match x with
 | .str _=>T="str"
 | .int _=>T="int"
 | .ref p=>(T="list"/\∃xs,SqL K H p xs)∨(T="tuple"/\∃o,K.lookup p=some o/\o.cls= .type "tuple"/\o.dict=none)∨
   (T="dict"/\((∃kvs,H p=some (.dK kvs))∨∃kvs,H p=some (.dT kvs)))∨(T="set"/\∃S n,H p=some (.set S n))
 |_=>False
theorem tyV_is {pins:List (Addr×Obj)} {σ:St} {H:Hp} {s:Shared} {T:String} {x:V} {v:Value} (I:Inv X pins σ H s) (r:RelV x v) (ty:tyV X.K T x H):
  s.TypeIs v T/\∀a,v= .ref a->∃ob,s.heap.get? a=some ob/\ob.dict=none:=by
 cases x with
 |str z=>
  obtain⟨t,rfl⟩:=r
  cases (show T="str" from ty)
  exact⟨typeIs_str s z t,fun _ e=>nomatch e⟩
 |int i=>
  obtain⟨t,rfl⟩:=r
  cases (show T="int" from ty)
  exact⟨typeIs_int s i t,fun _ e=>nomatch e⟩
 |ref p=>
  cases r
  rcases ty with ⟨rfl,xs,hq⟩|⟨rfl,o,hk,hc,hd⟩|⟨rfl,hk⟩|⟨rfl,S,n,hk⟩
  ·obtain⟨its,_,pl,_⟩:=I.list hq
   refine⟨pl.isList.typeIs,fun a e=>?_⟩
   cases e
   obtain⟨o,n,e,c,hd,_⟩:=pl
   exact⟨o,e,hd⟩
  ·refine⟨⟨o,I.kIn p o hk,hc⟩,fun a e=>?_⟩
   cases e
   exact⟨o,I.kIn _ o hk,hd⟩
  ·have z:∃o,s.heap.get? p=some o/\o.ExactDict:=by
    rcases hk with ⟨kvs,hk⟩|⟨kvs,hk⟩
    ·obtain⟨_,_,_,_,o,_,_,e,ex,_⟩:=I.hok p _ hk
     exact⟨o,e,ex⟩
    ·obtain⟨_,_,_,_,o,_,_,e,ex,_⟩:=I.hok p _ hk
     exact⟨o,e,ex⟩
   obtain⟨o,e,ex⟩:=z
   refine⟨⟨o,e,ex.1⟩,fun a e2=>?_⟩
   cases e2
   exact⟨o,e,ex.2.1⟩
  ·obtain⟨o,_,_,_,e,ex,_⟩:=I.hok p _ hk
   refine⟨⟨o,e,ex.1⟩,fun a e2=>?_⟩
   cases e2
   exact⟨o,e,ex.2.1⟩
 |_=>exact False.elim ty
def tBM0 (K:PySem.W.Frag) (T:String) (r:V->List V->Hp->VK->Prop) (to:TE):TE:=fun σ H Q=>to σ H fun x H1=>tyV K T x H1/\r x [] H1 Q
def tBM (K:PySem.W.Frag) (T:String) (r:V->List V->Hp->VK->Prop) (to:TE) (t:TA):TE:=fun σ H Q=>to σ H fun x H1=>tyV K T x H1/\t σ H1 fun xs H2=>r x xs H2 Q
variable {o e:Expr} {es:List Expr} {to:TE} {t:TA} {name:Str} {apos cpos:Pos} {T id:String} {r:V->List V->Hp->VK->Prop}
theorem pe_bm0 (pa:PlainAttrs T) (slot:Slot T name id) (hty:typeOf (.builtin id)=pure (.type "method_descriptor")) (hm:MtR X id r) (ho:PE X o to)
  (hbase:attributeBase o name X.env (eval o X.env)=eval o X.env:=by rfl) (hline:(apos.endLine==cpos.line)=true:=by rfl):PE X (.Call (.Attribute o name apos) [] [] cpos) (tBM0 X.K T r to):=by
 intro pins s σ H Q I h
 refine wpAny_Call_method0_late hbase hline (thn (ho pins s σ H _ I h) fun v s1 ⟨x,H1,I1,r1,ty,q1⟩=>?_)
 obtain⟨h1,h2⟩:=tyV_is I1 r1 ty
 exact⟨T,id,pa,slot,hty,h1,h2,Calls.callWith_builtin rfl (PySem.evalArgs_none (hm pins s1 σ H1 x [] v [] Q I1 r1 .nil q1))⟩
theorem pe_bm (pa:PlainAttrs T) (slot:Slot T name id) (hty:typeOf (.builtin id)=pure (.type "method_descriptor")) (hm:MtR X id r) (ho:PE X o to) (ha:PA X (e::es) t)
  (hbase:attributeBase o name X.env (eval o X.env)=eval o X.env:=by rfl)
  (hfew:((backTo cpos (starEach (e::es) X.env)).all (fun x=> !x.1) && (backToKw cpos (keywordEach [] X.env)).all (fun x=>x.1.isSome)
   && decide ((e::es).length+([]:List Keyword).length+(if([]:List Keyword).isEmpty then 0 else 1)<30))=true:=by rfl)
  (hline:(apos.endLine==cpos.line)=true:=by rfl) (hs:starEach (e::es) X.env=(false,eval e X.env)::starEach es X.env:=by rfl) (hplain:(backTo cpos (starEach es X.env)).any (·.1)=false:=by rfl):
  PE X (.Call (.Attribute o name apos) (e::es) [] cpos) (tBM X.K T r to t):=by
 intro pins s σ H Q I h
 refine wpAny_Call_method_late hbase hfew hline rfl (thn (ho pins s σ H _ I h) fun v s1 ⟨x,H1,I1,r1,ty,q1⟩=>?_)
 obtain⟨h1,h2⟩:=tyV_is I1 r1 ty
 refine⟨T,id,pa,slot,hty,h1,h2,?_⟩
 have hA:=ha cpos pins s1 σ H1 _ I1 q1
 rw [hs]at hA⊢
 refine Calls.callWith_builtin (by show(false || (backTo cpos (starEach es X.env)).any (·.1))=false;rw [hplain]<;>rfl) (Calls.evalArgs_plain ?_)
 exact thn hA fun us s2 ⟨vs,H2,I2,r2,q2⟩=>hm pins s2 σ H2 x vs v us Q I2 r1 r2 q2
end
end L2
namespace L2
open PySem PySem.Spec PyProof.Rows
def MtM (X:Cx) (id:String) (r:V->List V->Hp->VK->Prop):Prop:=
 ∀(pins:List (Addr×Obj)) (s:Shared) (σ:St) (H:Hp) (x:V) (xs:List V) (v:Value) (us:List Value) (Q:VK),Inv X pins σ H s->RelV x v->Vals xs us->r x xs H Q->
  wpAny (model X.prog X.w) X.A (call (.builtin id) (v::us)) (EP X pins σ Q) X.xe s
theorem Vals.one:∀{x:V} {us:List Value},Vals [x] us->∃u,us=[u]/\RelV x u
 |_,_,.cons r .nil=>⟨_,rfl,r⟩
theorem Vals.zero:∀{us:List Value},Vals [] us->us=[]
 |_,.nil=>rfl
theorem Vals.reverse {xs:List V} {us:List Value} (h:Vals xs us):Vals xs.reverse us.reverse:=by
 induction h with
 |nil=>exact .nil
 |cons r t ih=>rw [List.reverse_cons,List.reverse_cons];exact Vals.append ih (.cons r .nil)
theorem Vals.rep {xs:List V} {us:List Value} (h:Vals xs us):∀k:Nat,Vals (List.replicate k xs).flatten (List.replicate k us).flatten
 |0=> .nil
 |k+1=>by
  rw [List.replicate_succ,List.replicate_succ,List.flatten_cons,List.flatten_cons]
  exact Vals.append h (Vals.rep h k)
theorem foldl_rep (its:List Value):∀(k:Nat) (acc:List Value),
  List.foldl (fun x1 x2=>x1++x2) acc.toArray (List.replicate k its.toArray)=(acc++(List.replicate k its).flatten).toArray
 |0,acc=>by simp
 |k+1,acc=>by
  have e:acc.toArray++its.toArray=(acc++its).toArray:=by simp
  have e2:(acc++its)++(List.replicate k its).flatten=acc++(List.replicate (k+1) its).flatten:=by
   rw [List.replicate_succ,List.flatten_cons,List.append_assoc]
  rw [<-e2, <-foldl_rep its k (acc++its), <-e,List.replicate_succ,List.foldl_cons]
section
variable {X:Cx} {pins:List (Addr×Obj)} {σ:St} {H:Hp} {s:Shared} {l b:Addr} {xs ys zs:List V}
theorem Inv.lset {its its':List Value} {n:Nat} {f:Array Value->Array Value} {t':Nat} (I:Inv X pins σ H s) (hH:H l=some (.lst xs))
  (e:s.heap.get? l=some {cls:= .type "list",data:= .seq its.toArray n}) (hf:f its.toArray=its'.toArray) (hv:Vals ys its') (hz:ys.length<=sizeLine):
  Inv X pins σ (upd H l (.lst ys)) {s with heap:=s.heap.update l (Obj.mapSeq f),toks:=t'}:=by
 have q:=PySem.IsL.update e f
 rw [hf]at q
 refine I.write (x:=l) (e:=l) (by rw [hH];exact trivial) (.inl rfl) (fun b' u hb hu=>(Heap.get?_update_other s.heap (Obj.mapSeq f) (Ne.symm hb)).trans hu) ⟨_,q⟩ ?_
 exact⟨hz,its',_,hv,q⟩
theorem Inv.lnew {its:List Value} {t':Nat} (I:Inv X pins σ H s) (hv:Vals ys its) (hz:ys.length<=sizeLine):
  Inv X pins σ (upd H s.heap.objs.size (.lst ys)) {s with heap:=s.heap.push {cls:= .type "list",data:= .seq its.toArray},toks:=t'}:=
 I.laid (fun _ _ q=>Heap.get?_push_of_some _ q) (Nat.le_refl _) ⟨hz,its,0,hv,Heap.get?_push_size _ rfl⟩
theorem Inv.fresh (I:Inv X pins σ H s):H s.heap.objs.size=none:=I.hok.fresh (Nat.le_refl _)
theorem Inv.lstM (I:Inv X pins σ H s) (hH:H l=some (.lst xs)):xs.length<=sizeLine/\∃(its:List Value) (n:Nat),Vals xs its/\xs.length=its.length/\s.heap.get? l=some {cls:= .type "list",data:= .seq its.toArray n}:=by
 obtain⟨z,its,n,r,e⟩:=I.hok l _ hH
 exact⟨z,its,n,r,r.length,e⟩
theorem notLongL {n:Nat} (h:n<=sizeLine):Builtin.List.listTooLong n=false:=by
 unfold Builtin.List.listTooLong
 exact decide_eq_false (by omega)
end
section
variable {X:Cx}
def rAppend:V->List V->Hp->VK->Prop:=fun x vs H Q=>∃l xs y,x= .ref l/\vs=[y]/\H l=some (.lst xs)/\xs.length<sizeLine/\Q .non (upd H l (.lst (xs++[y])))
theorem mt_append:MtM X "list.append" rAppend:=by
 intro pins s σ H x vs v us Q I rx rv h
 obtain⟨l,xs,y,rfl,rfl,hH,hz,q⟩:=h
 cases rx
 obtain⟨u,rfl,ru⟩:=rv.one
 obtain⟨z,its,n,r,hl,e⟩:=I.lstM hH
 refine call_meets F.slot_list_append ⟨_,e,rfl⟩ F.entry_list_append (F.args_list_append_2 _ _) (PySem.list_append l its.toArray n u (by rw [List.size_toArray];omega)) ⟨e,?_⟩
 refine⟨.non,_,I.lset (its':=its++[u]) hH e (by simp) (r.append (.cons ru .nil)) ?_,rfl,q⟩
 rw [List.length_append,List.length_singleton]
 omega
def rExtend:V->List V->Hp->VK->Prop:=fun x vs H Q=>∃l b xs zs,x= .ref l/\vs=[.ref b]/\H l=some (.lst xs)/\H b=some (.lst zs)/\xs.length+zs.length<=sizeLine/\Q .non (upd H l (.lst (xs++zs)))
theorem mt_extend:MtM X "list.extend" rExtend:=by
 intro pins s σ H x vs v us Q I rx rv h
 obtain⟨l,b,xs,zs,rfl,rfl,hH,hB,hz,q⟩:=h
 cases rx
 obtain⟨u,rfl,ru⟩:=rv.one
 cases ru
 obtain⟨z,its,n,r,hl,e⟩:=I.lstM hH
 obtain⟨z2,its2,n2,r2,hl2,e2⟩:=I.lstM hB
 have hsz:its.toArray.size+its2.toArray.size<=sizeLine:=by rw [List.size_toArray,List.size_toArray];omega
 have hlong:¬(!its.toArray.isEmpty && Builtin.List.listTooLong (its.toArray.size+its2.toArray.size))=true:=by
  rw [notLongL hsz,Bool.and_false]
  exact Bool.false_ne_true
 refine call_meets F.slot_list_extend ⟨_,e,rfl⟩ F.entry_list_extend (F.args_list_extend_2 _ _)
  (AutoSeq1.list_extend_list_list_0 l its.toArray n b its2.toArray n2 hlong (by rw [List.size_toArray];omega) (by omega)) ⟨e,e2,?_⟩
 refine⟨.non,_,I.lset (its':=its++its2) hH e (by simp) (r.append r2) ?_,rfl,q⟩
 rw [List.length_append]
 omega
def rClear:V->List V->Hp->VK->Prop:=fun x vs H Q=>∃l xs,x= .ref l/\vs=[]/\H l=some (.lst xs)/\Q .non (upd H l (.lst []))
theorem mt_clear:MtM X "list.clear" rClear:=by
 intro pins s σ H x vs v us Q I rx rv h
 obtain⟨l,xs,rfl,rfl,hH,q⟩:=h
 cases rx
 have hus:=rv.zero
 subst hus
 obtain⟨z,its,n,r,hl,e⟩:=I.lstM hH
 refine call_meets F.slot_list_clear ⟨_,e,rfl⟩ F.entry_list_clear (F.args_list_clear_1 _) (AutoSeq1.list_clear_list_0 l its.toArray n (by rw [List.size_toArray];omega)) ⟨e,?_⟩
 exact⟨.non,_,I.lset (its':=[]) (ys:=[]) hH e rfl .nil (Nat.zero_le _),rfl,q⟩
def rCat:R2:=fun x y H Q=>∃l b xs zs,x= .ref l/\y= .ref b/\H l=some (.lst xs)/\H b=some (.lst zs)/\xs.length+zs.length<=sizeLine/\∀p,H p=none->Q (.ref p) (upd H p (.lst (xs++zs)))
theorem op_cat:OpR X (binaryOp .Add) rCat:=by
 intro pins s σ H x y v u Q I rx ry h
 obtain⟨l,b,xs,zs,rfl,rfl,hH,hB,hz,q⟩:=h
 cases rx
 cases ry
 obtain⟨z,its,n,r,hl,e⟩:=I.lstM hH
 obtain⟨z2,its2,n2,r2,hl2,e2⟩:=I.lstM hB
 refine PySem.P.add_list e e2 ?_ (by rw [List.size_toArray,List.size_toArray];omega)
 have ea:its.toArray++its2.toArray=(its++its2).toArray:=by simp
 rw [ea]
 exact⟨.ref _,_,I.lnew (t':=s.toks) (r.append r2) (by rw [List.length_append];omega),rfl,q _ I.fresh⟩
def rRep:R2:=fun x y H Q=>∃l k xs,x= .ref l/\y= .int k/\H l=some (.lst xs)/\ -(2 ^ 63)<=k/\k<2 ^ 63/\xs.length*k.toNat<=sizeLine/\
 ∀p,H p=none->Q (.ref p) (upd H p (.lst (List.replicate k.toNat xs).flatten))
theorem len_rep {α:Type} (xs:List α) (k:Nat):(List.replicate k xs).flatten.length=k*xs.length:=by
 induction k with
 |zero=>simp
 |succ k ih=>rw [List.replicate_succ,List.flatten_cons,List.length_append,ih,Nat.succ_mul,Nat.add_comm]
theorem op_rep:OpR X (binaryOp .Mult) rRep:=by
 intro pins s σ H x y v u Q I rx ry h
 obtain⟨l,k,xs,rfl,rfl,hH,h1,h2,hz,q⟩:=h
 cases rx
 obtain⟨t,rfl⟩:=ry
 obtain⟨z,its,n,r,hl,e⟩:=I.lstM hH
 have hlen:its.toArray.size*k.toNat<=sizeLine:=by rw [List.size_toArray, <-hl];exact hz
 have hcap:¬its.toArray.size*k.toNat>(2 ^ 63-1) / 8:=by
  have:(sizeLine:Nat)<=(2 ^ 63-1) / 8:=by decide
  omega
 have hfit:¬(!Builtin.List.listFitsIndex k)=true:=by
  rw [fitsIndex_both h1 h2]
  exact Bool.false_ne_true
 have hlong:¬Builtin.List.listTooLong (its.toArray.size*k.toNat)=true:=by
  rw [notLongL hlen]
  exact Bool.false_ne_true
 have hnew:List.foldl (fun x1 x2=>x1++x2) #[] (List.replicate (if its.toArray.isEmpty=true then 0 else k.toNat) its.toArray)=(List.replicate k.toNat its).flatten.toArray:=by
  have f0:∀m:Nat,List.foldl (fun x1 x2=>x1++x2) #[] (List.replicate m its.toArray)=(List.replicate m its).flatten.toArray:=fun m=>by
   have:=foldl_rep its m []
   rw [List.nil_append]at this
   exact this
  rw [f0]
  cases its with
  |nil=>simp
  |cons a r'=>rw [if_neg (by simp)]
 refine wpAny_binaryOp_repeat_ref (T:="list") (U:="int") (by decide) ⟨_,e,rfl⟩ (fun s'=>typeIs_int s' k t) noFill_list_mul F.fills_int_mul F.slot_int_rmul repeat_list F.slot_int_index.lookup
  (call_meets F.slot_int_rmul (typeIs_int s k t) F.entry_int_rmul (F.args_int_rmul_2 _ _) (int___rmul___int_list k t l its.toArray n)
   ⟨e,rfl,⟨_,e,rfl⟩,call_meets F.slot_list_mul ⟨_,e,rfl⟩ F.entry_list_mul (F.args_list_mul_2 _ _) (AutoListH.list___mul___list_int_3 l its.toArray n k t hfit hcap hlong) ⟨e,?_⟩⟩)
 rw [hnew]
 exact⟨.ref _,_,I.lnew (t':=s.toks) (r.rep k.toNat) (by rw [len_rep,Nat.mul_comm];exact hz),rfl,q _ I.fresh⟩
end
section
variable {prog:Program} {w:World} {A:Around} {E:Value->Shared->Prop} {s:Shared}
set_option maxRecDepth 100000 in
end
section
variable {X:Cx}
end
end L2
namespace Att
open PySem PySem.W PySem.Calls PyProof.Rows
theorem ints_of_wellAll {P:Params} {h:Heap}:∀(ns:List Int) (vs:List Value),WellAll P h vs (ns.map WData.int)->IntsAre vs ns:=by
 intro ns
 induction ns with
 |nil=>
  intro vs w
  rw [List.map_nil]at w
  cases w
  exact .nil
 |cons n ns ih=>
  intro vs w
  rw [List.map_cons]at w
  cases w with
  |cons a b=>
   cases a
   exact .cons _ _ (ih _ b)
theorem script_of {l:OpenLaw} {n:Nat} (hn:l.most=some n) {P:Params} {h:Heap} {args:List WData} {vals:List Value}
  (hpre:l.row.toRowW.claim.pre args=true) (hwl:WellAll P h vals args):
  ∃a vs ns,vals=[Value.ref a]/\args=[WData.list (ns.map WData.int)]/\h.get? a=some {cls:= .type "list",data:= .seq vs.toArray}/\IntsAre vs ns/\ns.length<=n:=by
 have hsh:WShape.hasAll [] args [.list .int]=true:=(pre_splitW hpre).1
 have hc:l.pre.holds [] {args:=args}=true:=(pre_splitW hpre).2
 obtain⟨d,r,rfl,h1,h2⟩:=hasAllW_cons hsh
 obtain rfl:=hasAllW_nil h2
 obtain⟨xs,rfl,h3⟩:=hasW_list h1
 obtain⟨ns,rfl⟩:=items_int h3
 have hlen:ns.length<=n:=by
  unfold OpenLaw.pre at hc
  have h4:(WTm.not (.lt (.lit (.int (n:Int))) (.len (.arg 0)))).holds [] {args:=[.list (ns.map .int)]}=true:=by
   have h4:=(holds_andW hc).1
   rw [hn]at h4
   exact h4
  have h5:=condW_of h4 (w_not (w_lt w_lit (w_len_list (w_arg rfl))))
  rw [List.length_map]at h5
  refine Nat.le_of_not_lt fun q=>?_
  have q':(n:Int)<((ns.length:Nat):Int):=by omega
  first
   |(rw [decide_eq_true q']at h5;exact absurd h5 (by decide))
   |(simp at h5;omega)
 cases hwl with
 |cons w1 w2=>
  cases w2
  cases w1 with
  |list ho hall=>exact⟨_,_,ns,rfl,rfl,ho,ints_of_wellAll ns _ hall,hlen⟩
theorem post_true (l:OpenLaw) (args:List WData):l.row.toRowW.claim.post args (.bool true) args=true:=
 postW_of (r:=l.row.toRowW) (X:=(true==true))
  (show WShape.has [] (.bool true) .bool=true by first|rfl|decide|simp [WShape.has,WShape.arms,WShape.armsAll])
  (show(WTm.eq .res (.lit (.bool true))).value [] {args:=args,res:=some (.bool true),after:=args}=some (.bool (true==true))from w_eq_bool (w_res rfl) w_lit) rfl
theorem attach_call {l:OpenLaw} {n:Nat} {q:Program} {loose:List Str} {XP:(Str->Option Value)->Heap->Prop} {YP:World->Heap->Prop} {d:DefRec}
  (hn:l.most=some n) (hdf:d.params.defaults=[])
  (call:∀(w:World) (s₀ s₁:Shared) (mg mb:Str->Option Value) (fa:Addr) (o:Obj) (pm cd doc:Value) (a:Addr) (vs:List Value) (ns:List Int),
   Ground q loose [] XP w s₀ mg mb s₁.heap->YP w s₁.heap->
   s₁.heap.get? fa=some o->o.data= .func (docDef d.name d.params d.body d.scope pm cd doc)->s₁.heap.CodeRec cd d.name->mg d.name=some (.ref fa)->
   s₁.heap.get? a=some {cls:= .type "list",data:= .seq vs.toArray}->IntsAre vs ns->ns.length<=n->s₁.gens= #[]->
   codeAny (model l.prog w) callerA (.call (.ref fa) ⟨[.ref a],[]⟩) (fun r s'=>r= .ok (.ret (.bool true))/\OldK s₁.heap s'.heap/\s'.os=s₁.os/\AllBare s'.gens) s₁):
  WalkO q loose XP YP l.row.toRowW d [] (fun f vs=>PySem.call f vs):=by
 intro w s₀ s₁ mg mb G Y fa o pm cd doc dV kV ho hd hcd hD hmg hg args vals as hpre hlay hrd hwl hlo
 obtain rfl:dV= .none:=Dflts.none hD hdf
 obtain rfl:kV= .none:=Dflts.noKw hD
 obtain⟨a,vs,ns,rfl,rfl,hobj,hints,hlen⟩:=script_of hn hpre hwl
 refine enter_call (codeAny_mono (call w s₀ s₁ mg mb fa o pm cd doc a vs ns G Y ho (fd_plain hd) hcd hmg hobj hints hlen hg) fun r s' hq=>?_)
 obtain⟨rfl,h2,h3,h4⟩:=hq
 exact⟨.inl ⟨.bool true,.bool true,[],rfl,fun _=>rfl,.bool true,post_true l _,fun _=>⟨List.Pairwise.nil,fun _ hm=>(nomatch hm)⟩⟩,h2,h3,h4⟩
section
variable {prog:Program} {w:World} {A:Around} {E:Value->Shared->Prop} {s:Shared} {K:Frag}
end
end Att
namespace L2
open PySem PySem.Spec PyProof.Rows
theorem vals_ints:∀{vs:List Value} {ns:List Int},IntsAre vs ns->Vals (ns.map V.int) vs
 |_,_,.nil=> .nil
 |_,_,.cons n t h=> .cons ⟨t,rfl⟩ (vals_ints h)
def Only (H:Hp):Prop:=∀b,H b=none∨∃o xs,H b=some (.frz o (.lst xs))
theorem law_call {P:Program} {w:World} {K:PySem.W.Frag} {mg mb:Str->Option Value} {CX:CXT} {k:Nat} {fa a:Addr} {fd:FuncData} {x:Str} {sp:Sp} {s₁:Shared} {vs:List Value} {ns:List Int}
  (KX:K.In s₁.heap) (hns:s₁.heap.Ns mainGlobals mg) (hb:s₁.heap.Ns builtinsNs mb) (hbb:∀x:Str,x≠"__name__"->mb x=bootBuiltins x) (hlim:s₁.heap.NoLimit) (hg:s₁.gens= #[])
  (ha:s₁.heap.get? a=some {cls:= .type "list",data:= .seq vs.toArray}) (hi:IntsAre vs ns) (hl:ns.length<=sizeLine) (hr:Room k callerA)
  (F:∀base:Heap,K.In base->base.Ns mainGlobals mg->FnOk P w K mg base CX k fa fd [x] sp) (hbind:∀(s:Shared) (u:Value),BindsTo s fd ⟨[u],[]⟩ [(x,u)])
  (hsp:∀H:Hp,Only H->SqL K H a (ns.map V.int)->sp [.ref a] H (fun v _=>v= .bl true) fun _ _ _=>False)
  (hCX:∀H e s',CX [] H s₁ (fun _ _ _=>False) e s'->False):
  codeAny (model P w) callerA (.call (.ref fa) ⟨[.ref a],[]⟩) (fun r s'=>r= .ok (.ret (.bool true))/\OldK s₁.heap s'.heap/\s'.os=s₁.os/\AllBare s'.gens) s₁:=by
 have rv:=vals_ints hi
 have lenV:=hi.length
 have core:∀H:Hp,Only H->SqL K H a (ns.map V.int)->HOk P w H s₁.heap->(∀b,H b≠none->b=a)->(H a≠none->K.lookup a=none)->
   codeAny (model P w) callerA (.call (.ref fa) ⟨[.ref a],[]⟩) (fun r s'=>r= .ok (.ret (.bool true))/\OldK s₁.heap s'.heap/\s'.os=s₁.os/\AllBare s'.gens) s₁:=by
  intro H hO hS hok hA hK
  have base_of:∀{b:Addr} {o:Obj},s₁.heap.get? b=some o->H b=none->(hidT s₁.heap H).get? b=some o:=fun e n=>hidT_get e n
  have noA:∀{b:Addr} {o:Obj} {es:Array DictEntry} {ep:Nat},s₁.heap.get? b=some o->o.data= .dict es ep->H b=none:=fun{b o es ep} e d=>by
   cases q:H b with
   |none=>rfl
   |some u=>
    have e':b=a:=hA b (by rw [q];simp)
    subst e'
    rw [ha]at e;cases e
    have d':Data.seq vs.toArray _=Data.dict es ep:=d
    cases d'
  have nsK:∀{b:Addr} {m:Str->Option Value},s₁.heap.Ns b m->(hidT s₁.heap H).Ns b m:=fun{b m} ⟨o,es,ep,e,d,r⟩=>⟨o,es,ep,base_of e (noA e d),d,r⟩
  have hKb:K.In (hidT s₁.heap H):=fun b o e=>base_of (KX b o e) (by
   cases q:H b with
   |none=>rfl
   |some u=>
    have e':b=a:=hA b (by rw [q];simp)
    subst e'
    rw [hK (by rw [q];simp)]at e;cases e)
  have hM:Mod K mg (hidT s₁.heap H):=⟨hKb,nsK hns,⟨mb,nsK hb,hbb⟩,let⟨mc,h1,h2⟩:=hlim;⟨mc,nsK h1,h2⟩⟩
  have e0:Env0 P w K mg (hidT s₁.heap H) callerA [] s₁ H:=⟨rfl,hM,fun b o e=>of_hidT e,Nat.le_of_eq (hidT_size _ _),trivial,fun b hb=>absurd (show b∈([]:List Addr)from hb) (by simp),hok,.of_eq hg⟩
  refine codeAny_mono ((F _ hKb (nsK hns)).run callerA [] s₁ H ⟨[.ref a],[]⟩ [.ref a] [.ref a] _ _ hr e0 (hbind s₁ (.ref a)) (.cons rfl .nil) (hsp H hO hS)) fun r s' h=>?_
  cases r with
  |error e=>exact(hCX H e s' h).elim
  |ok fl=>
   cases fl with
   |next=>exact False.elim h
   |brk=>exact False.elim h
   |cont=>exact False.elim h
   |ret u=>
    obtain⟨v,H',os,bare,un,hok',r',q⟩:=h
    have q':v= .bl true:=q
    subst q'
    obtain rfl:u=Value.bool true:=r'
    refine⟨rfl,OldK.of_keep fun b o e=>?_,os,bare⟩
    cases q:H b with
    |none=>exact un.keep b o e q (by intro z;exact absurd (show b∈([]:List Addr)from z) (by simp)) (by simp)
    |some u=>
     rcases hO b with z|⟨ob,xs,z⟩
     ·rw [q]at z;cases z
     ·have z2:=un.frzs b ob _ z
      obtain⟨e1,_⟩:=hok b _ z
      obtain⟨e2,_⟩:=hok' b _ z2
      rw [e]at e1;cases e1
      exact e2
 cases hk:K.lookup a with
 |some o=>
  have e:=KX a o hk
  rw [ha]at e
  cases e
  refine core (fun _=>none) (fun _=> .inl rfl) (.inr ⟨_,vs.toArray,_,hk,rfl,rfl,rfl,by rw [List.size_toArray,lenV];exact hl,by simpa using rv⟩) (fun b u z=>by have z':(none:Option HO)=some u:=z;cases z') (fun b z=>absurd rfl z) fun z=>absurd rfl z
 |none=>
  refine core (fun b=>if b=a then some (.frz {cls:= .type "list",data:= .seq vs.toArray} (.lst (ns.map V.int)))else none) (fun b=>?_) (.inl (.inr ⟨{cls:= .type "list",data:= .seq vs.toArray},if_pos rfl⟩)) (fun b u z=>?_) (fun b z=>?_) fun _=>hk
  ·by_cases hb:b=a
   ·exact .inr ⟨_,_,if_pos hb⟩
   ·exact .inl (if_neg hb)
  ·by_cases hb:b=a
   ·have z':=(if_pos hb).symm.trans z
    cases z'
    subst hb
    exact⟨ha,by rw [List.length_map];exact hl,vs,_,rv,ha⟩
   ·have z':=(if_neg hb).symm.trans z
    cases z'
  ·by_cases hb:b=a
   ·exact hb
   ·exact absurd (if_neg hb) z
end L2
namespace L2
open PySem PySem.Spec PyProof.Rows
theorem walk_of {l:PySem.W.OpenLaw} {n k:Nat} {q:Program} {loose:List Str} {XP:(Str->Option Value)->Heap->Prop} {YP:World->Heap->Prop} {d:DefRec} {K:Params->PySem.W.Frag} {CX:World->CXT} {sp:World->Sp} {x:Str}
  (hn:l.most=some n) (hn2:n<=sizeLine) (hdf:d.params.defaults=[]) (hr:Room k callerA)
  (hY:∀(w:World) (h:Heap),YP w h->(K w.params).In h)
  (F:∀(w:World) (mg:Str->Option Value) (fa:Addr) (h:Heap),(K w.params).In h->h.Ns mainGlobals mg->mg d.name=some (.ref fa)->
   ∃fd:FuncData,(∀(s:Shared) (u:Value),BindsTo s fd ⟨[u],[]⟩ [(x,u)])/\
    ∀base:Heap,(K w.params).In base->base.Ns mainGlobals mg->FnOk l.prog w (K w.params) mg base (CX w) k fa fd [x] (sp w))
  (hsp:∀(w:World) (H:Hp) (a:Addr) (ns:List Int),ns.length<=n->Only H->SqL (K w.params) H a (ns.map V.int)->sp w [.ref a] H (fun v _=>v= .bl true) fun _ _ _=>False)
  (hCX:∀(w:World) (H:Hp) (s:Shared) (e:Value) (s':Shared),CX w [] H s (fun _ _ _=>False) e s'->False):
  PySem.W.WalkO q loose XP YP l.row.toRowW d [] (fun f vs=>PySem.call f vs):=by
 refine Att.attach_call hn hdf fun w s₀ s₁ mg mb fa o pm cd doc a vs ns G Y ho hd hcd hmg hobj hints hlen hg=>?_
 have KX:=hY w _ Y
 obtain⟨fd,hb,hF⟩:=F w mg fa _ KX G.T.g hmg
 exact law_call KX G.T.g G.T.b G.T.builtins G.T.nolimit hg hobj hints (Nat.le_trans hlen hn2) hr hF hb (fun H hO hS=>hsp w H a ns hlen hO hS) fun H e s'=>hCX w H s₁ e s'
end L2
/-THE LAST THEOREM (shape;LID,My.*are yours):
   My.Adr:a structure of the addresses that your layer names (classes,functions);My.Txt K t:a structure (Prop) of the equations over K;
   My.txt_mk:{K} {implicit addresses ..} (e1:nsIn K mainGlobals "law"=some (some (.ref f))) (e2:K.lookup f=some ⟨oc,od,.func (fnOf "law" "law" params body scope dV kV doc pm an cdv ct),sl⟩) (e3:codeIn K cdv "law"=true) .. :∃t,My.Txt K t
set_option maxRecDepth 100000 in
set_option maxHeartbeats 0 in
theorem PySem.Challenge.cw_LID_holds : PySem.Challenge.rw_LID.Holds := by
  w_on; o_law; k_head; (case hw => w_witness2)
  k_fill
  refine L2.walk_of (l := PySem.Challenge.rw_LID) (n := 63) (k := 40) (x := "script") (CX := fun w => ..) (sp := fun _ => My.sp_law) rfl (by decide) rfl ⟨rfl, by decide, by decide⟩ (fun w h Y => PySem.W.kIn_of Y) ?F ?S ?C
  case F =>
    intro w mg fa h KX G hmg
    have T : ∃ t, My.Txt (L2.KOf KX) t := by
      dsimp only [L2.KOf]                          -- K must stand as «<heap const> w.params» for k_is
      refine' My.txt_mk ?e1 ?e2 ?e3 ..
      (case e1 => PySem.W.k_is)                    -- in the order: a name -> its address -> its object -> its parts
      (case e2 => PySem.W.k_is)
      ..
    obtain ⟨t, T⟩ := T
    have e0 := hmg.symm.trans (PySem.W.mg_of KX G T.law)
    cases e0                                       -- fa is the law's own address
    exact ⟨_, fun s u => .of_eq rfl, fun base kb nb => My.law_fn T kb nb⟩     -- if «.of_eq rfl» comes too early: refine' ⟨_, ?b, fun base kb nb => My.law_fn T kb nb⟩; exact fun s u => .of_eq rfl
  case S => exact fun w H a ns hl hO hS => ..
  case C => exact ..
(the tactic k_is has no namespace:write k_is)-/
namespace L2
open PySem PySem.Spec PyProof.Rows
def defArgs (s:Stmt):Arguments:=match s with
 | .FunctionDef _ a _ _ _ _ _ _ _ _=>a
 |_=>{posonlyargs:=[],args:=[],vararg:=none,kwonlyargs:=[],kw_defaults:=[],kwarg:=none,defaults:=[]}
def defBody (s:Stmt):List Stmt:=match s with
 | .FunctionDef _ _ b _ _ _ _ _ _ _=>b
 |_=>[]
def defScope (s:Stmt):Scope:=match s with
 | .FunctionDef _ _ _ _ _ _ sc _ _ _=>sc
 |_=>{kind:= .function,names:=[],isGenerator:=false,isCoroutine:=false}
abbrev CX0:CXT:=fun _ _ _ _ _ _=>False
abbrev E0:XK:=fun _ _ _=>False
theorem pass0 {X:Cx}:Passes CX0 X E0:=fun _ _ _ _ _ _ _ h=>h.elim
structure Fun (K:PySem.W.Frag) (x qual:Str) (st:Stmt) (f:Addr) (fd:FuncData):Prop where
 ex:∃(oc:Value) (od:Option Addr) (kV doc pm:Value) (an:Option Addr) (cdv ct:Value) (osl:Array (Option Value)),
  fd=PySem.W.fnOf x qual (defArgs st) (defBody st) (defScope st) .none kV doc pm an cdv ct/\K.lookup f=some ⟨oc,od,.func fd,osl⟩/\PySem.W.codeIn K cdv qual=true
 kp:PySem.W.keepIn K (.ref f)=true
section
variable {P:Program} {w:World} {K:PySem.W.Frag} {mg:Str->Option Value} {base:Heap}
theorem Fun.ok {x qual:Str} {st:Stmt} {f:Addr} {fd:FuncData} {N ps:List Str} {k:Nat} {sp:Sp} (F:Fun K x qual st f fd) (S:FnScope N ps (defScope st)) (len:∀vs H Q E,sp vs H Q E->vs.length=ps.length)
  (hbody:∀(cdv:Value) (A:Around) (outer:List Env) (s:Shared) (H:Hp) (vs:List V) (Q:VK) (E:XK),Room k (A.deeper (envOfC qual (defScope st) s.heap.objs.size f cdv))->sp vs H Q E->
   ∃t,PSs (cxOf CX0 P w K mg base N qual (defScope st) f cdv A outer s H E).nox (defBody st) t/\t {nx:=fun _ H'=>Q .non H',rt:=Q} (start N vs) H):FnOk P w K mg base CX0 (k+1) f fd ps sp:=by
 obtain⟨oc,od,kV,doc,pm,an,cdv,ct,osl,rfl,lk,hcd⟩:=F.ex
 refine fn_of lk hcd S len fun A outer s H vs Q E hr hsp=>?_
 obtain⟨t,h,q⟩:=hbody cdv A outer s H vs Q E hr hsp
 exact⟨t,h.nox,q⟩
theorem Fun.binds {x qual:Str} {st:Stmt} {f:Addr} {fd:FuncData} {ps:List Str} (F:Fun K x qual st f fd)
  (h:∀(kV doc pm:Value) (an:Option Addr) (cdv ct:Value) (us:List Value),us.length=ps.length->bindArgs (PySem.W.fnOf x qual (defArgs st) (defBody st) (defScope st) .none kV doc pm an cdv ct) ⟨us,[]⟩=pure (ps.zip us)):Binds K fd ps []:=by
 obtain⟨oc,od,kV,doc,pm,an,cdv,ct,osl,rfl,lk,hcd⟩:=F.ex
 exact .all (h kV doc pm an cdv ct)
theorem fun_mk {x qual:Str} {st:Stmt} {f:Addr} {oc:Value} {od an:Option Addr} {osl:Array (Option Value)} {kV doc pm cdv ct:Value} (l:K.lookup f=some ⟨oc,od,.func (PySem.W.fnOf x qual (defArgs st) (defBody st) (defScope st) .none kV doc pm an cdv ct),osl⟩)
  (c:PySem.W.codeIn K cdv qual=true) (k:PySem.W.keepIn K (.ref f)=true):Fun K x qual st f (PySem.W.fnOf x qual (defArgs st) (defBody st) (defScope st) .none kV doc pm an cdv ct):=⟨⟨oc,od,kV,doc,pm,an,cdv,ct,osl,rfl,l,c⟩,k⟩
end
theorem hu_of {A:Around} {k:Nat} (hr:Room k A):A.units+1<cLine:=Nat.lt_of_le_of_lt (Nat.add_le_add_left (by decide:1<=64) _) hr.units
section
variable {X:Cx}
theorem pv (i:Nat) {x:Str} {pos:Pos} (hN:X.N[i]? =some x:=by rfl) (hv:Vis X.env.scope x:=by first|exact Or.inl rfl|exact Or.inr (Or.inl rfl)|exact Or.inr (Or.inr rfl)) (hd:(x==("__debug__":Str))=false:=by decide)
  (hcd:(x==("__classdict__":Str))=false:=by decide):PE X (.Name x pos) (tVar i):=pe_var hN hv hd hcd
end
theorem iteF {A B:Prop} (h:B):if false=true then A else B:=by
 rw [if_neg Bool.false_ne_true]
 exact h
theorem iteT {A B:Prop} (h:A):if true=true then A else B:=by
 rw [if_pos rfl]
 exact h
theorem ite2 {c A B:Prop} [Decidable c] (h1:c->A) (h2:¬c->B):if c then A else B:=by
 by_cases h:c
 ·rw [if_pos h]
  exact h1 h
 ·rw [if_neg h]
  exact h2 h
def Same (H H':Hp):Prop:=∀b o,H b=some o->H' b=some o
theorem Same.refl (H:Hp):Same H H:=fun _ _ h=>h
theorem Same.trans {H H1 H2:Hp} (a:Same H H1) (b:Same H1 H2):Same H H2:=fun c o h=>b c o (a c o h)
theorem Same.free {H H':Hp} (e:Same H H') {l:Addr} (h:H' l=Option.none):H l=Option.none:=by
 cases q:H l with
 |none=>rfl
 |some o=>
  rw [e l o q]at h
  cases h
end L2
set_option maxHeartbeats 4000000
namespace L2
open PySem PySem.Spec PyProof.Rows
section
variable {κ:Type} [DecidableEq κ]
def valV (kvs:List (κ×V)) (k:κ):Option V:=(kvs.find? fun kv=>decide (kv.1=k)).map (·.2)
def putK (kvs:List (κ×V)) (k:κ) (v:V):List (κ×V):=
 if(kvs.any fun kv=>decide (kv.1=k))=true then kvs.map (fun kv=>if kv.1=k then(kv.1,v)else kv)else kvs++[(k,v)]
theorem valV_pos {p:κ×V} {r:List (κ×V)} {k:κ} (e:p.1=k):valV (p::r) k=some p.2:=by simp [valV,List.find?_cons,e]
theorem valV_neg {p:κ×V} {r:List (κ×V)} {k:κ} (e:¬p.1=k):valV (p::r) k=valV r k:=by simp [valV,List.find?_cons,e]
theorem valV_any (k:κ):∀kvs:List (κ×V),(kvs.any fun kv=>decide (kv.1=k))=(valV kvs k).isSome
 | []=>rfl
 |p::r=>by
  rw [List.any_cons]
  by_cases e:p.1=k
  ·simp only [valV_pos e,decide_eq_true e,Bool.true_or,Option.isSome_some]
  ·rw [valV_neg e,decide_eq_false e,Bool.false_or];exact valV_any k r
theorem valV_map (k j:κ) (y:V):∀kvs:List (κ×V),valV (kvs.map fun kv=>if kv.1=k then(kv.1,y)else kv) j=(valV kvs j).map fun x=>if j=k then y else x
 | []=>rfl
 |p::r=>by
  have ih:=valV_map k j y r
  rw [List.map_cons]
  by_cases h:p.1=k
  ·rw [if_pos h]
   by_cases e:p.1=j
   ·rw [valV_pos (p:=(p.1,y)) e,valV_pos e,Option.map_some,if_pos (e.symm.trans h)]
   ·rw [valV_neg (p:=(p.1,y)) e,valV_neg e,ih]
  ·rw [if_neg h]
   by_cases e:p.1=j
   ·rw [valV_pos (p:=p) e,valV_pos e,Option.map_some,if_neg (fun z=>h (e.trans z))]
   ·rw [valV_neg (p:=p) e,valV_neg e,ih]
theorem valV_snoc (k j:κ) (y:V):∀kvs:List (κ×V),valV kvs k=none->valV (kvs++[(k,y)]) j=if j=k then some y else valV kvs j
 | [],_=>by
  by_cases e:k=j
  ·rw [if_pos e.symm];exact valV_pos (p:=(k,y)) e
  ·rw [if_neg (fun z=>e z.symm)];exact valV_neg (p:=(k,y)) e
 |p::r,hn=>by
  rw [List.cons_append]
  have hk:¬p.1=k:=fun z=>by rw [valV_pos z]at hn;cases hn
  rw [valV_neg hk]at hn
  have ih:=valV_snoc k j y r hn
  by_cases e:p.1=j
  ·rw [valV_pos e,valV_pos e,if_neg (fun z=>hk (e.trans z))]
  ·rw [valV_neg e,valV_neg e,ih]
theorem valV_put (kvs:List (κ×V)) (k j:κ) (y:V):valV (putK kvs k y) j=if j=k then some y else valV kvs j:=by
 unfold putK
 by_cases a:(kvs.any fun kv=>decide (kv.1=k))=true
 ·rw [if_pos a,valV_map]
  rw [valV_any]at a
  by_cases e:j=k
  ·obtain⟨x,hx⟩:=Option.isSome_iff_exists.mp a
   rw [if_pos e,e,hx,Option.map_some,if_pos rfl]
  ·rw [if_neg e]
   cases valV kvs j with
   |none=>rfl
   |some x=>rw [Option.map_some,if_neg e]
 ·rw [if_neg a]
  refine valV_snoc k j y kvs ?_
  rw [valV_any]at a
  cases q:valV kvs k with
  |none=>rfl
  |some x=>rw [q]at a;exact(a rfl).elim
theorem length_putK (kvs:List (κ×V)) (k:κ) (v:V):(putK kvs k v).length<=kvs.length+1:=by
 unfold putK
 split
 ·rw [List.length_map];omega
 ·rw [List.length_append,List.length_cons,List.length_nil];omega
theorem putK_new {kvs:List (κ×V)} {k:κ} (v:V) (h:valV kvs k=none):putK kvs k v=kvs++[(k,v)]:=by
 unfold putK
 rw [valV_any,h]
 exact if_neg (by decide)
theorem RelO.isSome_eq {o:Option V} {u:Option Value} (r:RelO o u):o.isSome=u.isSome:=by
 cases o with
 |none=>cases u with
  |none=>rfl
  |some _=>exact(show False from r).elim
 |some _=>cases u with
  |none=>exact(show False from r).elim
  |some _=>rfl
theorem KV.val {kvs:List (κ×V)} {vs:List (κ×Value)} (r:KV kvs vs) (k:κ):RelO (valV kvs k) (valueAt vs k):=by
 unfold KV at r
 induction r with
 |nil=>exact True.intro
 |@cons p q ps qs h t ih=>
  obtain⟨h1,h2⟩:=h
  by_cases e:p.1=k
  ·have e':q.1=k:=h1.symm.trans e
   have b:valueAt (q::qs) k=some q.2:=by simp [valueAt,List.find?_cons,e']
   rw [valV_pos e,b];exact h2
  ·have e':¬q.1=k:=fun z=>e (h1.trans z)
   have b:valueAt (q::qs) k=valueAt qs k:=by simp [valueAt,List.find?_cons,e']
   rw [valV_neg e,b];exact ih
theorem KV.any {kvs:List (κ×V)} {vs:List (κ×Value)} (r:KV kvs vs) (k:κ):(kvs.any fun kv=>decide (kv.1=k))=vs.any fun kv=>decide (kv.1=k):=by
 unfold KV at r
 induction r with
 |nil=>rfl
 |cons h t ih=>rw [List.any_cons,List.any_cons,ih,h.1]
theorem KV.repl {kvs:List (κ×V)} {vs:List (κ×Value)} (r:KV kvs vs) (k:κ) {y:V} {u:Value} (ry:RelV y u):
  KV (kvs.map fun kv=>if kv.1=k then(kv.1,y)else kv) (vs.map fun kv=>if kv.1=k then(kv.1,u)else kv):=by
 unfold KV at r⊢
 induction r with
 |nil=>exact .nil
 |@cons p q ps qs h t ih=>
  rw [List.map_cons,List.map_cons]
  refine .cons ?_ ih
  obtain⟨h1,h2⟩:=h
  by_cases e:p.1=k
  ·rw [if_pos e,if_pos (h1.symm.trans e)];exact⟨h1,ry⟩
  ·rw [if_neg e,if_neg (fun z=>e (h1.trans z))];exact⟨h1,h2⟩
theorem KV.put {kvs:List (κ×V)} {vs:List (κ×Value)} (r:KV kvs vs) (k:κ) {y:V} {u:Value} (ry:RelV y u):KV (putK kvs k y) (stored vs k u):=by
 unfold putK stored
 rw [r.any k]
 by_cases e:(vs.any fun kv=>decide (kv.1=k))=true
 ·rw [if_pos e,if_pos e];exact r.repl k ry
 ·rw [if_neg e,if_neg e];exact Paired.snoc r ⟨rfl,ry⟩
theorem KV.length {kvs:List (κ×V)} {vs:List (κ×Value)} (r:KV kvs vs):kvs.length=vs.length:=Paired.length r
end
theorem kV_is {P:Program} {w:World} {k:Key} {u:Value} (r:RelV (kV k) u):(mixKind P w).is k u=true:=by
 cases k with
 |inl i=>obtain⟨t,e⟩:=(show∃t,u=Value.int i t from r);subst e;exact mixKind_int P w i t
 |inr x=>obtain⟨t,e⟩:=(show∃t,u=Value.str x t from r);subst e;exact mixKind_str P w x t
theorem items_are {P:Program} {w:World}:∀{ks:List Key} {us:List Value},Vals (ks.map kV) us->ItemsAre (mixKind P w) ks us
 | [],_,r=>by rw [List.map_nil]at r;cases r;exact .nil
 |k::ks,_,r=>by
  rw [List.map_cons]at r
  cases r with
  |cons h t=>exact .cons (kV_is h) (items_are t)
abbrev KT (H:Hp):List (List Key×V)->List (List Key×Addr×Value)->Prop:=Paired fun p q=>p.1=q.1/\H q.2.1=some (.tup (p.1.map kV))/\RelV p.2 q.2.2
theorem KT.val {H:Hp} {kvs:List (List Key×V)} {xs:List (List Key×Addr×Value)} (r:KT H kvs xs) (k:List Key):RelO (valV kvs k) ((atKey xs k).map (·.2)):=by
 induction r with
 |nil=>exact True.intro
 |@cons p q ps qs h t ih=>
  obtain⟨h1,_,h2⟩:=h
  by_cases e:p.1=k
  ·have e':q.1=k:=h1.symm.trans e
   have b:atKey (q::qs) k=some q.2:=by simp [atKey,List.find?_cons,e']
   rw [valV_pos e,b];exact h2
  ·have e':¬q.1=k:=fun z=>e (h1.trans z)
   have b:atKey (q::qs) k=atKey qs k:=by simp [atKey,List.find?_cons,e']
   rw [valV_neg e,b];exact ih
theorem KT.repl {H:Hp} {kvs:List (List Key×V)} {xs:List (List Key×Addr×Value)} (r:KT H kvs xs) (k:List Key) {y:V} {u:Value} (ry:RelV y u):
  KT H (kvs.map fun kv=>if kv.1=k then(kv.1,y)else kv) (xs.map (putAt k u)):=by
 induction r with
 |nil=>exact .nil
 |@cons p q ps qs h t ih=>
  rw [List.map_cons,List.map_cons]
  refine .cons ?_ ih
  obtain⟨h1,h2,h3⟩:=h
  unfold putAt
  by_cases e:p.1=k
  ·rw [if_pos e,if_pos (h1.symm.trans e)];exact⟨h1,h2,ry⟩
  ·rw [if_neg e,if_neg (fun z=>e (h1.trans z))];exact⟨h1,h2,h3⟩
theorem KT.put {H:Hp} {kvs:List (List Key×V)} {xs:List (List Key×Addr×Value)} (r:KT H kvs xs) (k:List Key) {b:Addr} {y:V} {u:Value} (hb:H b=some (.tup (k.map kV))) (ry:RelV y u):
  KT H (putK kvs k y) (storedH xs k b u):=by
 have e:(kvs.any fun kv=>decide (kv.1=k))=(atKey xs k).isSome:=by
  rw [valV_any,(r.val k).isSome_eq,Option.isSome_map]
 unfold putK storedH
 rw [e]
 by_cases q:(atKey xs k).isSome=true
 ·rw [if_pos q,if_pos q];exact r.repl k ry
 ·rw [if_neg q,if_neg q];exact Paired.snoc r ⟨rfl,hb,ry⟩
theorem KT.keeps {H H':Hp} {kvs:List (List Key×V)} {xs:List (List Key×Addr×Value)} (r:KT H kvs xs) (ht:∀b ys,H b=some (.tup ys)->H' b=some (.tup ys)):KT H' kvs xs:=
 Paired.mapP r fun _ _ z=>⟨z.1,ht _ _ z.2.1,z.2.2⟩
section
variable {P:Program} {w:World} {H:Hp} {h:Heap} {a:Addr}
theorem rd_of {u:HO} (ok:HOk P w H h) (e:Rd H a u):ObjOk P w H h a u:=e.ok ok
theorem dk_rd {kvs:List (Key×V)} (ok:HOk P w H h) (e:Rd H a (.dK kvs)):kvs.length<=sizeLine/\(a==sysModules)=false/\∃vs,KV kvs vs/\h.DictOf (mixKind P w) a vs:=
 show ObjOk P w H h a (.dK kvs)from rd_of ok e
theorem dk_of {kvs:List (Key×V)} (ok:HOk P w H h) (e:H a=some (.dK kvs)):kvs.length<=sizeLine/\(a==sysModules)=false/\∃vs,KV kvs vs/\h.DictOf (mixKind P w) a vs:=dk_rd ok (.inl e)
theorem key_of {ks:List Key} (ok:HOk P w H h) (e:H a=some (.tup (ks.map kV))):(tupleKind (mixKind P w)).is h ks a:=by
 obtain⟨_,its,r,o,h1,h2,n,h3⟩:=(show ObjOk P w H h a (.tup (ks.map kV))from ok a _ e)
 exact⟨o,its.toArray,n,h1,h2,h3,by simpa using items_are r⟩
theorem dt_rd {kvs:List (List Key×V)} (ok:HOk P w H h) (e:Rd H a (.dT kvs)):kvs.length<=sizeLine/\(a==sysModules)=false/\
  ∃xs,KT H kvs xs/\h.DictOfH (tupleKind (mixKind P w)) a xs:=by
 obtain⟨z,y,xs,r,o,es,ep,h1,h2,h3,h4,h5⟩:=(show ObjOk P w H h a (.dT kvs)from rd_of ok e)
 refine⟨z,y,xs,r,o,es,ep,h1,h2,h3,h4,fun x hx=>?_,h5⟩
 have all:∀{l:List (List Key×V)} {m:List (List Key×Addr×Value)},KT H l m->∀x∈m,(tupleKind (mixKind P w)).is h x.1 x.2.1:=by
  intro l m q
  induction q with
  |nil=>intro x hx;exact nomatch hx
  |@cons p q ps qs hq t ih=>
   intro x hx
   rcases List.mem_cons.mp hx with e|hx
   ·subst e
    exact key_of ok (by rw [<-hq.1];exact hq.2.1)
   ·exact ih x hx
 exact all r x hx
theorem dt_of {kvs:List (List Key×V)} (ok:HOk P w H h) (e:H a=some (.dT kvs)):kvs.length<=sizeLine/\(a==sysModules)=false/\
  ∃xs,KT H kvs xs/\h.DictOfH (tupleKind (mixKind P w)) a xs:=dt_rd ok (.inl e)
end
def DGet (H:Hp) (a:Addr) (y:V) (r:Option V):Prop:=
 (∃kvs k,Rd H a (.dK kvs)/\y=kV k/\r=valV kvs k)∨∃kvs k b,Rd H a (.dT kvs)/\y= .ref b/\H b=some (.tup (k.map kV))/\r=valV kvs k
def DPut (H:Hp) (a:Addr) (y v:V) (H':Hp):Prop:=
 (∃kvs k,H a=some (.dK kvs)/\y=kV k/\kvs.length<sizeLine/\H'=upd H a (.dK (putK kvs k v)))∨
 ∃kvs k b,H a=some (.dT kvs)/\y= .ref b/\H b=some (.tup (k.map kV))/\kvs.length<sizeLine/\H'=upd H a (.dT (putK kvs k v))
theorem DGet.k {H:Hp} {a:Addr} {kvs:List (Key×V)} {k:Key} (e:H a=some (.dK kvs)):DGet H a (kV k) (valV kvs k):= .inl ⟨kvs,k,.inl e,rfl,rfl⟩
theorem DPut.k {H:Hp} {a:Addr} {kvs:List (Key×V)} {k:Key} {v:V} (e:H a=some (.dK kvs)) (hl:kvs.length<sizeLine):DPut H a (kV k) v (upd H a (.dK (putK kvs k v))):= .inl ⟨kvs,k,e,rfl,hl,rfl⟩
section
variable {X:Cx} {pins:List (Addr×Obj)} {σ:St} {H:Hp} {s:Shared} {a:Addr} {y v:V} {u r:Value} {o:Option V} {A:Around} {E:Value->Shared->Prop}
theorem Inv.big (I:Inv X pins σ H s):sysModules<s.heap.objs.size:=by
 have h:mainGlobals<s.heap.objs.size:=(I.mod.glob.keeps I.bk).lt
 exact Nat.lt_trans (by decide) h
theorem d_getItem {Q:Value->Shared->Prop} (hu:A.units+1<cLine) (I:Inv X pins σ H s) (g:DGet H a y (some v)) (ry:RelV y u) (h:∀w' s',Inv X pins σ H s'->RelV v w'->Q w' s'):
  wpAny (model X.prog X.w) A (getItem (.ref a) u) Q E s:=by
 rcases g with ⟨kvs,k,e,ey,l⟩|⟨kvs,k,b,e,ey,eb,l⟩
 ·subst ey
  obtain⟨z,hd,vs,rel,dd⟩:=dk_rd I.hok e
  obtain⟨w',hw,rw'⟩:=RelO.some_of (v:=v) (o:=valueAt vs k) (by rw [l];exact rel.val k)
  exact wpAny_getItem_of (kV_is ry) dd.mapOf hw (h w' _ (I.tok _) rw')
 ·subst ey
  cases (show u=Value.ref b from ry)
  obtain⟨z,hd,xs,rel,dd⟩:=dt_rd I.hok e
  obtain⟨w',hw,rw'⟩:=RelO.some_of (v:=v) (o:=(atKey xs k).map (·.2)) (by rw [l];exact rel.val k)
  obtain⟨p,hp,hp2⟩:=Option.map_eq_some_iff.mp hw
  refine wpAny_getItem_heap (tupleKind_room_in1 hu) (key_of I.hok eb) dd hp ?_
  rw [hp2]
  exact h w' _ (I.tok _) rw'
theorem d_notIn {Q:Value->Shared->Prop} (hu:A.units+1<cLine) (I:Inv X pins σ H s) (g:DGet H a y o) (ry:RelV y u) (h:∀s',Inv X pins σ H s'->Q (.bool (!o.isSome)) s'):
  wpAny (model X.prog X.w) A (compareOp .NotIn u (.ref a)) Q E s:=by
 rcases g with ⟨kvs,k,e,ey,l⟩|⟨kvs,k,b,e,ey,eb,l⟩
 ·subst ey
  obtain⟨z,hd,vs,rel,dd⟩:=dk_rd I.hok e
  refine wpAny_notIn_of (kV_is ry) hd dd.mapOf ?_
  rw [<-(rel.val k).isSome_eq, <-l]
  exact h _ (I.tok _)
 ·subst ey
  cases (show u=Value.ref b from ry)
  obtain⟨z,hd,xs,rel,dd⟩:=dt_rd I.hok e
  refine wpAny_notIn_heap (tupleKind_room_in1 hu) (key_of I.hok eb) hd dd ?_
  have q:=(rel.val k).isSome_eq
  rw [Option.isSome_map]at q
  rw [<-q, <-l]
  exact h _ (I.tok _)
theorem d_write {h':Heap} {t':Nat} {ob:HO} (I:Inv X pins σ H s) (mu:Mut (H a)) (hs:Heap.SameBut a s.heap h') (he:∃q,h'.get? a=some q) (new:ObjOk X.prog X.w (upd H a ob) h' a ob):
  Inv X pins σ (upd H a ob) {s with heap:=h',toks:=t'}:=
 I.write (x:=a) (e:=a) mu (.inl rfl) (fun b q hb z=>(hs.2 b hb).trans z) he new
theorem dk_new {P:Program} {w:World} {H':Hp} {h':Heap} {kvs:List (Key×V)} {vs:List (Key×Value)} (z:kvs.length<=sizeLine) (hd:(a==sysModules)=false) (rel:KV kvs vs) (dd:h'.DictOf (mixKind P w) a vs):
  ObjOk P w H' h' a (.dK kvs):=⟨z,hd,vs,rel,dd⟩
theorem d_setItem {H':Hp} {Q:Unit->Shared->Prop} (hu:A.units+1<cLine) (I:Inv X pins σ H s) (g:DPut H a y v H') (ry:RelV y u) (rv:RelV v r) (h:∀s',Inv X pins σ H' s'->Q () s'):
  wpAny (model X.prog X.w) A (setItem (.ref a) u r) Q E s:=by
 rcases g with ⟨kvs,k,e,ey,l,eH⟩|⟨kvs,k,b,e,ey,eb,l,eH⟩
 ·subst ey eH
  obtain⟨z,hd,vs,rel,dd⟩:=dk_of I.hok e
  have hz:vs.length<=sizeLine:=by rw [<-rel.length];exact z
  have hl:(putK kvs k v).length<=sizeLine:=by have:=length_putK kvs k v;omega
  refine wpAny_setItem_pairs (hsz:=hz) (kV_is ry) dd fun h' dd' hs=>h _ ?_
  have he:∃q,h'.get? a=some q:=let⟨q,_,_,hq,_⟩:=dd';⟨q,hq⟩
  exact d_write I (by rw [e];exact True.intro) hs he (dk_new hl hd (rel.put k rv) dd')
 ·subst ey eH
  cases (show u=Value.ref b from ry)
  obtain⟨z,hd,xs,rel,dd⟩:=dt_of I.hok e
  have hz:xs.length<=sizeLine:=by rw [<-Paired.length rel];exact z
  have hl:(putK kvs k v).length<=sizeLine:=by have:=length_putK kvs k v;omega
  refine wpAny_setItem_heap (hsz:=hz) (tupleKind_room_in1 hu) (key_of I.hok eb) dd fun h' dd' hs=>h _ ?_
  obtain⟨q,es,ep,hq,h2,h3,h4,_,h5⟩:=dd'
  refine d_write I (by rw [e];exact True.intro) hs ⟨q,hq⟩ ⟨hl,hd,_,(rel.put k eb rv).keeps fun c ys ec=>?_,q,es,ep,hq,h2,h3,h4,h5⟩
  rw [upd_ne (ne_of ec e (fun z=>nomatch z))]
  exact ec
end
section
variable {X:Cx} {pins:List (Addr×Obj)} {σ:St} {H:Hp} {s:Shared} {a:Addr} {kvs:List (Key×V)} {k:Key} {u:Value} {A:Around} {E:Value->Shared->Prop}
theorem d_len {Q:Value->Shared->Prop} (I:Inv X pins σ H s) (e:Rd H a (.dK kvs)) (h:∀t s',Inv X pins σ H s'->Q (.int kvs.length t) s'):wpAny (model X.prog X.w) A (call (.builtin "len") [.ref a]) Q E s:=by
 obtain⟨z,hd,vs,rel,dd⟩:=dk_rd I.hok e
 refine call_len_dict hd dd (by rw [<-rel.length];rw [sizeLine_eq]at z;omega) ?_
 rw [<-rel.length]
 exact h _ _ (I.tok _)
end
def NoSl (i:Expr):Prop:=∀ov iv,subscripted i false ov iv=operate [ov,iv] (getItem ov iv)
theorem subD_of {prog:Program} {w:World} {A:Around} {E:Value->Shared->Prop} {s:Shared} {env:Env} {value slice:Expr} {pos:Pos} {T id:String} {Q:Value->Shared->Prop}
  (hl:typeLookup (.type T) "__getitem__"=pure (some (.builtin id))) (hs:NoSl slice)
  (h:wpAny (model prog w) A (eval value env) (fun o s₁=>wpAny (model prog w) A (eval slice env) (fun i s₂=>s₂.TypeIs o T/\wpAny (model prog w) A (getItem o i) Q E s₂) E s₁) E s):
  wpAny (model prog w) A (eval (.Subscript value slice pos) env) Q E s:=by
 refine Subscript_ (wpAny_mono h (fun o s₁ h₁=>wpAny_mono h₁ (fun i s₂ h₂=>?_) fun _ _ x=>x) fun _ _ x=>x)
 obtain⟨hT,h₂⟩:=h₂
 unfold subscriptTail
 refine wpAny_bind ?_
 rw [getitemInPython_of_ne hT.not_modules]
 refine wpAny_bind (wpAny_specialOf hT hl ?_)
 have fin:wpAny (model prog w) A (subscripted slice false o i) (fun r s₃=>wpAny (model prog w) A (letTemporaryGo value o r>>=fun _=>pure r) Q E s₃) E s₂:=by
  rw [hs o i]
  exact wpAny_operating (wpAny_mono h₂ (fun r s₃ h₃=>wpAny_bind (wpAny_letTemporaryGo (wpAny_pure h₃))) fun _ _ x=>x)
 first
  |exact wpAny_pure (wpAny_bind fin)
  |exact wpAny_bind (wpAny_pure (wpAny_bind fin))
  |exact wpAny_bind fin
theorem dict_typeIs {X:Cx} {pins:List (Addr×Obj)} {σ:St} {H:Hp} {s:Shared} {a:Addr} {y:V} {o:Option V} (I:Inv X pins σ H s) (g:DGet H a y o):s.TypeIs (.ref a) "dict":=by
 rcases g with ⟨kvs,k,e,_,_⟩|⟨kvs,k,b,e,_,_,_⟩
 ·obtain⟨_,_,vs,_,dd⟩:=dk_rd I.hok e
  exact dd.typeIs
 ·obtain⟨_,_,xs,_,dd⟩:=dt_rd I.hok e
  exact dd.typeIs
def tDGet (td ty:TE):TE:=fun σ H Q=>td σ H fun x H1=>ty σ H1 fun y H2=>∃a v,x= .ref a/\DGet H2 a y (some v)/\Q v H2
def tDNotIn (ty td:TE):TE:=fun σ H Q=>ty σ H fun y H1=>td σ H1 fun x H2=>∃a o,x= .ref a/\DGet H2 a y o/\Q (.bl (!o.isSome)) H2
def sDPut (td ty tv:TE):TS:=fun D σ H=>tv σ H fun v H1=>td σ H1 fun x H2=>ty σ H2 fun y H3=>∃a H4,x= .ref a/\DPut H3 a y v H4/\D.nx σ H4
section
variable {X:Cx} {o i e value:Expr} {pos pos' tpos:Pos} {td ty tv:TE}
theorem pe_dget (hu:X.A.units+1<cLine) (ho:PE X o td) (hi:PE X i ty) (hs:NoSl i):PE X (.Subscript o i pos) (tDGet td ty):=by
 intro pins s σ H Q I h
 refine subD_of PySem.F.slot_dict_getitem.lookup hs (thn (ho pins s σ H _ I h) fun u s1 ⟨x,H1,I1,rx,q1⟩=>thn (hi pins s1 σ H1 _ I1 q1) fun iv s2 ⟨y,H2,I2,ry,a,v,ex,g,q2⟩=>?_)
 subst ex
 obtain rfl:u=Value.ref a:=rx
 exact⟨dict_typeIs I2 g,d_getItem hu I2 g ry fun w' s3 I3 rw'=>⟨v,H2,I3,rw',q2⟩⟩
theorem pc_dnotin (hu:X.A.units+1<cLine) (hi:PE X i ty) (ho:PE X o td):PC X .NotIn i o (tDNotIn ty td):=by
 intro pins s σ H Q I h
 refine thn (hi pins s σ H _ I h) fun iv s1 ⟨y,H1,I1,ry,q1⟩=>thn (ho pins s1 σ H1 _ I1 q1) fun u s2 ⟨x,H2,I2,rx,a,ov,ex,g,q2⟩=>?_
 subst ex
 obtain rfl:u=Value.ref a:=rx
 exact d_notIn hu I2 g ry fun s3 I3=>⟨.bl (!ov.isSome),H2,I3,rfl,q2⟩
theorem ps_dput (hu:X.A.units+1<cLine) (ho:PE X o td) (hi:PE X i ty) (hv:PE X value tv) (hs:swapsWith value (some (.Subscript o i pos')) pos.line X.env=pure false):
  PS X (.Assign [.Subscript o i pos'] value pos) (sDPut td ty tv):=by
 intro pins s σ H D I h
 refine wpAny_Assign_Subscript (thn (hv pins s σ H _ I h) fun r s1 ⟨v,H1,I1,rv,q1⟩=>thn (ho pins s1 σ H1 _ I1 q1) fun u s2 ⟨x,H2,I2,rx,q2⟩=>thn (hi pins s2 σ H2 _ I2 q2) fun iv s3 ⟨y,H3,I3,ry,a,H4,ex,g,q3⟩=>?_) hs
 subst ex
 obtain rfl:u=Value.ref a:=rx
 exact d_setItem hu I3 g ry rv fun s4 I4=>⟨σ,H4,I4,q3⟩
end
theorem dk_empty {P:Program} {w:World} {H:Hp} (h:Heap) (hb:sysModules<h.objs.size):ObjOk P w H (h.push {cls:= .type "dict",data:= .dict #[]}) h.objs.size (.dK []):=
 ⟨Nat.zero_le _,beq_eq_false_iff_ne.mpr (Ne.symm (Nat.ne_of_lt hb)),[],.nil,Heap.DictOf.new h⟩
def tDNewK:TE:=fun _ H Q=>∀p,H p=none->Q (.ref p) (upd H p (.dK []))
section
variable {X:Cx} {pos:Pos}
theorem pe_dnewK:PE X (.Dict [] [] pos) tDNewK:=fun pins s σ H Q I h=>
 wpAny_Dict_empty ⟨.ref s.heap.objs.size,_,I.laid (a:=s.heap.objs.size) (o:= .dK []) (t':=s.toks) (fun _ _ q=>Heap.get?_push_of_some _ q) (Nat.le_refl _) (dk_empty s.heap I.big),rfl,h _ (I.hok.fresh (Nat.le_refl _))⟩
end
def IsD (H:Hp) (a:Addr):Prop:=(∃kvs,Rd H a (.dK kvs))∨∃kvs,Rd H a (.dT kvs)
theorem isD_at {X:Cx} {pins:List (Addr×Obj)} {σ:St} {H:Hp} {s:Shared} {a:Addr} (I:Inv X pins σ H s) (d:IsD H a):
  s.TypeIs (.ref a) "dict"/\(∀b,Value.ref a= .ref b->∃ob,s.heap.get? b=some ob/\ob.dict=none)/\(a==sysModules)=false:=by
 rcases d with ⟨kvs,e⟩|⟨kvs,e⟩
 ·obtain⟨_,hd,vs,_,dd⟩:=dk_rd I.hok e
  refine⟨dd.typeIs,fun b q=>?_,hd⟩
  cases q
  obtain⟨ob,_,_,h1,h2,_⟩:=dd
  exact⟨ob,h1,h2.2.1⟩
 ·obtain⟨_,hd,xs,_,dd⟩:=dt_rd I.hok e
  refine⟨dd.typeIs,fun b q=>?_,hd⟩
  cases q
  obtain⟨ob,_,_,h1,h2,_⟩:=dd
  exact⟨ob,h1,h2.2.1⟩
section
variable {X:Cx} {pins:List (Addr×Obj)} {σ:St} {H:Hp} {s:Shared} {a:Addr} {y d:V} {u r:Value} {o:Option V} {A:Around} {E:Value->Shared->Prop}
end
section
variable {X:Cx} {o e f:Expr} {apos cpos:Pos} {td ty tx:TE}
end
section
variable {X:Cx} {pins:List (Addr×Obj)} {σ:St} {H:Hp} {s:Shared} {a:Addr} {kvs:List (Key×V)} {A:Around} {E:Value->Shared->Prop}
end
section
variable {X:Cx} {pins:List (Addr×Obj)} {σ:St} {H:Hp} {s:Shared} {a:Addr} {y:V} {u:Value} {A:Around} {E:Value->Shared->Prop}
end
end L2
namespace L2
open PySem PySem.Spec PyProof.Rows
section
variable {X:Cx}
theorem call_lenD:CallR X (.builtin "len") (fun xs H Q=>∃a kvs,xs=[V.ref a]/\H a=some (.dK kvs)/\Q (.int kvs.length) H):=by
 intro pins s σ H xs us Q I r h
 obtain⟨a,kvs,rfl,ha,q⟩:=h
 obtain⟨u,rfl,ru⟩:=vals1 r
 cases ru
 exact d_len I (.inl ha) fun t s' I'=>⟨.int kvs.length,H,I',⟨t,rfl⟩,q⟩
end
section
variable {κ:Type} [DecidableEq κ]
theorem valV_not {kvs:List (κ×V)} {k:κ} (h:valV kvs k=none):¬k∈kvs.map (·.1):=by
 intro m
 obtain⟨p,hp,e⟩:=List.mem_map.mp m
 have q:(kvs.any fun kv=>decide (kv.1=k))=true:=List.any_eq_true.mpr ⟨p,hp,decide_eq_true e⟩
 rw [valV_any,h]at q
 exact absurd q (by simp)
theorem valV_in {kvs:List (κ×V)} {k:κ} {v:V} (h:valV kvs k=some v):k∈kvs.map (·.1):=by
 have q:(kvs.any fun kv=>decide (kv.1=k))=true:=by
  rw [valV_any,h]
  all_goals rfl
 obtain⟨p,hp,e⟩:=List.any_eq_true.mp q
 exact List.mem_map.mpr ⟨p,hp,of_decide_eq_true e⟩
end
end L2
namespace PySem
open AutoSeq1 (wpAny_loadPart')
open Sem (wp)
section
variable {prog:Program} {w:World} {A:Around} {E:Value->Shared->Prop} {s:Shared}
end
section
variable {prog:Program} {w:World} {A:Around} {E:Value->Shared->Prop} {s:Shared}
end
end PySem
namespace PySem
open Sem (wp)
section
variable {prog:Program} {w:World} {K:Type} [DecidableEq K] (knd:KeyKind prog w K)
variable {knd}
variable {A:Around} {E:Value->Shared->Prop} {s:Shared}
end
end PySem
namespace PySem
namespace SetTable
def leaps (mask:Nat):Nat->Nat×Nat->Nat×Nat
 |0,p=>p
 |m+1,p=>leaps mask m (leap mask p.1 p.2)
theorem leaps_perturb (mask:Nat):∀m p,(leaps mask m p).2=p.2 / 32 ^ m
 |0,p=>by rw [leaps,Nat.pow_zero,Nat.div_one]
 |m+1,p=>by
  rw [leaps,leaps_perturb mask m]
  show p.2 / 32 / 32 ^ m=_
  rw [Nat.div_div_eq_div_mul,Nat.pow_succ,Nat.mul_comm]
theorem leaps_add (mask:Nat):∀m k p,leaps mask (m+k) p=leaps mask k (leaps mask m p)
 |0,k,p=>by rw [Nat.zero_add,leaps]
 |m+1,k,p=>by rw [Nat.succ_add,leaps,leaps_add mask m k,leaps]
def five (mask i:Nat):Nat:=(i*5+1) % (mask+1)
def fives (mask:Nat):Nat->Nat->Nat
 |0,i=>i
 |m+1,i=>fives mask m (five mask i)
theorem leaps_five (mask:Nat):∀m i,(leaps mask m (i,0))=(fives mask m i,0)
 |0,i=>rfl
 |m+1,i=>by
  rw [leaps,fives]
  show leaps mask m ((i*5+1+0 / 32) % (mask+1),0 / 32)=_
  rw [Nat.zero_div,Nat.add_zero]
  exact leaps_five mask m (five mask i)
theorem leaps_lt (mask:Nat):∀m p,(leaps mask (m+1) p).1<=mask
 |0,p=>by
  show(p.1*5+1+p.2 / 32) % (mask+1)<=mask
  have:=Nat.mod_lt (p.1*5+1+p.2 / 32) (show 0<mask+1 by omega)
  omega
 |m+1,p=>by rw [leaps];exact leaps_lt mask m _
def Round (mask:Nat):Prop:=∀i,i<=mask->∀e,e<=mask->∃k,k<=mask/\fives mask (k+1) i=e
theorem round_of {mask:Nat} (h:∀i:_root_.Fin (mask+1),∀e:_root_.Fin (mask+1),∃k:_root_.Fin (mask+1),fives mask (k.1+1) i.1=e.1):Round mask:=fun i hi e he=>by
 obtain⟨k,hk⟩:=h ⟨i,by omega⟩ ⟨e,by omega⟩
 exact⟨k.1,by omega,hk⟩
theorem round7:Round 7:=round_of (by decide+kernel)
theorem round31:Round 31:=round_of (by decide+kernel)
theorem leaps_meet {mask:Nat} (R:Round mask) {e:Nat} (he:e<=mask) (i perturb:Nat) (hp:perturb<2 ^ 64):∃L,1<=L/\L<=mask+14/\(leaps mask L (i,perturb)).1=e:=by
 have h13:(leaps mask 13 (i,perturb)).2=0:=by
  rw [leaps_perturb]
  exact Nat.div_eq_of_lt (Nat.lt_of_lt_of_le hp (by decide))
 have hi:=leaps_lt mask 12 (i,perturb)
 obtain⟨k,hk,e1⟩:=R _ hi e he
 refine⟨13+(k+1),by omega,by omega,?_⟩
 rw [leaps_add]
 have e2:leaps mask 13 (i,perturb)=((leaps mask 13 (i,perturb)).1,0):=Prod.ext rfl h13
 rw [e2,leaps_five]
 exact e1
variable {t:SetTable} {hashAt:Nat->Int} {h:Int}
theorem run_le (mask i:Nat):runEnd mask i-i<=9:=by unfold runEnd;split<;>omega
theorem go_some {e:Nat} (hd:∀j,t.slot j≠ .dummy) (he:t.slot e= .empty):∀(fuel:Nat) (p:Probe) (L:Nat),1<=L->(leaps t.mask L (p.i,p.perturb)).1=e->p.more+2+10*(L-1)<=fuel->∃m,probe.go t hashAt h fuel p=some m:=by
 intro fuel
 induction fuel with
 |zero=>intro p L h1 _ h3;omega
 |succ fuel ih=>
  intro p L h1 h2 h3
  have step:∃m,probe.go t hashAt h fuel (t.advance p)=some m:=by
   unfold advance
   by_cases hm:p.more>0
   ·rw [if_pos hm]
    exact ih _ L h1 h2 (by show p.more-1+2+10*(L-1)<=fuel;omega)
   ·rw [if_neg hm]
    match L,h1 with
    |1,_=>
     have h4:(leap t.mask p.i p.perturb).1=e:=h2
     cases fuel with
     |zero=>omega
     |succ f=>
      show∃m,(match t.slot (leap t.mask p.i p.perturb).1 with| .empty=>_| .dummy=>_| .live i=>_)=some m
      rw [h4,he]
      exact⟨_,rfl⟩
    |L+2,_=>
     have hr:=run_le t.mask (leap t.mask p.i p.perturb).1
     exact ih _ (L+1) (by omega) h2 (by show runEnd t.mask (leap t.mask p.i p.perturb).1-(leap t.mask p.i p.perturb).1+2+10*(L+1-1)<=fuel;omega)
  show∃m,(match t.slot p.j with| .empty=>some (.empty p.j p.dummy)| .dummy=>probe.go t hashAt h fuel (t.advance {p with dummy:=some p.j})| .live i=>if(hashAt i==h)=true then some (.candidate p.j i (t.advance p))else probe.go t hashAt h fuel (t.advance p))=some m
  cases hs:t.slot p.j with
  |empty=>exact⟨_,rfl⟩
  |dummy=>exact absurd hs (hd _)
  |live i=>
   by_cases hh:(hashAt i==h)=true
   ·exact⟨_,if_pos hh⟩
   ·obtain⟨m,hm⟩:=step
    exact⟨m,by simp only;rw [if_neg hh];exact hm⟩
theorem probe_some {e:Nat} (R:Round t.mask) (he:e<=t.mask) (hd:∀j,t.slot j≠ .dummy) (hs:t.slot e= .empty) (p:Probe) (hp:p.perturb<2 ^ 64) (hm:p.more<=9):∃m,t.probe hashAt h p=some m:=by
 obtain⟨L,h1,h2,h3⟩:=leaps_meet R he p.i p.perturb hp
 refine go_some hd hs _ p L h1 h3 ?_
 unfold turns
 omega
def Rise (xs:Array Nat):Prop:=∀i k,i<k->k<xs.size->xs.getD i 0<xs.getD k 0
theorem getD_any {xs:Array Nat} {i a b:Nat} (h:i<xs.size):xs.getD i a=xs.getD i b:=by simp [Array.getD,h]
theorem below_go {xs:Array Nat} {j:Nat} (R:Rise xs):∀(fuel lo hi:Nat),lo<=hi->hi<=xs.size->hi-lo<=fuel->(∀i,i<lo->xs.getD i 0<j)->(∀i,hi<=i->i<xs.size->j<=xs.getD i 0)->
  below.go xs j fuel lo hi<=xs.size/\(∀i,i<below.go xs j fuel lo hi->xs.getD i 0<j)/\∀i,below.go xs j fuel lo hi<=i->i<xs.size->j<=xs.getD i 0:=by
 intro fuel
 induction fuel with
 |zero=>
  intro lo hi h1 h2 h3 a b
  have:lo=hi:=by omega
  subst this
  exact⟨h2,a,b⟩
 |succ fuel ih=>
  intro lo hi h1 h2 h3 a b
  have key:below.go xs j (fuel+1) lo hi=if lo<hi then(if xs.getD ((lo+hi) / 2) j<j then below.go xs j fuel ((lo+hi) / 2+1) hi else below.go xs j fuel lo ((lo+hi) / 2))else lo:=rfl
  rw [key]
  by_cases hl:lo<hi
  ·have hm:(lo+hi) / 2<xs.size:=by omega
   rw [if_pos hl]
   by_cases hx:xs.getD ((lo+hi) / 2) j<j
   ·rw [if_pos hx]
    refine ih _ _ (by omega) h2 (by omega) (fun i hi'=>?_) b
    by_cases e:i=(lo+hi) / 2
    ·subst e;rw [getD_any hm (b:=j)];exact hx
    ·have:=R i ((lo+hi) / 2) (by omega) hm
     rw [getD_any hm (b:=j)]at this
     omega
   ·rw [if_neg hx]
    refine ih _ _ (by omega) (by omega) (by omega) a fun i hi' hs=>?_
    rw [getD_any hm (b:=0)]at hx
    by_cases e:i=(lo+hi) / 2
    ·subst e;omega
    ·have:=R ((lo+hi) / 2) i (by omega) hs
     omega
  ·have:lo=hi:=by omega
   subst this
   rw [if_neg hl]
   exact⟨h2,a,b⟩
theorem below_spec {xs:Array Nat} (R:Rise xs) (j:Nat):below xs j<=xs.size/\(∀i,i<below xs j->xs.getD i 0<j)/\∀i,below xs j<=i->i<xs.size->j<=xs.getD i 0:=
 below_go R _ _ _ (Nat.zero_le _) (Nat.le_refl _) (by omega) (fun i h=>absurd h (Nat.not_lt_zero i)) fun i h1 h2=>by omega
theorem below_at {xs:Array Nat} (R:Rise xs) {i:Nat} (h:i<xs.size):below xs (xs.getD i 0)=i:=by
 obtain⟨_,h2,h3⟩:=below_spec R (xs.getD i 0)
 rcases Nat.lt_trichotomy (below xs (xs.getD i 0)) i with z|z|z
 ·have:=h3 (below xs (xs.getD i 0)) (Nat.le_refl _) (by omega)
  have:=R _ i z h
  omega
 ·exact z
 ·have:=h2 i z
  omega
theorem get_getD {xs:Array Nat} {i j:Nat}:xs[i]? =some j↔i<xs.size/\xs.getD i 0=j:=by
 by_cases h:i<xs.size
 ·simp [Array.getD,h]
 ·simp [h]
theorem slot_live (R:Rise t.place) {i j:Nat} (h:t.place[i]? =some j):t.slot j= .live i:=by
 obtain⟨h1,rfl⟩:=get_getD.mp h
 unfold slot
 dsimp only
 rw [below_at R h1,h]
 simp
theorem slot_other (hd:t.dummies= #[]) {j:Nat} (h:∀i:Nat,t.place[i]? ≠some j):t.slot j= .empty:=by
 unfold slot
 dsimp only
 have h1:(t.place[below t.place j]? ==some j)=false:=beq_eq_false_iff_ne.mpr (h _)
 rw [h1]
 have h2:has t.dummies j=false:=by rw [hd];unfold has;simp
 rw [h2]
 rfl
theorem slot_cases (hd:t.dummies= #[]) (j:Nat):t.slot j= .empty∨∃i:Nat,t.slot j= .live i/\t.place[i]? =some j:=by
 by_cases h:t.place[below t.place j]? =some j
 ·refine .inr ⟨below t.place j,?_,h⟩
  unfold slot
  dsimp only
  rw [h]
  simp
 ·refine .inl ?_
  unfold slot
  dsimp only
  have h1:(t.place[below t.place j]? ==some j)=false:=beq_eq_false_iff_ne.mpr h
  rw [h1]
  have h2:has t.dummies j=false:=by rw [hd];unfold has;simp
  rw [h2]
  rfl
theorem slot_nodummy (hd:t.dummies= #[]) (j:Nat):t.slot j≠ .dummy:=by
 rcases slot_cases hd j with e|⟨i,e,_⟩<;>rw [e]<;>intro z<;>cases z
theorem some_empty (hd:t.dummies= #[]) (hs:t.place.size<=t.mask):∃e,e<=t.mask/\t.slot e= .empty:=by
 refine Classical.byContradiction fun no=>?_
 have all:∀e,e<=t.mask->∃i:Nat,t.place[i]? =some e:=fun e he=>by
  rcases slot_cases hd e with z|⟨i,_,z⟩
  ·exact absurd ⟨e,he,z⟩ no
  ·exact⟨i,z⟩
 have sub:List.range (t.mask+1) ⊆ t.place.toList:=fun e he=>by
  obtain⟨i,hi⟩:=all e (by have:=List.mem_range.mp he;omega)
  obtain⟨h1,h2⟩:=Array.getElem?_eq_some_iff.mp hi
  rw [<-h2]
  simp
 have:=(List.nodup_range (n:=t.mask+1)).length_le_of_subset sub
 rw [List.length_range,Array.length_toList]at this
 omega
theorem search_some (R:Round t.mask) (hd:t.dummies= #[]) (hs:t.place.size<=t.mask) (p:Probe) (hp:p.perturb<2 ^ 64) (hm:p.more<=9):∃m,t.probe hashAt h p=some m:=by
 obtain⟨e,he,h1⟩:=some_empty hd hs
 exact probe_some R he (slot_nodummy hd) h1 p hp hm
def adv (mask:Nat) (p:Probe):Probe:=if p.more>0 then{p with j:=p.j+1,more:=p.more-1}else{p with j:=(leap mask p.i p.perturb).1,more:=runEnd mask (leap mask p.i p.perturb).1-(leap mask p.i p.perturb).1,i:=(leap mask p.i p.perturb).1,perturb:=(leap mask p.i p.perturb).2}
def advs (mask:Nat):Nat->Probe->Probe
 |0,p=>p
 |n+1,p=>advs mask n (adv mask p)
theorem advs_add (mask:Nat):∀m k p,advs mask (m+k) p=advs mask k (advs mask m p)
 |0,k,p=>by rw [Nat.zero_add,advs]
 |m+1,k,p=>by rw [Nat.succ_add,advs,advs_add mask m k,advs]
theorem adv_dummy (mask:Nat) (p:Probe):(adv mask p).dummy=p.dummy:=by unfold adv;split<;>rfl
theorem go_eq (fuel:Nat) (p:Probe):probe.go t hashAt h (fuel+1) p=match t.slot p.j with| .empty=>some (.empty p.j p.dummy)| .dummy=>probe.go t hashAt h fuel (t.advance {p with dummy:=some p.j})| .live i=>if(hashAt i==h)=true then some (.candidate p.j i (t.advance p))else probe.go t hashAt h fuel (t.advance p):=rfl
theorem go_spec (hd:∀j,t.slot j≠ .dummy):∀(fuel:Nat) (p:Probe) (N:Nat),t.slot (advs t.mask N p).j= .empty->N<fuel->p.dummy=none->
    ∃n,n<=N/\(∀m,m<n->∃i,t.slot (advs t.mask m p).j= .live i/\hashAt i≠h)/\
      ((t.slot (advs t.mask n p).j= .empty/\probe.go t hashAt h fuel p=some (.empty (advs t.mask n p).j none))∨
       ∃i,t.slot (advs t.mask n p).j= .live i/\hashAt i=h/\probe.go t hashAt h fuel p=some (.candidate (advs t.mask n p).j i (advs t.mask (n+1) p))):=by
  intro fuel
  induction fuel with
  |zero=>intro p N _ h2;omega
  |succ fuel ih=>
    intro p N h1 h2 h3
    rw [go_eq]
    cases hs:t.slot p.j with
    |empty=>exact⟨0,Nat.zero_le _,fun m hm=>absurd hm (Nat.not_lt_zero m),.inl ⟨hs,by rw [h3];rfl⟩⟩
    |dummy=>exact absurd hs (hd _)
    |live i=>
      by_cases hh:hashAt i=h
      · exact⟨0,Nat.zero_le _,fun m hm=>absurd hm (Nat.not_lt_zero m),.inr ⟨i,hs,hh,by dsimp only;rw [if_pos (beq_iff_eq.mpr hh)];rfl⟩⟩
      · cases N with
        |zero=>
          have h1':t.slot p.j= .empty:=h1
          rw [hs]at h1'
          cases h1'
        |succ N=>
          obtain⟨n,a1,a2,a3⟩:=ih (adv t.mask p) N h1 (by omega) (by rw [adv_dummy];exact h3)
          have hb:¬(hashAt i==h)=true:=fun z=>hh (beq_iff_eq.mp z)
          refine⟨n+1,by omega,fun m hm=>?_,?_⟩
          · cases m with
            |zero=>exact⟨i,hs,hh⟩
            |succ m=>exact a2 m (by omega)
          · rcases a3 with ⟨b1,b2⟩|⟨i',b1,b2,b3⟩
            · exact .inl ⟨b1,by dsimp only;rw [if_neg hb];exact b2⟩
            · exact .inr ⟨i',b1,b2,by dsimp only;rw [if_neg hb];exact b3⟩
theorem go_empty (hn:∀i,hashAt i≠h) (hd:∀j,t.slot j≠ .dummy):∀(fuel:Nat) (p:Probe) (m:Met),probe.go t hashAt h fuel p=some m->∃N,N<fuel/\t.slot (advs t.mask N p).j= .empty:=by
 intro fuel
 induction fuel with
 |zero=>intro p m e;cases e
 |succ fuel ih=>
  intro p m e
  rw [go_eq]at e
  cases hs:t.slot p.j with
  |empty=>exact⟨0,Nat.succ_pos _,hs⟩
  |dummy=>exact absurd hs (hd _)
  |live i=>
   rw [hs]at e
   dsimp only at e
   rw [if_neg (fun z=>hn i (beq_iff_eq.mp z))]at e
   obtain⟨N,h1,h2⟩:=ih _ _ e
   exact⟨N+1,by omega,h2⟩
theorem empty_near (R:Round t.mask) (hd:t.dummies= #[]) (hs:t.place.size<=t.mask) (p:Probe) (hp:p.perturb<2 ^ 64) (hm:p.more<=9):∃N,N<10*turns t.mask/\t.slot (advs t.mask N p).j= .empty:=by
 obtain⟨m,e⟩:=search_some (hashAt:=fun _=>1) (h:=0) R hd hs p hp hm
 exact go_empty (hashAt:=fun _=>1) (h:=0) (fun _=>by decide) (slot_nodummy hd) _ p m e
theorem start_ok (t:SetTable) (h:Int):(t.probeStart h).perturb<2 ^ 64/\(t.probeStart h).more<=9:=by
 refine⟨?_,run_le _ _⟩
 show bits h<2 ^ 64
 unfold bits
 have h1:=Int.emod_nonneg h (show((2:Int) ^ 64)≠0 by decide)
 have h2:=Int.emod_lt_of_pos h (show(0:Int)<2 ^ 64 by decide)
 omega
def OnWay (t:SetTable) (h:Int) (j:Nat):Prop:=∃n,(advs t.mask n (t.probeStart h)).j=j/\∀m,m<n->t.slot (advs t.mask m (t.probeStart h)).j≠ .empty
theorem OnWay.ahead {j N:Nat} (w:OnWay t h j) (hj:t.slot j≠ .empty) (hN:t.slot (advs t.mask N (t.probeStart h)).j= .empty):∃n,n<N/\(advs t.mask n (t.probeStart h)).j=j:=by
 obtain⟨n,e,a⟩:=w
 rcases Nat.lt_trichotomy n N with z|z|z
 ·exact⟨n,z,e⟩
 ·subst z
  rw [e]at hN
  exact absurd hN hj
 ·exact absurd hN (a N z)
theorem insertAt_toList {α:Type} (xs:Array α) (p:Nat) (x:α):(insertAt xs p x).toList=xs.toList.take p++x::xs.toList.drop p:=by
 unfold insertAt
 simp [Array.toList_extract]
 exact List.take_of_length_le (by simp)
theorem rise_iff {xs:Array Nat}:Rise xs↔xs.toList.Pairwise (·<·):=by
 rw [List.pairwise_iff_getElem]
 constructor
 ·intro R i k hi hk hik
  have h2:k<xs.size:=by simpa using hk
  have:=R i k hik h2
  have h1:i<xs.size:=by omega
  simpa [Array.getD,h1,h2]using this
 ·intro R i k hik hk
  have h1:i<xs.size:=by omega
  have:=R i k (by simpa using h1) (by simpa using hk) hik
  simpa [Array.getD,h1,hk]using this
theorem mem_place {j:Nat}:(∃i:Nat,t.place[i]? =some j)↔j∈t.place.toList:=by
 rw [List.mem_iff_getElem?]
 simp
theorem slot_empty_iff (R:Rise t.place) (hd:t.dummies= #[]) {j:Nat}:t.slot j= .empty↔j∉t.place.toList:=by
 rw [<-mem_place]
 constructor
 ·rintro e ⟨i,hi⟩
  rw [slot_live R hi]at e
  cases e
 ·intro no
  exact slot_other hd fun i z=>no ⟨i,z⟩
theorem put_rise (R:Rise t.place) {j:Nat} (hj:j∉t.place.toList):Rise (insertAt t.place (below t.place j) j):=by
 obtain⟨hb,h1,h2⟩:=below_spec R j
 rw [rise_iff,insertAt_toList]
 have Rl:=rise_iff.mp R
 have lo:∀x∈t.place.toList.take (below t.place j),x<j:=fun x hx=>by
  obtain⟨i,hi,e⟩:=List.getElem_of_mem hx
  rw [List.length_take]at hi
  rw [List.getElem_take]at e
  have hs:i<t.place.size:=by simp at hi;omega
  have:=h1 i (by omega)
  rw [<-e]
  simpa [Array.getD,hs]using this
 have hi':∀x∈t.place.toList.drop (below t.place j),j<x:=fun x hx=>by
  have hm:x∈t.place.toList:=List.mem_of_mem_drop hx
  obtain⟨i,hi,e⟩:=List.getElem_of_mem hx
  rw [List.length_drop]at hi
  rw [List.getElem_drop]at e
  have hs:below t.place j+i<t.place.size:=by simp at hi;omega
  have:=h2 (below t.place j+i) (by omega) hs
  have h3:j<=x:=by rw [<-e];simpa [Array.getD,hs]using this
  have h4:j≠x:=fun z=>hj (z▸hm)
  omega
 rw [List.pairwise_append]
 refine⟨Rl.sublist (List.take_sublist _ _),List.pairwise_cons.mpr ⟨hi',Rl.sublist (List.drop_sublist _ _)⟩,fun x hx y hy=>?_⟩
 have:=lo x hx
 rcases List.mem_cons.mp hy with e|m
 ·omega
 ·have:=hi' y m;omega
theorem put_eq (hd:t.dummies= #[]) (j:Nat):t.put j=({t with place:=insertAt t.place (below t.place j) j},below t.place j):=by
 unfold put
 have h2:has t.dummies j=false:=by rw [hd];unfold has;simp
 rw [h2]
 rfl
theorem mem_insert {xs:Array Nat} {p j x:Nat}:x∈(insertAt xs p j).toList↔x=j∨x∈xs.toList:=by
 rw [insertAt_toList,List.mem_append,List.mem_cons]
 constructor
 ·rintro(h|h|h)
  ·exact .inr (List.mem_of_mem_take h)
  ·exact .inl h
  ·exact .inr (List.mem_of_mem_drop h)
 ·rintro(h|h)
  ·exact .inr (.inl h)
  ·rw [<-List.take_append_drop p xs.toList]at h
   rcases List.mem_append.mp h with h|h
   ·exact .inl h
   ·exact .inr (.inr h)
theorem insert_size {α:Type} (xs:Array α) {p:Nat} (x:α) (h:p<=xs.size):(insertAt xs p x).size=xs.size+1:=by
 rw [<-Array.length_toList,insertAt_toList,List.length_append,List.length_cons,List.length_take,List.length_drop,Array.length_toList]
 omega
structure Good (t:SetTable):Prop where
 dum:t.dummies= #[]
 rise:Rise t.place
 low:∀j∈t.place.toList,j<=t.mask
 room:t.place.size<=t.mask
 round:Round t.mask
theorem Good.put (G:Good t) {j:Nat} (hj:t.slot j= .empty) (hl:j<=t.mask) (hr:t.place.size+1<=t.mask):Good (t.put j).1:=by
 rw [put_eq G.dum]
 have nj:=(slot_empty_iff G.rise G.dum).mp hj
 refine⟨G.dum,put_rise G.rise nj,fun x hx=>?_,?_,G.round⟩
 ·rcases mem_insert.mp hx with e|m
  ·rw [e];exact hl
  ·exact G.low x m
 ·show(insertAt t.place (below t.place j) j).size<=t.mask
  rw [insert_size _ _ (below_spec G.rise j).1]
  exact hr
theorem Good.put_empty (G:Good t) {j:Nat} (hj:t.slot j= .empty) (x:Nat):(t.put j).1.slot x= .empty↔t.slot x= .empty/\x≠j:=by
 have nj:=(slot_empty_iff G.rise G.dum).mp hj
 rw [put_eq G.dum]
 rw [slot_empty_iff (t:={t with place:=insertAt t.place (below t.place j) j}) (put_rise G.rise nj) G.dum,slot_empty_iff G.rise G.dum]
 show x∉(insertAt t.place (below t.place j) j).toList↔_
 rw [mem_insert,not_or]
 exact⟨fun z=>⟨z.2,z.1⟩,fun z=>⟨z.2,z.1⟩⟩
theorem OnWay.put (G:Good t) {j x:Nat} (hj:t.slot j= .empty) (w:OnWay t h x):OnWay (t.put j).1 h x:=by
 obtain⟨n,e,a⟩:=w
 have em:(t.put j).1.mask=t.mask:=by rw [put_eq G.dum]
 have es:(t.put j).1.probeStart h=t.probeStart h:=by rw [put_eq G.dum];rfl
 refine⟨n,by rw [em,es];exact e,fun m hm z=>?_⟩
 rw [em,es]at z
 exact a m hm ((G.put_empty hj _).mp z).1
theorem OnWay.new (G:Good t) {N:Nat} (hj:t.slot (advs t.mask N (t.probeStart h)).j= .empty) (a:∀m,m<N->t.slot (advs t.mask m (t.probeStart h)).j≠ .empty):OnWay (t.put (advs t.mask N (t.probeStart h)).j).1 h (advs t.mask N (t.probeStart h)).j:=by
 have em:(t.put (advs t.mask N (t.probeStart h)).j).1.mask=t.mask:=by rw [put_eq G.dum]
 have es:(t.put (advs t.mask N (t.probeStart h)).j).1.probeStart h=t.probeStart h:=by rw [put_eq G.dum];rfl
 refine⟨N,by rw [em,es],fun m hm z=>?_⟩
 rw [em,es]at z
 exact a m hm ((G.put_empty hj _).mp z).1
end SetTable
end PySem
namespace PySem
open Sem (wp)
section
variable {prog:Program} {w:World} {K:Type} [DecidableEq K] (knd:HeapKind prog w K)
structure SetAt (s:Shared) (a:Addr) (o:Obj) (es:Array (Int×Value)) (ep:Nat) (t:SetTable) (xs:List (K×Addr)):Prop where
 ho:s.heap.get? a=some o
 hex:o.ExactSet
 hd:o.data= .set es ep t
 he:es.toList=xs.map fun x=>(knd.hash x.1,Value.ref x.2)
 good:t.Good
 size:t.place.size=es.size
 keys:∀x∈xs,knd.is s.heap x.1 x.2
 nd:(xs.map (·.1)).Nodup
 way:∀(i j:Nat) (x:K×Addr),t.place[i]? =some j->xs[i]? =some x->SetTable.OnWay t (knd.hash x.1) j
variable {knd} {A:Around} {E:Value->Shared->Prop} {s:Shared} {a b:Addr} {o:Obj} {es:Array (Int×Value)} {ep:Nat} {t:SetTable} {xs:List (K×Addr)} {k:K}
structure SetKd (knd:HeapKind prog w K):Prop where
 mono:∀{h h':Heap} {k:K} {c:Addr},knd.is h k c->(∀b o,o.cls= .type "tuple"->h.get? b=some o->h'.get? b=some o)->knd.is h' k c
 byValue:∀{A:Around} {E:Value->Shared->Prop} {s:Shared} {k:K} {c:Addr} {Q:Bool->Shared->Prop},knd.is s.heap k c->Q true s->wpAny (model prog w) A (hashByValue 8 (.ref c)) Q E s
 plain:∀{A:Around} {E:Value->Shared->Prop} {s:Shared} {k:K} {c:Addr} {Q:Bool->Shared->Prop},knd.is s.heap k c->Q false s->wpAny (model prog w) A (ofAClassStatement 8 (.ref c)) Q E s
theorem SetKd.keep (D:SetKd knd) {h h':Heap} {k:K} {c d:Addr} {o:Obj} (hx:knd.is h k c) (ho:h.get? d=some o) (hex:o.ExactSet) (sb:Heap.SameBut d h h'):knd.is h' k c:=D.mono hx fun b o' hc e=>by
 have ne:b≠d:=by
  rintro rfl
  rw [ho]at e
  cases e
  rw [hex.1]at hc
  exact absurd hc (by decide)
 rw [sb.2 b ne]
 exact e
theorem wpAny_seen_heap (D:SetKd knd) (hkey:knd.is s.heap k b) {ys:List Value} (hy:∀y∈ys,∃x c,y=Value.ref c/\knd.is s.heap x c) {Q:Bool->Shared->Prop} (h:Q false s):wpAny (model prog w) A (searchCouldBeSeen (.ref b) ys) Q E s:=by
 unfold searchCouldBeSeen
 refine wpAny_bind ?_
 refine wpAny_forIn_list _ (fun rest r s'=>r.1=none/\s'=s/\∀v∈rest,∃x c,v=Value.ref c/\knd.is s.heap x c) _ ?_ ?_ _ _ ⟨rfl,rfl,hy⟩
 ·rintro v rest r s' ⟨hr,rfl,hall⟩
  obtain⟨x,c,rfl,hx⟩:=hall v List.mem_cons_self
  dsimp only
  have nx:∀u∈rest,∃x c,u=Value.ref c/\knd.is s'.heap x c:=fun u hu=>hall u (List.mem_cons_of_mem _ hu)
  split
  ·exact wpAny_pure ⟨rfl,rfl,nx⟩
  ·refine wpAny_bind (knd.quiet hkey ?_)
   simp only [Bool.not_true,Bool.false_eq_true,if_false]
   refine wpAny_bind (knd.quiet hx ?_)
   simp only [Bool.not_true,Bool.false_eq_true,if_false]
   refine wpAny_bind (D.plain hkey ?_)
   simp only [Bool.false_eq_true,if_false]
   refine wpAny_bind (D.plain hx ?_)
   simp only [Bool.false_eq_true,if_false]
   exact wpAny_pure ⟨rfl,rfl,nx⟩
 ·rintro⟨r1,r2⟩ s' ⟨hr,rfl,_⟩
  simp only at hr
  subst hr
  exact wpAny_pure h
theorem SetAt.fits (S:SetAt knd s a o es ep t xs):t.fits es.size=true:=by
 unfold SetTable.fits SetTable.fill
 have h1:=S.size
 have h2:=S.good.room
 rw [S.good.dum]
 simp [h1]
 omega
theorem SetAt.len (S:SetAt knd s a o es ep t xs):es.size=xs.length:=by rw [<-Array.length_toList,S.he,List.length_map]
theorem SetAt.entry (S:SetAt knd s a o es ep t xs) (i:Nat):es[i]? =(xs[i]?).map fun x=>(knd.hash x.1,Value.ref x.2):=by
 rw [<-Array.getElem?_toList,S.he,List.getElem?_map]
theorem SetAt.even (S:SetAt knd s a o es ep t xs) (hm:t.mask % 2=1):t.gaveWay=false:=by
 unfold SetTable.gaveWay
 rw [hm]
 rfl
theorem wpAny_search_heap (S:SetAt knd s a o es ep t xs) (hm:t.mask % 2=1) (D:SetKd knd) (hu:knd.room A) (hkey:knd.is s.heap k b) {N:Nat} (hN:t.slot (SetTable.advs t.mask N (t.probeStart (knd.hash k))).j= .empty) (hF:N<10*SetTable.turns t.mask)
  (first:∀m,m<N->t.slot (SetTable.advs t.mask m (t.probeStart (knd.hash k))).j≠ .empty) {Q:SetFound->Shared->Prop} (hold:(∃x∈xs,x.1=k)->Q (.there none) s) (hnew:(∀x∈xs,x.1≠k)->Q (.free (SetTable.advs t.mask N (t.probeStart (knd.hash k))).j false) s):
  ∀(fuel n:Nat) (stand:Option SetTable.Probe),stand.getD (t.probeStart (knd.hash k))=SetTable.advs t.mask n (t.probeStart (knd.hash k))->n<=N->N-n<fuel->(∀m,m<n->∃(i:Nat) (x:K×Addr),t.slot (SetTable.advs t.mask m (t.probeStart (knd.hash k))).j= .live i/\xs[i]? =some x/\x.1≠k)->
   wpAny (model prog w) A (setSearchFrom a (.ref b) (knd.hash k) true fuel stand) Q E s:=by
 intro fuel
 induction fuel with
 |zero=>intro n stand _ _ h3;omega
 |succ fuel ih=>
  intro n stand h1 h2 h3 past
  have dumA:∀m p,(SetTable.advs t.mask m p).dummy=p.dummy:=by
   intro m
   induction m with
   |zero=>intro p;rfl
   |succ m ih=>intro p;rw [SetTable.advs,ih,SetTable.adv_dummy]
  unfold setSearchFrom
  refine wpAny_bind (wpAny_setState_of S.ho S.hd S.fits ?_)
  dsimp only
  rw [S.even hm]
  simp only [Bool.false_eq_true,if_false]
  rw [h1]
  have comp:∀m,SetTable.advs t.mask m (SetTable.advs t.mask n (t.probeStart (knd.hash k)))=SetTable.advs t.mask (n+m) (t.probeStart (knd.hash k)):=fun m=>(SetTable.advs_add t.mask n m _).symm
  have ent:∀i:Nat,(es[i]?.map (·.1)).getD 0=((xs[i]?).map fun x=>knd.hash x.1).getD 0:=fun i=>by
   rw [S.entry i,Option.map_map]
   rfl
  have inx:∀(i j:Nat),t.slot j= .live i->∃x,xs[i]? =some x/\t.place[i]? =some j:=fun i j hs=>by
   rcases SetTable.slot_cases S.good.dum j with z|⟨i',z1,z2⟩
   ·rw [hs]at z;cases z
   ·rw [hs]at z1
    cases z1
    have hi:i<t.place.size:=(Array.getElem?_eq_some_iff.mp z2).1
    rw [S.size,S.len]at hi
    exact⟨xs[i],List.getElem?_eq_getElem hi,z2⟩
  obtain⟨n',a1,a2,a3⟩:=SetTable.go_spec (t:=t) (hashAt:=fun i:Nat=>(es[i]?.map (·.1)).getD 0) (h:=knd.hash k) (SetTable.slot_nodummy S.good.dum) (10*SetTable.turns t.mask) (SetTable.advs t.mask n (t.probeStart (knd.hash k))) (N-n) (by rw [comp,show n+(N-n)=N by omega];exact hN) (by omega) (by rw [dumA];rfl)
  rw [comp]at a3
  rcases a3 with ⟨b1,b2⟩|⟨i,b1,b2,b3⟩
  ·have eN:n+n'=N:=by
    rcases Nat.lt_or_ge (n+n') N with z|z
    ·exact absurd b1 (first _ z)
    ·omega
   have e:t.probe (fun i:Nat=>(es[i]?.map (·.1)).getD 0) (knd.hash k) (SetTable.advs t.mask n (t.probeStart (knd.hash k)))=some (.empty (SetTable.advs t.mask (n+n') (t.probeStart (knd.hash k))).j none):=b2
   erw [e]
   dsimp only
   rw [eN]
   refine wpAny_pure (hnew fun x hx ek=>?_)
   obtain⟨i,hi⟩:=List.mem_iff_getElem?.mp hx
   have his:i<t.place.size:=by rw [S.size,S.len];exact(List.getElem?_eq_some_iff.mp hi).1
   have hpl:t.place[i]? =some t.place[i]:=Array.getElem?_eq_getElem his
   have hsl:=SetTable.slot_live S.good.rise hpl
   have wy:=S.way i _ x hpl hi
   rw [ek]at wy
   obtain⟨m,hm1,hm2⟩:=wy.ahead (by rw [hsl];intro z;cases z) hN
   rcases Nat.lt_or_ge m n with z|z
   ·obtain⟨i',x',c1,c2,c3⟩:=past m z
    rw [hm2,hsl]at c1
    cases c1
    rw [hi]at c2
    cases c2
    exact c3 ek
   ·obtain⟨i',c1,c2⟩:=a2 (m-n) (by omega)
    rw [comp,show n+(m-n)=m by omega,hm2,hsl]at c1
    cases c1
    rw [ent,hi]at c2
    exact c2 (by rw [<-ek];rfl)
  ·obtain⟨x,hx,hpl⟩:=inx i _ b1
   have hxm:=List.mem_of_getElem? hx
   have e:t.probe (fun i:Nat=>(es[i]?.map (·.1)).getD 0) (knd.hash k) (SetTable.advs t.mask n (t.probeStart (knd.hash k)))=some (.candidate (SetTable.advs t.mask (n+n') (t.probeStart (knd.hash k))).j i (SetTable.advs t.mask (n'+1) (SetTable.advs t.mask n (t.probeStart (knd.hash k))))):=b3
   erw [e]
   dsimp only
   cases hl:t.led
   focus
    simp only [Bool.not_false,if_true]
    refine wpAny_bind (wpAny_seen_heap D hkey (fun y hy=>?_) ?_)
    obtain⟨e,he,rfl⟩:=List.mem_map.mp hy
    have he2:=(Array.mem_filter.mp (Array.mem_toList_iff.mp he)).1
    rw [<-Array.mem_toList_iff,S.he]at he2
    obtain⟨x',hx',rfl⟩:=List.mem_map.mp he2
    exact⟨_,_,rfl,S.keys x' hx'⟩
    simp only [Bool.false_eq_true,if_false]
   rotate_left
   focus
    simp only [Bool.not_true,Bool.false_eq_true,if_false]
   all_goals
    rw [S.entry i,hx]
    dsimp only [Option.map_some]
    refine wpAny_bind (wpAny_holding (knd.eqBool hu (S.keys x hxm) hkey ?_))
    refine wpAny_bind (wpAny_setState_of S.ho S.hd S.fits ?_)
    by_cases ek:x.1=k
    ·rw [decide_eq_true ek]
     simp only [Bool.and_self,if_true]
     exact wpAny_pure (hold ⟨x,hxm,ek⟩)
    ·rw [decide_eq_false ek]
     simp only [Bool.and_false,Bool.false_eq_true,if_false]
     have sm:t.sameMemory t.moves t.mask=some true:=by unfold SetTable.sameMemory;simp
     rw [sm]
     simp only [if_true]
     rw [b1]
     dsimp only
     rw [S.entry i,hx]
     dsimp only [Option.map_some]
     refine wpAny_bind (wpAny_isSame_ref_self ?_)
     simp only [if_true]
     refine wpAny_bind (wpAny_pure ?_)
     dsimp only
     have lt:n+n'<N:=by
      rcases Nat.lt_or_ge (n+n') N with z|z
      ·exact z
      ·have z2:n+n'=N:=by omega
       rw [z2,hN]at b1
       cases b1
     refine ih (n+(n'+1)) _ (by show SetTable.advs t.mask (n'+1) _=_;rw [comp]) (by omega) (by omega) fun m hm'=>?_
     rcases Nat.lt_or_ge m n with z|z
     ·exact past m z
     ·by_cases z2:m=n+n'
      ·subst z2
       exact⟨i,x,b1,hx,ek⟩
      ·obtain⟨i',c1,c2⟩:=a2 (m-n) (by omega)
       rw [comp,show n+(m-n)=m by omega]at c1
       obtain⟨x',hx',_⟩:=inx i' _ c1
       refine⟨i',x',c1,hx',fun ek'=>c2 ?_⟩
       rw [ent,hx', <-ek']
       rfl
theorem ExactSet_put {o:Obj} (es':Array (Int×Value)) (t':SetTable) (hd:o.data= .set es ep t) (h:o.ExactSet):(Obj.putSet es' t' o).ExactSet:=by
 rw [putSet_of es' t' hd]
 exact h
theorem get_ins {α:Type} {l:List α} {p i:Nat} {y x:α} (hp:p<=l.length) (h:(l.take p++x::l.drop p)[i]? =some y):(i<p/\l[i]? =some y)∨(i=p/\y=x)∨(p<i/\l[i-1]? =some y):=by
 have hlen:(l.take p).length=p:=by rw [List.length_take];omega
 rcases Nat.lt_trichotomy i p with z|z|z
 ·rw [List.getElem?_append_left (by omega),List.getElem?_take_of_lt z]at h
  exact .inl ⟨z,h⟩
 ·subst z
  rw [List.getElem?_append_right (by omega),hlen,Nat.sub_self]at h
  exact .inr (.inl ⟨rfl,(Option.some.inj h).symm⟩)
 ·rw [List.getElem?_append_right (by omega),hlen]at h
  obtain⟨d,rfl⟩:∃d,i=p+(d+1):=⟨i-p-1,by omega⟩
  rw [show p+(d+1)-p=d+1 by omega,List.getElem?_cons_succ,List.getElem?_drop]at h
  exact .inr (.inr ⟨by omega,by rw [show p+(d+1)-1=p+d by omega];exact h⟩)
theorem SetAt.add (S:SetAt knd s a o es ep t xs) (hkey:knd.is s.heap k b) (hn:∀x∈xs,x.1≠k) (hkeep:∀h',Heap.SameBut a s.heap h'->∀x c,knd.is s.heap x c->knd.is h' x c) {N:Nat} (hN:t.slot (SetTable.advs t.mask N (t.probeStart (knd.hash k))).j= .empty)
  (first:∀m,m<N->t.slot (SetTable.advs t.mask m (t.probeStart (knd.hash k))).j≠ .empty) (hl:(SetTable.advs t.mask N (t.probeStart (knd.hash k))).j<=t.mask) (hroom:t.place.size+1<=t.mask) {j p:Nat} (ej:j=(SetTable.advs t.mask N (t.probeStart (knd.hash k))).j) (epp:p=SetTable.below t.place j):
  SetAt knd {s with heap:=s.heap.update a (Obj.putSet (SetTable.insertAt es p (knd.hash k,.ref b)) (t.put j).1)} a (Obj.putSet (SetTable.insertAt es p (knd.hash k,.ref b)) (t.put j).1 o) (SetTable.insertAt es p (knd.hash k,.ref b)) (ep+1) (t.put j).1 (xs.take p++(k,b)::xs.drop p):=by
 subst ej epp
 have hb:=(SetTable.below_spec S.good.rise (SetTable.advs t.mask N (t.probeStart (knd.hash k))).j).1
 have hbx:SetTable.below t.place (SetTable.advs t.mask N (t.probeStart (knd.hash k))).j<=xs.length:=by rw [<-S.len, <-S.size];exact hb
 have hnf:(Obj.putSet (SetTable.insertAt es (SetTable.below t.place (SetTable.advs t.mask N (t.probeStart (knd.hash k))).j) (knd.hash k,.ref b)) (t.put (SetTable.advs t.mask N (t.probeStart (knd.hash k))).j).1 o).isFreed=false:=by
  rw [putSet_of _ _ S.hd]
  rfl
 refine⟨Heap.get?_update_self _ S.ho hnf,ExactSet_put _ _ S.hd S.hex,by rw [putSet_of _ _ S.hd],?_,S.good.put hN hl hroom,?_,fun x hx=>?_,?_,fun i j x h1 h2=>?_⟩
 ·rw [SetTable.insertAt_toList,S.he, <-List.map_take, <-List.map_drop,List.map_append,List.map_cons]
 ·rw [SetTable.put_eq S.good.dum]
  show(SetTable.insertAt t.place _ _).size=_
  rw [SetTable.insert_size _ _ hb,SetTable.insert_size _ _ (by rw [<-S.size];exact hb),S.size]
 ·rcases List.mem_append.mp hx with m|m
  ·exact hkeep _ (Heap.SameBut.update ..) _ _ (S.keys x (List.mem_of_mem_take m))
  ·rcases List.mem_cons.mp m with e|m
   ·rw [e];exact hkeep _ (Heap.SameBut.update ..) _ _ hkey
   ·exact hkeep _ (Heap.SameBut.update ..) _ _ (S.keys x (List.mem_of_mem_drop m))
 ·have pm:((xs.take (SetTable.below t.place (SetTable.advs t.mask N (t.probeStart (knd.hash k))).j)++(k,b)::xs.drop (SetTable.below t.place (SetTable.advs t.mask N (t.probeStart (knd.hash k))).j)).map (·.1)).Perm (k::xs.map (·.1)):=by
   have:=(List.perm_middle (a:=(k,b)) (l₁:=xs.take (SetTable.below t.place (SetTable.advs t.mask N (t.probeStart (knd.hash k))).j)) (l₂:=xs.drop (SetTable.below t.place (SetTable.advs t.mask N (t.probeStart (knd.hash k))).j))).map (·.1)
   rw [List.take_append_drop]at this
   exact this
  rw [pm.nodup_iff,List.nodup_cons]
  refine⟨fun m=>?_,S.nd⟩
  obtain⟨x,hx,e⟩:=List.mem_map.mp m
  exact hn x hx e
 ·rw [SetTable.put_eq S.good.dum]at h1
  have h1':(t.place.toList.take (SetTable.below t.place (SetTable.advs t.mask N (t.probeStart (knd.hash k))).j)++(SetTable.advs t.mask N (t.probeStart (knd.hash k))).j::t.place.toList.drop (SetTable.below t.place (SetTable.advs t.mask N (t.probeStart (knd.hash k))).j))[i]? =some j:=by
   rw [<-SetTable.insertAt_toList,Array.getElem?_toList];exact h1
  have gp:=get_ins (by rw [Array.length_toList];exact hb) h1'
  have gx:=get_ins hbx h2
  rcases gp with ⟨z1,z2⟩|⟨z1,z2⟩|⟨z1,z2⟩
  ·rcases gx with ⟨y1,y2⟩|⟨y1,y2⟩|⟨y1,y2⟩
   ·exact(S.way i j x (by rw [<-Array.getElem?_toList];exact z2) y2).put S.good hN
   ·omega
   ·omega
  ·rcases gx with ⟨y1,y2⟩|⟨y1,y2⟩|⟨y1,y2⟩
   ·omega
   ·rw [z2,y2]
    exact SetTable.OnWay.new S.good hN first
   ·omega
  ·rcases gx with ⟨y1,y2⟩|⟨y1,y2⟩|⟨y1,y2⟩
   ·omega
   ·omega
   ·exact(S.way (i-1) j x (by rw [<-Array.getElem?_toList];exact z2) y2).put S.good hN
end
end PySem
namespace PySem
namespace SetTable
def stP (M:Nat) (i perturb:Nat):Probe:={j:=i,more:=runEnd M i-i,i,perturb,dummy:=none}
def st (M:Nat) (h:Int):Probe:=stP M (bits h % (M+1)) (bits h)
theorem stP_run (M i perturb:Nat):∀k,k<=runEnd M i-i->(advs M k (stP M i perturb))={stP M i perturb with j:=i+k,more:=runEnd M i-i-k}:=by
 have gen:∀(k:Nat) (p:Probe),k<=p.more->advs M k p={p with j:=p.j+k,more:=p.more-k}:=by
  intro k
  induction k with
  |zero=>intro p _;rfl
  |succ k ih=>
   intro p hk
   rw [advs]
   have e:adv M p={p with j:=p.j+1,more:=p.more-1}:=by unfold adv;rw [if_pos (by omega)]
   rw [e,ih _ (by show k<=p.more-1;omega)]
   have e1:p.j+1+k=p.j+(k+1):=by omega
   have e2:p.more-1-k=p.more-(k+1):=by omega
   show({p with j:=p.j+1+k,more:=p.more-1-k}:Probe)=_
   rw [e1,e2]
 intro k hk
 exact gen k _ hk
theorem stP_leap (M i perturb:Nat):advs M (runEnd M i-i+1) (stP M i perturb)=stP M (leap M i perturb).1 (leap M i perturb).2:=by
 rw [advs_add,stP_run M i perturb _ (Nat.le_refl _),Nat.sub_self,advs,advs]
 unfold adv
 rw [if_neg (by show¬(0>0);omega)]
 rfl
theorem free_way {M:Nat} {owner:Array (Option Nat)} (hsz:owner.size=M+1):∀(fuel i perturb:Nat) (j:Nat),layClean.free M owner fuel i perturb=some j->
  owner[j]? =some none/\∃n,(advs M n (stP M i perturb)).j=j/\∀m,m<n->owner[(advs M m (stP M i perturb)).j]? ≠some none:=by
 intro fuel
 induction fuel with
 |zero=>intro i perturb j e;cases e
 |succ fuel ih=>
  intro i perturb j e
  have key:layClean.free M owner (fuel+1) i perturb=match (List.range (runEnd M i+1-i)).find? fun k=>(owner.getD (i+k) (some 0)).isNone with|some k=>some (i+k)|none=>layClean.free M owner fuel (leap M i perturb).1 (leap M i perturb).2:=rfl
  rw [key]at e
  have none_of:∀x,(owner.getD x (some 0)).isNone=true↔owner[x]? =some none:=fun x=>by
   by_cases hx:x<owner.size
   ·simp [Array.getD,hx]
   ·simp [Array.getD,hx]
  have hre:runEnd M i+1-i=runEnd M i-i+1:=by unfold runEnd;split<;>omega
  cases hf:(List.range (runEnd M i+1-i)).find? fun k=>(owner.getD (i+k) (some 0)).isNone with
  |some k=>
   rw [hf]at e
   cases e
   have h1:=List.find?_some hf
   have h2:=List.mem_range.mp (List.mem_of_find?_eq_some hf)
   refine⟨(none_of _).mp h1,k,by rw [stP_run M i perturb k (by omega)],fun m hm=>?_⟩
   rw [stP_run M i perturb m (by omega)]
   intro z
   have z':owner[i+m]? =some none:=z
   rw [List.find?_eq_some_iff_append]at hf
   obtain⟨_,as,bs,e1,e2⟩:=hf
   have hk:as.length=k:=by
    have h3:(List.range (runEnd M i+1-i))[as.length]? =some k:=by rw [e1];simp
    rw [List.getElem?_range (by have:=congrArg List.length e1;simp at this;omega)]at h3
    exact Option.some.inj h3
   have h4:m∈as:=by
    have h5:(List.range (runEnd M i+1-i))[m]? =some m:=List.getElem?_range (by omega)
    rw [e1,List.getElem?_append_left (by omega)]at h5
    exact List.mem_of_getElem? h5
   have:=e2 m h4
   rw [(none_of _).mpr z']at this
   exact absurd this (by decide)
  |none=>
   rw [hf]at e
   obtain⟨b1,n,b2,b3⟩:=ih _ _ _ e
   refine⟨b1,runEnd M i-i+1+n,by rw [advs_add,stP_leap];exact b2,fun m hm=>?_⟩
   rcases Nat.lt_or_ge m (runEnd M i-i+1)with z|z
   ·rw [stP_run M i perturb m (by omega)]
    intro y
    have y':owner[i+m]? =some none:=y
    have:=List.find?_eq_none.mp hf m (List.mem_range.mpr (by omega))
    exact this ((none_of _).mpr y')
   ·obtain⟨d,rfl⟩:∃d,m=runEnd M i-i+1+d:=⟨m-(runEnd M i-i+1),by omega⟩
    rw [advs_add,stP_leap]
    exact b3 d (by omega)
theorem free_some {M:Nat} {owner:Array (Option Nat)} {e:Nat} (he:owner[e]? =some none):∀(fuel i perturb L:Nat),(leaps M L (i,perturb)).1=e->L<fuel->∃j,layClean.free M owner fuel i perturb=some j:=by
 intro fuel
 induction fuel with
 |zero=>intro i perturb L _ h;omega
 |succ fuel ih=>
  intro i perturb L h1 h2
  have key:layClean.free M owner (fuel+1) i perturb=match (List.range (runEnd M i+1-i)).find? fun k=>(owner.getD (i+k) (some 0)).isNone with|some k=>some (i+k)|none=>layClean.free M owner fuel (leap M i perturb).1 (leap M i perturb).2:=rfl
  rw [key]
  cases hf:(List.range (runEnd M i+1-i)).find? fun k=>(owner.getD (i+k) (some 0)).isNone with
  |some k=>exact⟨_,rfl⟩
  |none=>
   cases L with
   |zero=>
    have h1':i=e:=h1
    subst h1'
    have hr:0<runEnd M i+1-i:=by unfold runEnd;split<;>omega
    have:=List.find?_eq_none.mp hf 0 (List.mem_range.mpr hr)
    have hs:i<owner.size:=(Array.getElem?_eq_some_iff.mp he).1
    have h3:owner[i]=none:=(Array.getElem?_eq_some_iff.mp he).2
    exact absurd (by simp [Array.getD,hs,h3]) this
   |succ L=>exact ih _ _ L h1 (by omega)
structure Lay (M:Nat) (hs:List Int) (owner:Array (Option Nat)):Prop where
 size:owner.size=M+1
 has:∀i,i<hs.length->∃j:Nat,owner[j]? =some (some i)
 low:∀(j i:Nat),owner[j]? =some (some i)->i<hs.length
 uniq:∀(j j' i:Nat),owner[j]? =some (some i)->owner[j']? =some (some i)->j=j'
 way:∀(j i:Nat) (h:Int),owner[j]? =some (some i)->hs[i]? =some h->∃n,(advs M n (st M h)).j=j/\∀m,m<n->owner[(advs M m (st M h)).j]? ≠some none
theorem Lay.start (M:Nat):Lay M [] (Array.replicate (M+1) none):=by
 have no:∀(j i:Nat),(Array.replicate (M+1) (none:Option Nat))[j]? ≠some (some i):=fun j i e=>by
  rw [Array.getElem?_replicate]at e
  split at e<;>cases e
 exact⟨by simp,fun i h=>absurd h (Nat.not_lt_zero i),fun j i e=>absurd e (no j i),fun j j' i e=>absurd e (no j i),fun j i h e=>absurd e (no j i)⟩
theorem Lay.empty {M:Nat} {hs:List Int} {owner:Array (Option Nat)} (L:Lay M hs owner) (hl:hs.length<=M):∃e,e<=M/\owner[e]? =some none:=by
 refine Classical.byContradiction fun no=>?_
 have all:∀j,j<=M->∃i,owner[j]? =some (some i):=fun j hj=>by
  have hs:j<owner.size:=by rw [L.size];omega
  cases g:owner[j]with
  |none=>exact absurd ⟨j,hj,by rw [Array.getElem?_eq_getElem hs,g]⟩ no
  |some i=>exact⟨i,by rw [Array.getElem?_eq_getElem hs,g]⟩
 have f:∀j,∃i,j<=M->owner[j]? =some (some i):=fun j=>by
  by_cases hj:j<=M
  ·obtain⟨i,hi⟩:=all j hj;exact⟨i,fun _=>hi⟩
  ·exact⟨0,fun z=>absurd z hj⟩
 obtain⟨F,hF⟩:=Classical.axiomOfChoice f
 have nd:((List.range (M+1)).map F).Nodup:=by
  rw [List.Nodup,List.pairwise_map]
  refine(List.nodup_range (n:=M+1)).imp_of_mem fun{a b} ha hb hab z=>hab ?_
  have h1:=hF a (by have:=List.mem_range.mp ha;omega)
  have h2:=hF b (by have:=List.mem_range.mp hb;omega)
  rw [z]at h1
  exact L.uniq a b _ h1 h2
 have sub:(List.range (M+1)).map F ⊆ List.range hs.length:=fun x hx=>by
  obtain⟨j,hj,rfl⟩:=List.mem_map.mp hx
  exact List.mem_range.mpr (L.low j _ (hF j (by have:=List.mem_range.mp hj;omega)))
 have:=nd.length_le_of_subset sub
 rw [List.length_map,List.length_range,List.length_range]at this
 omega
theorem Lay.step {M:Nat} {hs:List Int} {owner:Array (Option Nat)} (R:Round M) (L:Lay M hs owner) (hl:hs.length<=M) (h:Int):∃j,layClean.free M owner (turns M) (bits h % (M+1)) (bits h)=some j/\Lay M (hs++[h]) (owner.setIfInBounds j (some hs.length)):=by
 obtain⟨e,he,e1⟩:=L.empty hl
 have hb:bits h<2 ^ 64:=by
  unfold bits
  have h1:=Int.emod_nonneg h (show((2:Int) ^ 64)≠0 by decide)
  have h2:=Int.emod_lt_of_pos h (show(0:Int)<2 ^ 64 by decide)
  omega
 obtain⟨Lp,_,l2,l3⟩:=leaps_meet R he (bits h % (M+1)) (bits h) hb
 obtain⟨j,hj⟩:=free_some e1 (turns M) _ _ Lp l3 (by unfold turns;omega)
 obtain⟨w1,n,w2,w3⟩:=free_way L.size _ _ _ _ hj
 have hjs:j<owner.size:=(Array.getElem?_eq_some_iff.mp w1).1
 have at_:∀x,(owner.setIfInBounds j (some hs.length))[x]? =if x=j then some (some hs.length)else owner[x]? :=fun x=>by
  rw [Array.getElem?_setIfInBounds]
  by_cases z:j=x
  ·subst z;simp [hjs]
  ·rw [if_neg z,if_neg (fun y=>z y.symm)]
 have occ:∀x,owner[x]? ≠some none->(owner.setIfInBounds j (some hs.length))[x]? ≠some none:=fun x z=>by
  rw [at_]
  split
  ·intro y;cases y
  ·exact z
 refine⟨j,hj,⟨by simp [L.size],fun i hi=>?_,fun x i g=>?_,fun x y i g1 g2=>?_,fun x i h' g g'=>?_⟩⟩
 ·rw [List.length_append,List.length_singleton]at hi
  by_cases z:i<hs.length
  ·obtain⟨x,hx⟩:=L.has i z
   refine⟨x,?_⟩
   rw [at_,if_neg (fun y=>by subst y;rw [w1]at hx;cases hx)]
   exact hx
  ·exact⟨j,by rw [at_,if_pos rfl,show i=hs.length by omega]⟩
 ·rw [at_]at g
  rw [List.length_append,List.length_singleton]
  split at g
  ·cases g;omega
  ·have:=L.low x i g;omega
 ·rw [at_]at g1
  rw [at_]at g2
  split at g1
  ·split at g2
   ·omega
   ·cases g1
    exact absurd (L.low y _ g2) (Nat.lt_irrefl _)
  ·split at g2
   ·cases g2
    exact absurd (L.low x _ g1) (Nat.lt_irrefl _)
   ·exact L.uniq x y i g1 g2
 ·rw [at_]at g
  split at g
  ·cases g
   rw [List.getElem?_append_right (Nat.le_refl _),Nat.sub_self]at g'
   cases g'
   subst x
   exact⟨n,w2,fun m hm=>occ _ (w3 m hm)⟩
  ·have:=L.low x i g
   rw [List.getElem?_append_left this]at g'
   obtain⟨n',a1,a2⟩:=L.way x i h' g g'
   exact⟨n',a1,fun m hm=>occ _ (a2 m hm)⟩
theorem lay_all {M:Nat} (R:Round M):∀(l hs:List Int) (owner:Array (Option Nat)),Lay M hs owner->hs.length+l.length<=M+1->∃owner',(l.foldl (init:=some (owner,hs.length)) fun acc h=>do
   let(owner,k)<-acc
   let j<-layClean.free M owner (turns M) (bits h % (M+1)) (bits h)
   pure (owner.setIfInBounds j (some k),k+1))=some (owner',(hs++l).length)/\Lay M (hs++l) owner'
 | [],hs,owner,L,_=>⟨owner,by simp,by simpa using L⟩
 |h::l,hs,owner,L,hl=>by
  rw [List.length_cons]at hl
  obtain⟨j,hj,L'⟩:=L.step R (by omega) h
  obtain⟨o',e1,e2⟩:=lay_all R l (hs++[h]) _ L' (by rw [List.length_append,List.length_singleton];omega)
  refine⟨o',?_,by simpa using e2⟩
  rw [List.foldl_cons]
  have:(do
   let(owner,k)<-some (owner,hs.length)
   let j<-layClean.free M owner (turns M) (bits h % (M+1)) (bits h)
   pure (owner.setIfInBounds j (some k),k+1):Option (Array (Option Nat)×Nat))=some (owner.setIfInBounds j (some hs.length),hs.length+1):=by
   show(layClean.free M owner (turns M) (bits h % (M+1)) (bits h)).bind _=_
   rw [hj]
   rfl
  rw [this]
  rw [List.length_append,List.length_singleton]at e1
  rw [e1]
  simp
theorem layClean_some {M:Nat} (R:Round M) (hashes:Array Int) (hl:hashes.size<=M+1):∃owner,layClean M hashes=some owner/\Lay M hashes.toList owner:=by
 obtain⟨o',e1,e2⟩:=lay_all R hashes.toList [] _ (Lay.start M) (by simpa using hl)
 refine⟨o',?_,by simpa using e2⟩
 unfold layClean
 rw [<-Array.foldl_toList]
 have e1':=e1
 rw [List.length_nil]at e1'
 rw [e1']
 rfl
def liveOf (M:Nat) (owner:Array (Option Nat)):List (Nat×Nat):=(List.range (M+1)).filterMap fun j=>(owner.getD j none).map (j,·)
theorem mem_live {M:Nat} {owner:Array (Option Nat)} (hsz:owner.size=M+1) {j i:Nat}:(j,i)∈liveOf M owner↔owner[j]? =some (some i):=by
 unfold liveOf
 rw [List.mem_filterMap]
 constructor
 ·rintro⟨x,hx,e⟩
  obtain⟨y,hy,e2⟩:=Option.map_eq_some_iff.mp e
  cases e2
  have hs:j<owner.size:=by rw [hsz];exact List.mem_range.mp hx
  have hy':owner[j]=some i:=by simpa [Array.getD,hs]using hy
  rw [Array.getElem?_eq_getElem hs,hy']
 ·intro e
  obtain⟨hs,e2⟩:=Array.getElem?_eq_some_iff.mp e
  refine⟨j,List.mem_range.mpr (by omega),?_⟩
  have:owner.getD j none=some i:=by simp [Array.getD,hs,e2]
  rw [this]
  rfl
theorem live_rise (M:Nat) (owner:Array (Option Nat)):((liveOf M owner).map (·.1)).Pairwise (·<·):=by
 unfold liveOf
 rw [List.pairwise_map,List.pairwise_filterMap]
 refine(List.pairwise_lt_range (n:=M+1)).imp fun{a b} hab x hx y hy=>?_
 obtain⟨_,_,rfl⟩:=Option.map_eq_some_iff.mp hx
 obtain⟨_,_,rfl⟩:=Option.map_eq_some_iff.mp hy
 exact hab
theorem live_order {M:Nat} {hs:List Int} {owner:Array (Option Nat)} (L:Lay M hs owner):((liveOf M owner).map (·.2)).Perm (List.range hs.length):=by
 have nd:((liveOf M owner).map (·.2)).Nodup:=by
  rw [List.Nodup,List.pairwise_map]
  have h1:=live_rise M owner
  rw [List.pairwise_map]at h1
  refine h1.imp_of_mem fun{a b} ha hb hab z=>?_
  have g1:=(mem_live L.size).mp (show(a.1,a.2)∈_ from ha)
  have g2:=(mem_live L.size).mp (show(b.1,b.2)∈_ from hb)
  rw [z]at g1
  have:=L.uniq _ _ _ g1 g2
  omega
 refine(List.perm_ext_iff_of_nodup nd List.nodup_range).mpr fun i=>?_
 rw [List.mem_range,List.mem_map]
 constructor
 ·rintro⟨⟨j,i'⟩,hm,rfl⟩
  exact L.low j _ ((mem_live L.size).mp hm)
 ·intro hi
  obtain⟨j,hj⟩:=L.has i hi
  exact⟨(j,i),(mem_live L.size).mpr hj,rfl⟩
theorem adv_low (M:Nat) {p:Probe} (h:p.j+p.more<=M):(adv M p).j+(adv M p).more<=M:=by
 unfold adv
 split
 ·show p.j+1+(p.more-1)<=M;omega
 ·show(leap M p.i p.perturb).1+(runEnd M (leap M p.i p.perturb).1-(leap M p.i p.perturb).1)<=M
  have:(leap M p.i p.perturb).1<=M:=by
   show(p.i*5+1+p.perturb / 32) % (M+1)<=M
   have:=Nat.mod_lt (p.i*5+1+p.perturb / 32) (show 0<M+1 by omega)
   omega
  unfold runEnd
  split<;>omega
theorem advs_low (M:Nat):∀(n:Nat) {p:Probe},p.j+p.more<=M->(advs M n p).j<=M
 |0,_,h=>by rw [advs];omega
 |n+1,_,h=>by rw [advs];exact advs_low M n (adv_low M h)
theorem st_low (M:Nat) (h:Int):(st M h).j+(st M h).more<=M:=by
 show bits h % (M+1)+(runEnd M (bits h % (M+1))-bits h % (M+1))<=M
 have:=Nat.mod_lt (bits h) (show 0<M+1 by omega)
 unfold runEnd
 split<;>omega
theorem laid_some {M:Nat} (R:Round M) (finger moves:Nat) (led plain:Bool) (hashes:Array Int) (hl:hashes.size<=M):
  ∃t order,laid M finger moves led plain hashes=some (t,order)/\t.mask=M/\t.led=led/\t.plain=plain/\t.moves=moves/\t.Good/\t.place.size=hashes.size/\order.toList.Perm (List.range hashes.size)/\
   ∀(r j i:Nat) (h:Int),t.place[r]? =some j->order[r]? =some i->hashes[i]? =some h->OnWay t h j:=by
 obtain⟨owner,e1,L⟩:=layClean_some R hashes (by omega)
 have Pm:=live_order L
 have Ps:(liveOf M owner).length=hashes.size:=by
  have:=Pm.length_eq
  rw [List.length_map,List.length_range,Array.length_toList]at this
  exact this
 refine⟨{mask:=M,place:=((liveOf M owner).map (·.1)).toArray,dummies:= #[],finger,led,moves,plain},((liveOf M owner).map (·.2)).toArray,?_,rfl,rfl,rfl,rfl,?_,?_,?_,?_⟩
 ·unfold laid
  rw [e1]
  rfl
 ·refine⟨rfl,rise_iff.mpr (live_rise M owner),fun j hj=>?_,?_,R⟩
  ·obtain⟨⟨j',i⟩,hm,rfl⟩:=List.mem_map.mp hj
   have:=(Array.getElem?_eq_some_iff.mp ((mem_live L.size).mp hm)).1
   show j'<=M
   rw [L.size]at this
   omega
  ·show((liveOf M owner).map (·.1)).toArray.size<=M
   rw [List.size_toArray,List.length_map,Ps]
   exact hl
 ·show((liveOf M owner).map (·.1)).toArray.size=_
  rw [List.size_toArray,List.length_map,Ps]
 ·show((liveOf M owner).map (·.2)).Perm _
  rw [Array.length_toList]at Pm
  exact Pm
 ·intro r j i h h1 h2 h3
  have g1:((liveOf M owner).map (·.1))[r]? =some j:=by simpa using h1
  have g2:((liveOf M owner).map (·.2))[r]? =some i:=by simpa using h2
  rw [List.getElem?_map]at g1 g2
  obtain⟨x,hx,rfl⟩:=Option.map_eq_some_iff.mp g1
  rw [hx]at g2
  cases g2
  have hm:=(mem_live L.size).mp (show(x.1,x.2)∈_ from List.mem_of_getElem? hx)
  obtain⟨n,w1,w2⟩:=L.way x.1 x.2 h hm (by rw [Array.getElem?_toList];exact h3)
  refine⟨n,w1,fun m hm' z=>w2 m hm' ?_⟩
  have z1:=(slot_empty_iff (t:={mask:=M,place:=((liveOf M owner).map (·.1)).toArray,dummies:= #[],finger,led,moves,plain}) (rise_iff.mpr (live_rise M owner)) rfl).mp z
  have low:(advs M m (st M h)).j<=M:=advs_low M m (st_low M h)
  have hs:(advs M m (st M h)).j<owner.size:=by rw [L.size];omega
  cases g:owner[(advs M m (st M h)).j]with
  |none=>rw [Array.getElem?_eq_getElem hs,g]
  |some i'=>
   have g':owner[(advs M m (st M h)).j]? =some (some i'):=by rw [Array.getElem?_eq_getElem hs,g]
   exact absurd (List.mem_map.mpr ⟨((advs M m (st M h)).j,i'),(mem_live L.size).mpr g',rfl⟩) z1
end SetTable
end PySem
namespace PySem
open Sem (wp)
theorem filterMap_get {α β:Type} {f:α->Option β}:∀{l:List α},(∀i∈l,∃y,f i=some y)->∀r:Nat,(l.filterMap f)[r]? =l[r]?.bind f
 | [],_,r=>by simp
 |a::l,h,r=>by
  obtain⟨y,hy⟩:=h a (List.mem_cons_self ..)
  rw [List.filterMap_cons_some hy]
  cases r with
  |zero=>simp [hy]
  |succ r=>
   rw [List.getElem?_cons_succ,List.getElem?_cons_succ]
   exact filterMap_get (fun i hi=>h i (List.mem_cons_of_mem _ hi)) r
theorem range_filterMap {α:Type} (l:List α):(List.range l.length).filterMap (fun i:Nat=>l[i]?)=l:=by
 apply List.ext_getElem?
 intro r
 rw [filterMap_get (fun i hi=>⟨l[i]'(List.mem_range.mp hi),List.getElem?_eq_getElem (List.mem_range.mp hi)⟩)]
 by_cases h:r<l.length
 ·rw [List.getElem?_range h];rfl
 ·rw [List.getElem?_eq_none (by rw [List.length_range];omega),List.getElem?_eq_none (by omega)];rfl
section
variable {prog:Program} {w:World} {K:Type} [DecidableEq K] {knd:HeapKind prog w K} {A:Around} {E:Value->Shared->Prop} {s:Shared} {a b:Addr} {o:Obj} {es:Array (Int×Value)} {ep:Nat} {t:SetTable} {xs:List (K×Addr)} {k:K}
theorem SetAt.relaid (S:SetAt knd s a o es ep t xs) (hkeep:∀h',Heap.SameBut a s.heap h'->∀x c,knd.is s.heap x c->knd.is h' x c) {wanted:Nat} (R:SetTable.Round (SetTable.sizeAbove wanted-1)) (hl:es.size<=SetTable.sizeAbove wanted-1):
  ∃t' order,t.relaid (es.map (·.1)) wanted=some (t',order)/\(order.filterMap (es[·]?)).size=es.size/\t'.mask=SetTable.sizeAbove wanted-1/\t'.led=t.led/\t'.plain=t.plain/\∃xs':List (K×Addr),xs'.Perm xs/\
   SetAt knd {s with heap:=s.heap.update a (Obj.putSet (order.filterMap (es[·]?)) t')} a (Obj.putSet (order.filterMap (es[·]?)) t' o) (order.filterMap (es[·]?)) (ep+1) t' xs':=by
 obtain⟨t',order,e1,e2,e3,e4,e5,G,sz,pm,wy⟩:=SetTable.laid_some R t.finger (t.movedTo (SetTable.sizeAbove wanted-1)) t.led t.plain (es.map (·.1)) (by rw [Array.size_map];exact hl)
 rw [Array.size_map]at sz pm
 have hin:∀i∈order.toList,∃y,xs[i]? =some y:=fun i hi=>by
  have:=List.mem_range.mp (pm.mem_iff.mp hi)
  rw [S.len]at this
  exact⟨xs[i],List.getElem?_eq_getElem this⟩
 have el:(order.filterMap (es[·]?)).toList=(order.toList.filterMap fun i:Nat=>xs[i]?).map fun x=>(knd.hash x.1,Value.ref x.2):=by
  rw [Array.toList_filterMap,List.map_filterMap]
  congr 1
  funext i
  exact S.entry i
 have px:(order.toList.filterMap fun i:Nat=>xs[i]?).Perm xs:=by
  have:=pm.filterMap fun i:Nat=>xs[i]?
  rw [S.len,range_filterMap]at this
  exact this
 have esz:(order.filterMap (es[·]?)).size=es.size:=by rw [<-Array.length_toList,el,List.length_map,px.length_eq,S.len]
 have hnf:(Obj.putSet (order.filterMap (es[·]?)) t' o).isFreed=false:=by
  rw [putSet_of _ _ S.hd]
  rfl
 refine⟨t',order,e1,esz,e2,e3,e4,_,px,⟨Heap.get?_update_self _ S.ho hnf,ExactSet_put _ _ S.hd S.hex,by rw [putSet_of _ _ S.hd],el,G,by rw [sz,esz],fun x hx=>hkeep _ (Heap.SameBut.update ..) _ _ (S.keys x (px.mem_iff.mp hx)),?_,fun r j x h1 h2=>?_⟩⟩
 ·rw [(px.map (·.1)).nodup_iff];exact S.nd
 ·rw [filterMap_get hin]at h2
  obtain⟨i,hi,hx⟩:=Option.bind_eq_some_iff.mp h2
  refine wy r j i _ h1 (by rw [<-Array.getElem?_toList];exact hi) ?_
  rw [Array.getElem?_map,S.entry i,hx]
  rfl
theorem wpAny_relay_heap (S:SetAt knd s a o es ep t xs) (hkeep:∀h',Heap.SameBut a s.heap h'->∀x c,knd.is s.heap x c->knd.is h' x c) {wanted:Nat} (R:SetTable.Round (SetTable.sizeAbove wanted-1)) (hl:es.size<=SetTable.sizeAbove wanted-1) (hsz:SetTable.sizeAbove wanted<=sizeLine) {Q:Unit->Shared->Prop}
  (h:∀(h':Heap) (o':Obj) (es':Array (Int×Value)) (t':SetTable) (xs':List (K×Addr)),Heap.SameBut a s.heap h'->xs'.Perm xs->t'.mask=SetTable.sizeAbove wanted-1->t'.led=t.led->t'.plain=t.plain->SetAt knd {s with heap:=h'} a o' es' (ep+1) t' xs'->Q () {s with heap:=h'}):
  wpAny (model prog w) A (setRelay a wanted) Q E s:=by
 obtain⟨t',order,e1,e2,e3,e4,e5,xs',px,S'⟩:=S.relaid hkeep R hl
 unfold setRelay
 refine wpAny_bind (wpAny_setState_of S.ho S.hd S.fits ?_)
 dsimp only
 rw [if_neg (by omega)]
 refine wpAny_bind ?_
 rw [e1]
 show wpAny _ _ (if(order.filterMap (es[·]?)).size != es.size then _ else pure (order.filterMap (es[·]?),t')) _ _ _
 rw [if_neg (by rw [e2];simp)]
 refine wpAny_pure ?_
 refine wpAny_storeSet_of S.ho S.hd (h _ _ _ _ xs' (Heap.SameBut.update ..) px e3 e4 e5 S') ?_
 rw [e2]
 omega
end
end PySem
namespace PySem
open Sem (wp)
namespace SetTable
variable {t:SetTable}
theorem first_empty (G:t.Good) (h:Int):∃N,N<10*turns t.mask/\t.slot (advs t.mask N (t.probeStart h)).j= .empty/\∀m,m<N->t.slot (advs t.mask m (t.probeStart h)).j≠ .empty:=by
 obtain⟨N,h1,h2⟩:=empty_near G.round G.dum G.room (t.probeStart h) (start_ok t h).1 (start_ok t h).2
 induction N using Nat.strongRecOn with
 |_ N ih=>
  by_cases hx:∃m,m<N/\t.slot (advs t.mask m (t.probeStart h)).j= .empty
  ·obtain⟨m,hm,e⟩:=hx
   exact ih m hm (by omega) e
  ·exact⟨N,h1,h2,fun m hm e=>hx ⟨m,hm,e⟩⟩
def Small (t:SetTable):Prop:=(t.mask=7/\t.place.size<=4)∨(t.mask=31/\t.place.size<=18)
theorem Small.odd (S:t.Small):t.mask % 2=1:=by rcases S with ⟨e,_⟩|⟨e,_⟩<;>rw [e]
end SetTable
section
variable {prog:Program} {w:World} {K:Type} [DecidableEq K] (knd:HeapKind prog w K)
def SetIs (s:Shared) (a:Addr) (l:Bool) (xs:List (K×Addr)):Prop:=∃o es ep t,SetAt knd s a o es ep t xs/\t.Small/\t.plain=true/\t.led=l
variable {knd} {A:Around} {E:Value->Shared->Prop} {s:Shared} {a b:Addr} {o:Obj} {es:Array (Int×Value)} {ep:Nat} {t:SetTable} {xs:List (K×Addr)} {k:K} {l:Bool}
theorem SetIs.at (D:SetKd knd) {s':Shared} (S:SetIs knd s a l xs) (h1:∀o,s.heap.get? a=some o->s'.heap.get? a=some o) (h2:∀b o,o.cls= .type "tuple"->s.heap.get? b=some o->s'.heap.get? b=some o):SetIs knd s' a l xs:=by
 obtain⟨o,es,ep,t,S,r⟩:=S
 exact⟨o,es,ep,t,⟨h1 o S.ho,S.hex,S.hd,S.he,S.good,S.size,fun x hx=>D.mono (S.keys x hx) h2,S.nd,S.way⟩,r⟩
theorem byScan_ref (x:Addr) (es:Array (Int×Value)):byScan (.ref x) es=false:=rfl
theorem wpAny_setAddHashed_heap (D:SetKd knd) (S:SetIs knd s a l xs) (hn:xs.length<18) (hu:knd.room A) (hkey:knd.is s.heap k b) {Q:Bool->Shared->Prop}
  (hold:(∃x∈xs,x.1=k)->Q false s)
  (hnew:(∀x∈xs,x.1≠k)->∀h' xs',Heap.SameBut a s.heap h'->xs'.Perm ((k,b)::xs)->SetIs knd {s with heap:=h'} a l xs'->Q true {s with heap:=h'}):
  wpAny (model prog w) A (setAddHashed a (.ref b) (knd.hash k)) Q E s:=by
 obtain⟨o,es,ep,t,S,sm,pl,rfl⟩:=S
 unfold setAddHashed
 refine wpAny_holding ?_
 unfold setAddHashedIn
 refine wpAny_bind (wpAny_setState_of S.ho S.hd S.fits ?_)
 dsimp only
 rw [byScan_ref]
 simp only [Bool.false_eq_true,if_false]
 obtain⟨N,n1,n2,n3⟩:=SetTable.first_empty S.good (knd.hash k)
 have bigm:10*SetTable.turns t.mask<=100000:=by
  unfold SetTable.turns
  rcases sm with ⟨e,_⟩|⟨e,_⟩<;>rw [e]<;>decide
 refine wpAny_bind (wpAny_search_heap S sm.odd D hu hkey n2 n1 n3 (fun h=>?_) (fun h=>?_) 100000 0 none rfl (Nat.zero_le _) (by omega) fun m hm=>absurd hm (Nat.not_lt_zero m))
 ·exact wpAny_pure (hold h)
 ·dsimp only
  refine wpAny_bind (wpAny_setState_of S.ho S.hd S.fits ?_)
  dsimp only
  have lowj:(SetTable.advs t.mask N (t.probeStart (knd.hash k))).j<=t.mask:=SetTable.advs_low _ _ (SetTable.st_low _ _)
  have hsz:t.place.size+1<=t.mask:=by rcases sm with ⟨e,h⟩|⟨e,h⟩<;>omega
  have S':=S.add hkey h (fun h' sb x c hx=>D.keep hx S.ho S.hex sb) n2 n3 lowj hsz rfl rfl
  have hb:=(SetTable.below_spec S.good.rise (SetTable.advs t.mask N (t.probeStart (knd.hash k))).j).1
  have psz:(t.put (SetTable.advs t.mask N (t.probeStart (knd.hash k))).j).1.place.size=t.place.size+1:=by
   rw [SetTable.put_eq S.good.dum]
   exact SetTable.insert_size _ _ hb
  have pmk:(t.put (SetTable.advs t.mask N (t.probeStart (knd.hash k))).j).1.mask=t.mask:=by rw [SetTable.put_eq S.good.dum]
  have ppl:(t.put (SetTable.advs t.mask N (t.probeStart (knd.hash k))).j).1.plain=true:=by rw [SetTable.put_eq S.good.dum];exact pl
  have pld:(t.put (SetTable.advs t.mask N (t.probeStart (knd.hash k))).j).1.led=t.led:=by rw [SetTable.put_eq S.good.dum]
  have p2:(t.put (SetTable.advs t.mask N (t.probeStart (knd.hash k))).j).2=SetTable.below t.place (SetTable.advs t.mask N (t.probeStart (knd.hash k))).j:=by rw [SetTable.put_eq S.good.dum]
  have pm:=(List.perm_middle (a:=(k,b)) (l₁:=xs.take (SetTable.below t.place (SetTable.advs t.mask N (t.probeStart (knd.hash k))).j)) (l₂:=xs.drop (SetTable.below t.place (SetTable.advs t.mask N (t.probeStart (knd.hash k))).j)))
  rw [List.take_append_drop]at pm
  have fl:(t.put (SetTable.advs t.mask N (t.probeStart (knd.hash k))).j).1.fill=t.place.size+1:=by
   unfold SetTable.fill
   rw [psz,S'.good.dum]
   rfl
  rw [ppl]
  simp only [if_true]
  refine wpAny_bind (D.byValue hkey ?_)
  simp only [if_true,p2]
  have els:=S'.len
  have eln:=S.len
  have hxl:=pm.length_eq
  rw [List.length_cons]at hxl
  refine wpAny_bind (wpAny_storeSet_of S.ho S.hd ?_ (by rw [els,hxl];unfold sizeLine;omega))
  by_cases full:(t.put (SetTable.advs t.mask N (t.probeStart (knd.hash k))).j).1.tooFull=true
  ·rw [full]
   simp only [Bool.not_false,Bool.and_self,if_true]
   have fd:t.mask=7/\t.place.size=4:=by
    unfold SetTable.tooFull at full
    rw [fl,pmk]at full
    have full:=of_decide_eq_true full
    have:=S.size
    rcases sm with ⟨e,h⟩|⟨e,h⟩<;>rw [e]at full<;>omega
   have e5:es.size=4:=by rw [<-S.size];exact fd.2
   have eg:SetTable.sizeAbove (SetTable.grown (es.size+1))=32:=by rw [e5];decide
   refine wpAny_bind (wpAny_relay_heap S' (fun h' sb x c hx=>D.keep hx S'.ho S'.hex sb) (by rw [eg];exact SetTable.round31) (by rw [els,hxl,eg, <-eln,e5];decide) (by rw [eg];unfold sizeLine;omega) fun h' o' es' t' xs' sb px e1 e2 e3 S2=>?_)
   refine wpAny_pure ?_
   refine hnew h h' xs' (Heap.SameBut.trans (Heap.SameBut.update ..) sb) (px.trans pm) ⟨o',es',_,t',S2,.inr ⟨by rw [e1,eg],?_⟩,by rw [e3];exact ppl,by rw [e2];exact pld⟩
   rw [S2.size,S2.len,px.length_eq,hxl, <-eln,e5]
   decide
  ·have full:=Bool.eq_false_iff.mpr full
   rw [full]
   simp only [Bool.and_false,Bool.false_eq_true,if_false]
   refine wpAny_pure (hnew h _ _ (Heap.SameBut.update ..) pm ⟨_,_,_,_,S',?_,ppl,pld⟩)
   unfold SetTable.tooFull at full
   rw [fl,pmk]at full
   have full:=of_decide_eq_false full
   have sz:=S.size
   unfold SetTable.Small
   rw [pmk,psz]
   rcases sm with ⟨e,h⟩|⟨e,h⟩
   ·left
    rw [e]at full
    exact⟨e,by omega⟩
   ·right
    exact⟨e,by omega⟩
end
end PySem
namespace PySem
open Sem (wp)
theorem hashByValue_int (n:Nat) (i:Int) (tk):hashByValue n (.int i tk)=pure true:=by cases n<;>rfl
theorem ofAClass_val (n:Nat) {v:Value} (h:carriedByValue v=true):ofAClassStatement n v=pure false:=by
 cases v with
 |ref a=>cases h
 |_=>first|rfl|(unfold ofAClassStatement;rfl)
section
variable {prog:Program} {w:World} {K:Type} [DecidableEq K] {knd:KeyKind prog w K} {A:Around} {E:Value->Shared->Prop} {s:Shared}
theorem ItemsAre.ints (hv:∀k v,knd.is k v=true->∃i tk,v=Value.int i tk) {x:List K} {vs:List Value} (hx:ItemsAre knd x vs):∀v∈vs,∃i tk,v=Value.int i tk:=by
 induction hx with
 |nil=>intro v hv;simp at hv
 |@cons k v' ks vs h1 _ ih=>
  intro v hm
  rcases List.mem_cons.mp hm with rfl|hm
  ·exact hv _ _ h1
  ·exact ih v hm
theorem wpAny_hashByValue_tuple (hv:∀k v,knd.is k v=true->∃i tk,v=Value.int i tk) {n:Nat} {ks:List K} {a:Addr} {Q:Bool->Shared->Prop} (hk:IsTupleKey knd s.heap ks a) (h:Q true s):wpAny (model prog w) A (hashByValue (n+1) (.ref a)) Q E s:=by
 have hT:=hk.typeIs
 obtain⟨o,items,m,ho,_,hd,hi⟩:=hk
 unfold hashByValue
 refine wpAny_bind (wpAny_specialOf hT F.slot_tuple_hash.lookup ?_)
 show wpAny _ _ (seqItems? (.ref a)>>=_) _ _ s
 refine wpAny_bind (wpAny_seqItems ho hd ?_)
 refine wpAny_bind ?_
 show wpAny _ _ (forIn items _ _) _ _ s
 rw [<-Array.forIn_toList]
 refine wpAny_forIn_list _ (fun rest r s'=>r.1=none/\s'=s/\∀v∈rest,∃i tk,v=Value.int i tk) _ ?_ ?_ _ _ ⟨rfl,rfl,hi.ints hv⟩
 ·rintro v rest r s' ⟨hr,rfl,hall⟩
  obtain⟨i,tk,rfl⟩:=hall v List.mem_cons_self
  rw [hashByValue_int]
  refine wpAny_bind (wpAny_pure ?_)
  simp only [Bool.not_true,Bool.false_eq_true,if_false]
  exact wpAny_pure ⟨rfl,rfl,fun u hu'=>hall u (List.mem_cons_of_mem _ hu')⟩
 ·rintro⟨r1,r2⟩ s' ⟨hr,rfl,_⟩
  simp only at hr
  subst hr
  exact wpAny_pure h
theorem wpAny_ofAClass_tuple {n:Nat} {ks:List K} {a:Addr} {Q:Bool->Shared->Prop} (hk:IsTupleKey knd s.heap ks a) (h:Q false s):wpAny (model prog w) A (ofAClassStatement (n+1) (.ref a)) Q E s:=by
 have hT:=hk.typeIs
 obtain⟨o,items,m,ho,_,hd,hi⟩:=hk
 unfold ofAClassStatement
 refine wpAny_bind (wpAny_typeOf hT ?_)
 dsimp only
 simp only [beq_self_eq_true,if_true]
 refine wpAny_bind (wpAny_pure ?_)
 simp only [Bool.not_true,Bool.false_eq_true,if_false]
 refine wpAny_bind (wpAny_seqItems ho hd ?_)
 dsimp only
 refine wpAny_bind ?_
 rw [<-Array.forIn_toList]
 refine wpAny_forIn_list _ (fun rest r s'=>r.1=none/\s'=s/\∀v∈rest,carriedByValue v=true) _ ?_ ?_ _ _ ⟨rfl,rfl,hi.byValue⟩
 ·rintro v rest r s' ⟨hr,rfl,hall⟩
  rw [ofAClass_val _ (hall v List.mem_cons_self)]
  refine wpAny_bind (wpAny_pure ?_)
  simp only [Bool.false_eq_true,if_false]
  exact wpAny_pure ⟨rfl,rfl,fun u hu'=>hall u (List.mem_cons_of_mem _ hu')⟩
 ·rintro⟨r1,r2⟩ s' ⟨hr,rfl,_⟩
  simp only at hr
  subst hr
  exact wpAny_pure h
theorem IsTupleKey.monoS {h h':Heap} {ks:List K} {a:Addr} (x:IsTupleKey knd h ks a) (hs:∀b o,o.cls= .type "tuple"->h.get? b=some o->h'.get? b=some o):IsTupleKey knd h' ks a:=by
 obtain⟨o',items,n,ho',hc,hd',hi⟩:=x
 exact⟨o',items,n,hs _ _ hc ho',hc,hd',hi⟩
theorem tupleKd (hv:∀k v,knd.is k v=true->∃i tk,v=Value.int i tk):SetKd (tupleKind knd) where
 mono:=fun x hs=>IsTupleKey.monoS x hs
 byValue:=fun x h=>wpAny_hashByValue_tuple hv x h
 plain:=fun x h=>wpAny_ofAClass_tuple x h
end
end PySem
namespace PySem
open Sem (wp)
section
variable {prog:Program} {w:World} {K:Type} [DecidableEq K] {knd:HeapKind prog w K} {A:Around}
structure Met (val:Nat->K) (adr:Nat->Addr) (i:Nat) (xs:List (K×Addr)):Prop where
 from':∀x∈xs,∃j,j<i/\x=(val j,adr j)
 all:∀j,j<i->∃x∈xs,x.1=val j
 len:xs.length<=i
theorem codeAny_set_update_loopH {R:Result->Shared->Prop} {I:Addr} {fp wr:List Addr} {G:Array GenState->Array GenState->Prop} {n:Nat} {P:Nat->Value->Prop} {St:Nat->Shared->Prop}
  (D:SetKd knd) (W:WalksS prog w A.in1 I fp wr G n P St) (S:Addr) (hSf:S∉fp) (hu:knd.room A.in1) (l:Bool)
  (val:Nat->K) (adr:Nat->Addr) (hval:∀i v,P i v->v= .ref (adr i)) (hn:n<18) (hnt:∀i s,St i s->∀b∈wr,∀o,s.heap.get? b=some o->o.cls≠ .type "tuple"):
  ∀(k i:Nat) (s:Shared) (xs:List (K×Addr)),n-i=k->i<=n->St i s->(∀j,j<n->knd.is s.heap (val j) (adr j))->
   SetIs knd s S l xs->Met val adr i xs->
   (∀s' xs',Moved (S::wr) G s s'->SetIs knd s' S l xs'->Met val adr n xs'->(∀b o,o.cls= .type "tuple"->s.heap.get? b=some o->s'.heap.get? b=some o)->R (.ok (.ret .none)) s')->
   codeAny (model prog w) A (.builtin "set.update.loop" ⟨[.ref S,.ref I],[]⟩) R s:=by
 have hSw:S∉wr:=fun h=>hSf (W.sub _ h)
 have hsub:∀b∈wr,b∈S::wr:=fun b hb=>List.mem_cons_of_mem _ hb
 intro k
 induction k with
 |zero=>
  intro i s xs hk hi hst hkey hS hm0 hR
  have hin:i=n:=by omega
  subst hin
  refine codeAny_builtin PyProof.Rows.F.entry_set_update_loop ?_
  rw [Around.under_plainId PyProof.Rows.F.plain_set_update_loop _]
  show wpAny _ A.in1 (pyNext (.ref I)>>=_) _ _ s
  refine wpAny_bind (W.done s _ _ hst fun s' hm=>?_)
  have ht:∀b o,o.cls= .type "tuple"->s.heap.get? b=some o->s'.heap.get? b=some o:=fun b o hc e=>hm.heap b o (fun hb=>hnt _ _ hst b hb o e hc) e
  show wpAny _ A.in1 (ret Value.none) _ _ s'
  exact wpAny_pure (hR s' xs (hm.mono hsub) (hS.at D (fun o e=>hm.heap S o hSw e) ht) hm0 ht)
 |succ k ih=>
  intro i s xs hk hi hst hkey hS hm0 hR
  have hlt:i<n:=by omega
  refine codeAny_builtin PyProof.Rows.F.entry_set_update_loop ?_
  rw [Around.under_plainId PyProof.Rows.F.plain_set_update_loop _]
  show wpAny _ A.in1 (pyNext (.ref I)>>=_) _ _ s
  refine wpAny_bind (W.item i s _ _ hlt hst fun v s' hP hst' hm=>?_)
  obtain rfl:=hval i v hP
  have ht:∀b o,o.cls= .type "tuple"->s.heap.get? b=some o->s'.heap.get? b=some o:=fun b o hc e=>hm.heap b o (fun hb=>hnt _ _ hst b hb o e hc) e
  have hS':=hS.at D (fun o e=>hm.heap S o hSw e) ht
  have hk':∀j,j<n->knd.is s'.heap (val j) (adr j):=fun j hj=>D.mono (hkey j hj) ht
  show wpAny _ A.in1 (holding [Value.ref (adr i)] (setAdd S (.ref (adr i)))>>=_) _ _ s'
  refine wpAny_bind (wpAny_holding ?_)
  unfold setAdd
  refine wpAny_holding ?_
  refine wpAny_bind (knd.pyHash (k:=val i) hu (hk' i hlt) ?_)
  have hS2:SetIs knd {s' with toks:=s'.toks+knd.draws (val i)} S l xs:=hS'.at D (fun _ e=>e) fun _ _ _ e=>e
  refine wpAny_setAddHashed_heap D hS2 (by have:=hm0.len;omega) hu (hk' i hlt) (fun hold=>?_) (fun hnew h' xs' hsb pm S3=>?_)
  ·refine wpAny_pure ⟨plainId_quiet PyProof.Rows.F.plain_set_update_loop _,ih (i+1) _ xs (by omega) hlt (W.frame _ s' _ _ hst' (Nat.le_add_right _ _) fun b hb o e=>e) hk' hS2 ⟨fun x hx=>?_,fun j hj=>?_,by have:=hm0.len;omega⟩ fun s'' xs'' hm'' S'' M'' ht''=>?_⟩
   ·obtain⟨j,h1,h2⟩:=hm0.from' x hx
    exact⟨j,by omega,h2⟩
   ·by_cases e:j=i
    ·subst e;exact hold
    ·exact hm0.all j (by omega)
   ·exact hR s'' xs'' (Moved.trans W.gtrans ((hm.mono hsub).then_heap (Nat.le_add_right _ _) fun b o hb e=>e) hm'') S'' M'' fun b o hc e=>ht'' b o hc (ht b o hc e)
  ·have hSt:∀b o,o.cls= .type "tuple"->s'.heap.get? b=some o->h'.get? b=some o:=fun b o hc e=>by
    have ne:b≠S:=by
     rintro rfl
     obtain⟨o2,_,_,_,z,_⟩:=hS'
     rw [z.ho]at e
     cases e
     rw [z.hex.1]at hc
     exact absurd hc (by decide)
    rw [hsb.2 b ne]
    exact e
   refine wpAny_pure ⟨plainId_quiet PyProof.Rows.F.plain_set_update_loop _,ih (i+1) _ xs' (by omega) hlt (W.frame _ s' _ _ hst' (Nat.le_add_right _ _) fun b hb o e=>?_) (fun j hj=>D.mono (hk' j hj) hSt) S3 ⟨fun x hx=>?_,fun j hj=>?_,by have:=hm0.len;rw [pm.length_eq,List.length_cons];omega⟩ fun s'' xs'' hm'' S'' M'' ht''=>?_⟩
   ·rw [hsb.2 b (fun h:b=S=>hSf (by rw [<-h];exact hb))];exact e
   ·rcases List.mem_cons.mp (pm.mem_iff.mp hx)with e|m
    ·exact⟨i,by omega,e⟩
    ·obtain⟨j,h1,h2⟩:=hm0.from' x m
     exact⟨j,by omega,h2⟩
   ·by_cases e:j=i
    ·subst e;exact⟨_,pm.mem_iff.mpr List.mem_cons_self,rfl⟩
    ·obtain⟨x,hx,ex⟩:=hm0.all j (by omega)
     exact⟨x,pm.mem_iff.mpr (List.mem_cons_of_mem _ hx),ex⟩
   ·refine hR s'' xs'' (Moved.trans W.gtrans ((hm.mono hsub).then_heap (Nat.le_add_right _ _) fun b o hb e=>?_) hm'') S'' M'' fun b o hc e=>ht'' b o hc (hSt b o hc (ht b o hc e))
    rw [hsb.2 b (fun h:b=S=>hb (by rw [h];exact List.mem_cons_self))];exact e
end
section
variable {prog:Program} {w:World} {A:Around} {E:Value->Shared->Prop} {s:Shared}
theorem code_set_newL (a:Value) {Q₁:Value->Shared->Prop}
  (h:Q₁ (.ref s.heap.objs.size) {s with heap:=s.heap.push {cls:= .type "set",dict:=none,data:= .set #[] 0 (.fresh 0 0 (!w.params.followText "set-order"))}}):
  codeAny (model prog w) A (.call (.builtin "set.__new__") ⟨[.type "set",a],[]⟩) (wants Q₁ E) s:=by
 refine codeAny_of_tree ?_
 show wpAny _ A.in1 (do checkBuiltinCall "set.__new__" ⟨[.type "set",a],[]⟩;again (.builtin "set.__new__" ⟨[.type "set",a],[]⟩)) _ _ s
 refine wpAny_bind (wpAny_of_eq (F.newCall_set_1 a) (wpAny_pure ⟨plainId_quiet F.plain_set_new _,codeAny_builtin F.entry_set_new ?_⟩))
 rw [Around.under_plainId F.plain_set_new _]
 unfold Builtin.«set.__new__» Builtin.Frozenset.newClass
 have hsub:=sub_set_self
 obtain⟨hp,g,d,tk,os⟩:=s
 dsimp only
 wp_walk
 refine wpAny_askSetting (wpAny_pure ?_)
 dsimp only
 simp only [newObj]
 refine wpAny_bind (wpAny_alloc (wpAny_pure ?_))
 exact wpAny_pure h
end
section
variable {prog:Program} {w:World} {K:Type} [DecidableEq K] {knd:HeapKind prog w K} {A:Around} {E:Value->Shared->Prop} {s:Shared}
theorem SetIs.fresh (s:Shared) {a:Addr} (l:Bool) (h:s.heap.get? a=some {cls:= .type "set",dict:=none,data:= .set #[] 0 (.fresh 0 0 l)}):SetIs knd s a l []:=
 ⟨_, #[],0,_,⟨h,⟨rfl,rfl,rfl⟩,rfl,rfl,⟨rfl,fun i k h1 h2=>absurd h2 (Nat.not_lt_zero _),fun j hj=>(nomatch hj),Nat.zero_le _,SetTable.round7⟩,rfl,fun x hx=>(nomatch hx),List.nodup_nil,fun i j x h1 h2=>(nomatch h2)⟩,.inl ⟨rfl,Nat.zero_le _⟩,rfl,rfl⟩
theorem call_set_listH {l:Addr} {items:Array Value} {val:Nat->K} {adr:Nat->Addr} {Q:Value->Shared->Prop} (D:SetKd knd) (hu:∀A':Around,A'.units<=A.units+8->knd.room A')
  (hh:A.handled=none) (hl:s.heap.IsList l items) (hi:∀(i:Nat) (v:Value),items[i]? =some v->v=Value.ref (adr i)) (hk:∀j,j<items.size->knd.is s.heap (val j) (adr j)) (hb:items.size<18)
  (h:∀(h':Heap) (tk:Nat) (xs:List (K×Addr)),SetIs knd {s with heap:=h',toks:=tk} s.heap.objs.size (!w.params.followText "set-order") xs->Met val adr items.size xs->
   (∀b o,b<s.heap.objs.size->s.heap.get? b=some o->h'.get? b=some o)->Q (.ref s.heap.objs.size) {s with heap:=h',toks:=tk}):
  wpAny (model prog w) A (call (.type "set") [.ref l]) Q E s:=by
 obtain⟨c,tl,hmro⟩:=F.called_set.mro
 have hmade:=F.called_set.made
 have hsub:=F.called_set.sub
 refine wpAny_call (codeAny_of_tree ?_)
 show wpAny _ _ (callAny (.type "set") _) _ _ _
 refine wpAny_pure ⟨Code.quiet_builtin _ (by decide+kernel),codeAny_builtin F.entry_type_call ?_⟩
 rw [Around.under_plain (weight_type_call_type "set" [.ref l] []) rfl]
 have h1:=F.called_set.notType
 have h2:=F.called_set.canCreate
 have hct:=F.typeCall_set_1 (.ref l)
 repeat (any_goals (first|assumption|wp_step))
 generalize hled:(!w.params.followText "set-order")=led at h
 refine codeAny_mono (code_set_newL (.ref l) (E:=E) (Q₁:=fun obj s₁=>obj= .ref s.heap.objs.size/\s₁={s with heap:=s.heap.push {cls:= .type "set",dict:=none,data:= .set #[] 0 (.fresh 0 0 led)}}) ⟨rfl,by rw [hled]⟩) fun r s₁ hr=>?_
 cases r with
 |error e=>exact hr
 |ok fl=>
  cases fl with
  |ret obj=>
   obtain⟨rfl,rfl⟩:=hr
   have hS:(s.heap.push {cls:= .type "set",dict:=none,data:= .set #[] 0 (.fresh 0 0 led)}).get? s.heap.objs.size=some {cls:= .type "set",dict:=none,data:= .set #[] 0 (.fresh 0 0 led)}:=Heap.get?_push_size _ rfl
   have hT:Shared.TypeIs {s with heap:=s.heap.push {cls:= .type "set",dict:=none,data:= .set #[] 0 (.fresh 0 0 led)}} (.ref s.heap.objs.size) "set":=⟨_,hS,rfl⟩
   have hli:=F.called_set.init.lookup
   have hbi:=F.called_set.init.bind (.ref s.heap.objs.size)
   repeat (any_goals (first|assumption|wp_step))
   refine codeAny_mono (codeAny_call_builtin (R:=wants (fun r s₂=>r= .none/\∃h' tk xs,s₂={s with heap:=h',toks:=tk}/\
     SetIs knd {s with heap:=h',toks:=tk} s.heap.objs.size led xs/\Met val adr items.size xs/\
     (∀b o,b<s.heap.objs.size->s.heap.get? b=some o->h'.get? b=some o)) E) F.called_set.init.plain F.entry_set_init (check_set_init_1 hT ?_)) fun r₂ s₂ hr₂=>?_
   ·obtain⟨ol,hol,hcl,nl,hdl⟩:=hl
    obtain⟨ocls,odict,odata,oslots⟩:=ol
    simp only at hcl hdl
    subst hcl;subst hdl
    have hol':(s.heap.push {cls:= .type "set",dict:=none,data:= .set #[] 0 (.fresh 0 0 led)}).get? l=some {cls:= .type "list",dict:=odict,data:= .seq items nl,slots:=oslots}:=Heap.get?_push_of_some _ hol
    have hsls:=F.sub_list_set
    have hslf:=F.sub_list_frozenset
    have hne:(Value.type "list"==Value.type "dict")=false:=by decide
    have hl1:(s.heap.push {cls:= .type "set",dict:=none,data:= .set #[] 0 (.fresh 0 0 led)}).IsList l items:=⟨_,hol',rfl,nl,rfl⟩
    unfold Builtin.«set.__init__» noKeywords Builtin.Frozenset.updateFrom
    generalize hPI:pyIter=PI
    wp_walk
    subst hPI
    refine wpAny_pyIter_list hl1 ?_
    refine wpAny_bind (wpAny_runValue ?_)
    have hlS:l<s.heap.objs.size:=Heap.lt_size hol
    have hh3:A.in1.in1.in1.handled=none:=by simp [hh]
    have hneI:l≠(s.heap.push {cls:= .type "set",dict:=none,data:= .set #[] 0 (.fresh 0 0 led)}).objs.size:=by
     rw [Heap.size_push];exact Nat.ne_of_lt (Nat.lt_succ_of_lt hlS)
    have hSf:s.heap.objs.size∉[(s.heap.push {cls:= .type "set",dict:=none,data:= .set #[] 0 (.fresh 0 0 led)}).objs.size,l]:=by
     rw [Heap.size_push];simp only [List.mem_cons,List.mem_singleton,List.not_mem_nil,or_false,not_or]
     exact⟨Nat.ne_of_lt (Nat.lt_succ_self _),Nat.ne_of_gt hlS⟩
    have keep2:∀b o,s.heap.get? b=some o->((s.heap.push {cls:= .type "set",dict:=none,data:= .set #[] 0 (.fresh 0 0 led)}).push {cls:= .type "list_iterator",data:= .fields #[.ref l,.int 0 0]}).get? b=some o:=fun b o e=>Heap.get?_push_of_some _ (Heap.get?_push_of_some _ e)
    refine codeAny_set_update_loopH D ((Walks.list hh3 _ l hneI items).toS) s.heap.objs.size
     hSf (hu _ (by simp [Around.in1])) led val adr hi hb ?hnt (items.size-0) 0 _ [] (by omega) (Nat.zero_le _)
     ⟨⟨_,Heap.get?_push_size _ rfl,rfl,rfl⟩,(hl1.push _)⟩ (fun j hj=>D.mono (hk j hj) fun b o _ e=>keep2 b o e) ?hS0 ⟨fun x hx=>(nomatch hx),fun j hj=>absurd hj (Nat.not_lt_zero _),Nat.zero_le _⟩ ?hR
    case hnt=>
     rintro i s2 ⟨⟨o2,g1,g2,_⟩,_⟩ b hb o e hc
     have hb:=List.mem_singleton.mp hb
     subst hb
     rw [g1]at e
     cases e
     rw [g2]at hc
     exact absurd hc (by decide)
    case hS0=>
     exact SetIs.fresh _ led (Heap.get?_push_of_some _ hS)
    case hR=>
     intro s' xs hm hS' hM ht
     obtain⟨h',g',d',tk',os'⟩:=s'
     have eg:g'=s.gens:=hm.gens
     have ed:d'=s.drawn:=hm.drawn
     have eo:os'=s.os:=hm.os
     subst eg;subst ed;subst eo
     show wpAny _ _ _ _ _ _
     refine wpAny_pure ?_
     show wpAny _ _ (ret Value.none) _ _ _
     refine wpAny_pure ⟨rfl,h',tk',xs,rfl,hS',hM,fun b o hb e=>?_⟩
     have hb1:b≠s.heap.objs.size:=Nat.ne_of_lt hb
     have hb2:b≠(s.heap.push {cls:= .type "set",dict:=none,data:= .set #[] 0 (.fresh 0 0 led)}).objs.size:=by
      rw [Heap.size_push];exact Nat.ne_of_lt (Nat.lt_succ_of_lt hb)
     exact hm.heap b o (by simp only [List.mem_cons,List.mem_singleton,List.not_mem_nil,or_false,not_or];exact⟨hb1,hb2⟩) (keep2 b o e)
   ·cases r₂ with
    |error e=>exact hr₂
    |ok fl₂=>
     cases fl₂ with
     |ret r=>
      obtain⟨rfl,h',tk,xs,rfl,hS',hM,hk'⟩:=hr₂
      repeat (any_goals (first|assumption|wp_step))
      exact h _ _ _ hS' hM hk'
     |_=>exact hr₂.elim
  |_=>exact hr.elim
end
end PySem
namespace PySem
open Sem (wp)
namespace F
theorem slot_set_iterator_next:Slot "set_iterator" "__next__" "set_iterator.__next__":=
 .of (owner:="set_iterator") (n:="__next__") (by rw [typeLookup_type,builtinLookup_eq_fast];kernel_rfl) (by decide+kernel) (by decide+kernel) (by decide+kernel)
  (by first|exact .inl (by decide+kernel)|exact .inr (by decide+kernel)) (by rw [isSubtype_type];kernel_rfl)
theorem slot_set_iterator_iter:Slot "set_iterator" "__iter__" "set_iterator.__iter__":=
 .of (owner:="set_iterator") (n:="__iter__") (by rw [typeLookup_type,builtinLookup_eq_fast];kernel_rfl) (by decide+kernel) (by decide+kernel) (by decide+kernel)
  (by first|exact .inl (by decide+kernel)|exact .inr (by decide+kernel)) (by rw [isSubtype_type];kernel_rfl)
theorem entry_set_iterator_next:entryFor table "set_iterator.__next__"=some Builtin.«set_iterator.__next__»:=entryFor_of_tree (by kernel_rfl)
theorem entry_set_iterator_iter:entryFor table "set_iterator.__iter__"=some Builtin.«dict_keyiterator.__iter__»:=
 entryFor_alias (id':="dict_keyiterator.__iter__") (by kernel_rfl) (by first|rfl|decide+kernel) (by decide+kernel) (by kernel_rfl)
theorem entry_set_iter:entryFor table "set.__iter__"=some Builtin.«frozenset.__iter__»:=
 entryFor_alias (id':="frozenset.__iter__") (by kernel_rfl) (by first|rfl|decide+kernel) (by decide+kernel) (by kernel_rfl)
theorem owner_set_iterator:Manifest.owners.lookup (String.ofList ['r','o','t','a','r','e','t','i','_','t','e','s'].reverse)=some Manifest.sig_set_iterator:=by kernel_rfl
theorem args_set_iterator_next_1 (a:Value):argsOk "set_iterator.__next__" ⟨[a],[]⟩:=by
 unfold argsOk;rw [signature?_of (id:="set_iterator.__next__") (n:=['_','_','t','x','e','n','_','_']) (o:=['r','o','t','a','r','e','t','i','_','t','e','s']) (by kernel_rfl) owner_set_iterator];kernel_rfl
theorem args_set_iterator_iter_1 (a:Value):argsOk "set_iterator.__iter__" ⟨[a],[]⟩:=by
 unfold argsOk;rw [signature?_of (id:="set_iterator.__iter__") (n:=['_','_','r','e','t','i','_','_']) (o:=['r','o','t','a','r','e','t','i','_','t','e','s']) (by kernel_rfl) owner_set_iterator];kernel_rfl
end F
theorem getElem_cons_eraseIdx_perm' {α:Type}:∀{l:List α} {n:Nat} (h:n<l.length),(l[n]::l.eraseIdx n).Perm l
 | [],_,h=>absurd h (Nat.not_lt_zero _)
 |a::l,0,_=>List.Perm.refl _
 |a::l,n+1,h=>by
  have h':n<l.length:=Nat.lt_of_succ_lt_succ h
  show(l[n]::a::l.eraseIdx n).Perm (a::l)
  exact(List.Perm.swap _ _ _).trans ((getElem_cons_eraseIdx_perm' (Nat.lt_of_succ_lt_succ h)).cons a)
theorem pickOrder_perm {α:Type} (next:Nat->Nat) (xs:Array α):(pickOrder next xs).toList.Perm xs.toList:=by
 have go:∀(fuel k:Nat) (left:List α) (out:Array α),left.length=fuel->(pickOrder.go next fuel k left out).toList.Perm (out.toList++left):=by
  intro fuel
  induction fuel with
  |zero=>
   intro k left out h
   have:left=[]:=List.length_eq_zero_iff.mp h
   subst this
   simp [pickOrder.go]
  |succ fuel ih=>
   intro k left out h
   have hlt:next k % left.length<left.length:=Nat.mod_lt _ (by omega)
   rw [pickOrder.go,List.getElem?_eq_getElem hlt]
   dsimp only
   refine(ih _ _ _ (by rw [List.length_eraseIdx_of_lt hlt];omega)).trans ?_
   rw [Array.toList_push,List.append_assoc]
   refine List.Perm.append_left _ ?_
   exact getElem_cons_eraseIdx_perm' hlt
 exact go xs.size 0 xs.toList #[] (by simp)
section
variable {prog:Program} {w:World} {A:Around} {E:Value->Shared->Prop} {s:Shared}
def setOrd (w:World) (S:Addr) (es:Array (Int×Value)) (ep:Nat):List Value:=if w.params.followText "set-order"=true then(pickOrder (w.params.setOrder S ep) es).toList.map (·.2)else es.toList.map (·.2)
theorem setOrd_perm (w:World) (S:Addr) (es:Array (Int×Value)) (ep:Nat):(setOrd w S es ep).Perm (es.toList.map (·.2)):=by
 unfold setOrd
 split
 ·exact(pickOrder_perm _ _).map _
 ·exact List.Perm.refl _
def SlotOk (w:World) (t:SetTable) (slot i:Nat):Prop:=w.params.followText "set-order"=true∨SetTable.below t.place slot=i
theorem below_next {xs:Array Nat} (R:SetTable.Rise xs) {i:Nat} (h:i<xs.size):SetTable.below xs (xs.getD i 0+1)=i+1:=by
 obtain⟨h1,h2,h3⟩:=SetTable.below_spec R (xs.getD i 0+1)
 rcases Nat.lt_trichotomy (SetTable.below xs (xs.getD i 0+1)) (i+1)with z|z|z
 ·have:=h3 i (by omega) h
  omega
 ·exact z
 ·have:=h2 (i+1) z
  have:=R i (i+1) (by omega) (by omega)
  omega
theorem wpAny_setNext {S:Addr} {o:Obj} {es:Array (Int×Value)} {ep:Nat} {t:SetTable} {slot i:Nat} {Q:Option (Value×Nat)->Shared->Prop} (ho:s.heap.get? S=some o) (hd:o.data= .set es ep t) (hf:t.fits es.size=true) (hr:SetTable.Rise t.place) (hpl:t.plain=true) (hl:t.led= !w.params.followText "set-order")
  (hs:SlotOk w t slot i) (h1:∀v slot',(setOrd w S es ep)[i]? =some v->SlotOk w t slot' (i+1)->Q (some (v,slot')) s) (h2:es.size<=i->Q none s):wpAny (model prog w) A (setNext S slot i ep) Q E s:=by
 have psz:t.place.size=es.size:=by
  simp only [SetTable.fits,Bool.and_eq_true,beq_iff_eq,decide_eq_true_eq]at hf
  exact hf.1
 unfold setNext setsByText
 refine wpAny_bind (wpAny_setState_of ho hd hf ?_)
 dsimp only
 refine wpAny_bind (wpAny_bind (wpAny_askSetting (wpAny_pure ?_)))
 dsimp only [model]
 have olen:(setOrd w S es ep).length=es.size:=by rw [(setOrd_perm w S es ep).length_eq,List.length_map,Array.length_toList]
 cases hb:w.params.followText "set-order"
 ·simp only [Bool.false_eq_true,if_false]
  have hs:SetTable.below t.place slot=i:=by
   rcases hs with z|z
   ·rw [hb]at z;cases z
   ·exact z
  show wpAny _ _ (if(!t.plain && decide (es.size>1))=true then _ else _) _ _ _
  rw [hpl]
  simp only [Bool.not_true,Bool.false_and,Bool.false_eq_true,if_false]
  show wpAny _ _ ((if(!t.led && !es.isEmpty)=true then _ else _)>>=_) _ _ _
  rw [hl,hb]
  simp only [Bool.not_false,Bool.not_true,Bool.false_and,Bool.false_eq_true,if_false]
  refine wpAny_bind (wpAny_pure ?_)
  rw [hs]
  have eo:(setOrd w S es ep)[i]? =(es[i]?).map (·.2):=by
   unfold setOrd
   rw [hb]
   simp
  by_cases hi:i<es.size
  ·have hp:i<t.place.size:=by omega
   rw [Array.getElem?_eq_getElem hi,Array.getElem?_eq_getElem hp]
   refine wpAny_pure (h1 _ _ (by rw [eo,Array.getElem?_eq_getElem hi];rfl) (.inr ?_))
   have:=below_next hr hp
   simpa [Array.getD,hp]using this
  ·rw [Array.getElem?_eq_none (by omega)]
   exact wpAny_pure (h2 (by omega))
 ·simp only [if_true]
  rw [if_neg (by simp)]
  unfold setWalk setsByText
  refine wpAny_bind (wpAny_bind (wpAny_setState_of ho hd hf ?_))
  dsimp only
  refine wpAny_bind (wpAny_bind (wpAny_askSetting (wpAny_pure ?_)))
  dsimp only [model]
  rw [hb]
  simp only [if_true]
  refine wpAny_bind (wpAny_askSetting ?_)
  refine wpAny_pure ?_
  dsimp only [model]
  have eo:(setOrd w S es ep)[i]? =((pickOrder (w.params.setOrder S ep) es)[i]?).map (·.2):=by
   unfold setOrd
   rw [hb]
   simp
  cases hg:(pickOrder (w.params.setOrder S ep) es)[i]? with
  |none=>
   rw [hg]at eo
   have:=List.getElem?_eq_none_iff.mp eo
   exact wpAny_pure (h2 (by omega))
  |some e=>
   rw [hg]at eo
   exact wpAny_pure (h1 _ _ eo (.inl hb))
def IsSetIter (h:Heap) (I S:Addr) (slot i n ep:Nat):Prop:=∃o,h.get? I=some o/\o.cls= .type "set_iterator"/\o.data= .fields #[.int slot 0,.int i 0,.ref S,.int n 0,.int ep 0]
theorem IsSetIter.typeIs {I S:Addr} {slot i n ep:Nat} (h:IsSetIter s.heap I S slot i n ep):s.TypeIs (.ref I) "set_iterator":=let⟨o,ho,hc,_⟩:=h;⟨o,ho,hc⟩
variable {I S:Addr} {o:Obj} {es:Array (Int×Value)} {ep:Nat} {t:SetTable} {slot i:Nat}
theorem wpAny_pyNext_set {Q:Option Value->Shared->Prop} (hh:A.handled=none) (hit:IsSetIter s.heap I S slot i es.size ep) (ho:s.heap.get? S=some o) (hd:o.data= .set es ep t) (hf:t.fits es.size=true) (hr:SetTable.Rise t.place) (hpl:t.plain=true) (hl:t.led= !w.params.followText "set-order")
  (hs:SlotOk w t slot i) (h1:∀v slot' h',(setOrd w S es ep)[i]? =some v->SlotOk w t slot' (i+1)->IsSetIter h' I S slot' (i+1) es.size ep->Heap.SameBut I s.heap h'->Q (some v) {s with heap:=h'}) (h2:es.size<=i->∀h',Heap.ExtBut I s.heap h'->Q none {s with heap:=h'}):
  wpAny (model prog w) A (pyNext (.ref I)) Q E s:=by
 obtain⟨oi,hoi,hci,hdi⟩:=id hit
 unfold pyNext
 refine wpAny_bind (wpAny_attempt (wpAny_callSpecial?_slot (name:=Str.ofString "__next__") hit.typeIs F.slot_set_iterator_next
  (wpAny_call_entry F.slot_set_iterator_next hit.typeIs F.entry_set_iterator_next ?_ (F.args_set_iterator_next_1 _))))
 unfold Builtin.«set_iterator.__next__»
 refine wpAny_bind (m:=slotArgs "__next__" 0 _) (wpAny_pure ?_)
 refine wpAny_bind (wpAny_fieldsOf hoi hdi ?_)
 dsimp only
 refine wpAny_bind (wpAny_setEntries_of ho hd hf ?_)
 rw [if_neg (by simp)]
 simp only [Int.toNat_natCast]
 refine wpAny_bind (wpAny_setNext ho hd hf hr hpl hl hs (fun v slot' e ok=>?_) fun hge=>?_)
 ·dsimp only
  refine wpAny_bind (wpAny_setField hoi hdi (by simp) ?_)
  have hoi2:=Heap.get?_update_self (Obj.mapFields (·.setIfInBounds 0 (rawInt slot'))) hoi (Obj.isFreed_of_fields (Obj.data_mapFields hdi _))
  have hdi2:=Obj.data_mapFields hdi (·.setIfInBounds 0 (rawInt slot'))
  refine wpAny_bind (wpAny_setField hoi2 hdi2 (by simp) ?_)
  refine wpAny_pure ⟨_,rfl,wpAny_pure (h1 v slot' _ e ok ⟨_,Heap.get?_update_self _ hoi2 (Obj.isFreed_of_fields (Obj.data_mapFields hdi2 _)),(Obj.cls_mapFields ..).trans ((Obj.cls_mapFields ..).trans hci),by rw [Obj.data_mapFields hdi2];simp [rawInt]⟩ (Heap.SameBut.trans (Heap.SameBut.update ..) (Heap.SameBut.update ..)))⟩
 ·dsimp only
  refine wpAny_bind (wpAny_setField hoi hdi (by simp) ?_)
  show wpAny _ _ (newExc (.type "StopIteration") []>>=_) _ _ _
  refine wpAny_bind ?_
  simp only [newExc,newTuple]
  refine wpAny_bind (wpAny_newObj_type ?_ (by size_fits))
  refine wpAny_bind (m:=firstArgMember _ _) (wpAny_of_eq (a:=Value.none) (by first|rfl|(simp only [firstArgMember];rfl)) ?_)
  refine wpAny_newObj_type ?_ (by size_fits)
  simp only [raiseNew]
  refine wpAny_bind (wpAny_handled ?_)
  rw [show A.in1.handled=none from hh]
  refine wpAny_bind (wpAny_pure (wpAny_throw ?_))
  refine wpAny_bind (wpAny_isInstance (T:="StopIteration") (b:=true) ⟨_,Heap.get?_push_size _ rfl,rfl⟩ isSubtype_stop ?_)
  exact wpAny_pure (h2 hge _ (((Heap.SameBut.update ..).extBut.push _).push _))
theorem Walks.set (hh:A.handled=none) (hne:S≠I) (o:Obj) (hd:o.data= .set es ep t) (hf:t.fits es.size=true) (hr:SetTable.Rise t.place) (hpl:t.plain=true) (hl:t.led= !w.params.followText "set-order"):
  Walks prog w A I [I,S] [I] es.size (fun i v=>(setOrd w S es ep)[i]? =some v) (fun i h=>(∃slot,IsSetIter h I S slot i es.size ep/\SlotOk w t slot i)/\h.get? S=some o) where
 sub:=fun b hb=>by simp at hb;simp [hb]
 frame:=fun _ _ _ st hk=>by
  obtain⟨⟨slot,⟨oi,h1,h2⟩,h3⟩,h4⟩:=st
  exact⟨⟨slot,⟨oi,hk I (by simp) _ h1,h2⟩,h3⟩,hk S (by simp) _ h4⟩
 item:=fun i s Q E hi st hQ=>by
  obtain⟨⟨slot,h1,h3⟩,h4⟩:=st
  refine wpAny_pyNext_set hh h1 h4 hd hf hr hpl hl h3 (fun v slot' h' e ok it' sb=>?_) fun hge=>absurd hi (by omega)
  exact hQ _ h' s.toks e ⟨⟨slot',it',ok⟩,(sb.2 S hne).trans h4⟩ fun b o hb e=>sb.extBut b o (fun h=>hb (by simp [h])) e
 done:=fun s Q E st hQ=>by
  obtain⟨⟨slot,h1,h3⟩,h4⟩:=st
  refine wpAny_pyNext_set hh h1 h4 hd hf hr hpl hl h3 (fun v slot' h' e ok it' sb=>?_) fun hge h' he'=>hQ h' s.toks fun b o hb e=>he' b o (fun h=>hb (by simp [h])) e
  have olen:(setOrd w S es ep).length=es.size:=by rw [(setOrd_perm w S es ep).length_eq,List.length_map,Array.length_toList]
  rw [List.getElem?_eq_none (by omega)]at e
  cases e
 self:=fun _ _ _ _ st hQ=>by
  obtain⟨⟨slot,h1,h3⟩,h4⟩:=st
  refine wpAny_pyIter_slot h1.typeIs F.slot_set_iterator_iter (wpAny_call_entry F.slot_set_iterator_iter h1.typeIs F.entry_set_iterator_iter ?_ (F.args_set_iterator_iter_1 _))
  show wpAny _ _ (ret (.ref I)) _ _ _
  exact wpAny_pure ⟨_,rfl,"set_iterator",_,h1.typeIs,F.slot_set_iterator_next.lookup,hQ⟩
end
end PySem
namespace PySem
open Sem (wp)
namespace F
theorem sub_set_set':isSubtype (.type "set") (.type "set")=pure true:=by rw [isSubtype_type];kernel_rfl
end F
section
variable {prog:Program} {w:World} {A:Around} {E:Value->Shared->Prop} {s:Shared} {I S:Addr} {o:Obj} {es:Array (Int×Value)} {ep:Nat} {t:SetTable}
theorem wpAny_pyIter_set {Q:Value->Shared->Prop} (ho:s.heap.get? S=some o) (hex:o.ExactSet) (hd:o.data= .set es ep t) (hf:t.fits es.size=true) (hpl:t.plain=true)
  (hQ:Q (.ref s.heap.objs.size) {s with heap:=s.heap.push {cls:= .type "set_iterator",data:= .fields #[.int 0 0,.int 0 0,.ref S,.int es.size 0,.int ep 0]}}):wpAny (model prog w) A (pyIter (.ref S)) Q E s:=by
 have hT:s.TypeIs (.ref S) "set":=⟨o,ho,hex.1⟩
 refine wpAny_pyIter_slot hT F.slot_set_iter (wpAny_call_entry F.slot_set_iter hT F.entry_set_iter ?_ (F.args_set_iter_1 _))
 unfold Builtin.«frozenset.__iter__»
 refine wpAny_bind (m:=Builtin.Frozenset.slot0 "__iter__" _) (wpAny_pure ?_)
 unfold Builtin.Frozenset.sizeOf
 refine wpAny_bind (wpAny_bind (wpAny_setEntries_of ho hd hf (wpAny_pure ?_)))
 unfold setDrawn setsByText
 refine wpAny_bind (wpAny_bind (wpAny_setState_of ho hd hf ?_))
 dsimp only
 refine wpAny_bind (wpAny_bind (wpAny_askSetting (wpAny_pure ?_)))
 show wpAny _ _ (pure (!(model prog w).w.params.followText "set-order" && (!t.plain && decide (es.size>1)))) _ _ _
 rw [hpl]
 simp only [Bool.not_true,Bool.false_and,Bool.and_false]
 refine wpAny_pure ?_
 simp only [Bool.false_eq_true,if_false]
 refine wpAny_bind (wpAny_pure ?_)
 refine wpAny_bind (wpAny_setEpoch_of ho hd hf ?_)
 unfold newFields
 refine wpAny_bind (wpAny_newObj_type (wpAny_pure ⟨_,rfl,"set_iterator",_,⟨_,Heap.get?_push_size _ rfl,rfl⟩,F.slot_set_iterator_next.lookup,?_⟩))
 simpa [rawInt]using hQ
theorem wpAny_collect_set {Q:List Value->Shared->Prop} (hh:A.handled=none) (ho:s.heap.get? S=some o) (hex:o.ExactSet) (hd:o.data= .set es ep t) (hf:t.fits es.size=true) (hr:SetTable.Rise t.place) (hpl:t.plain=true) (hl:t.led= !w.params.followText "set-order") (hn:es.size<=sizeLine)
  (hQ:∀h' tk,s.heap.objs.size<h'.objs.size->(∀b o,s.heap.get? b=some o->h'.get? b=some o)->Q (setOrd w S es ep) {s with heap:=h',toks:=tk}):wpAny (model prog w) A (collect (.ref S)) Q E s:=by
 have hSlt:S<s.heap.objs.size:=Heap.lt_size ho
 unfold collect
 refine wpAny_bind (wpAny_runValue (codeAny_builtin F.entry_proto_collect ?_))
 rw [Around.under_plainId F.plain_proto_collect _]
 show wpAny _ A.in1 (newList []>>=fun l=>again (.builtin "list.__iadd__" ⟨[l,.ref S],[]⟩)) _ _ s
 refine wpAny_bind (wpAny_newObj_type ?_)
 refine wpAny_pure ⟨plainId_quiet F.plain_list_iadd _,codeAny_builtin F.entry_list_iadd ?_⟩
 rw [Around.under_plainId F.plain_list_iadd _]
 have ho1:(s.heap.push {cls:= .type "list",data:= .seq ([]:List Value).toArray}).get? S=some o:=Heap.get?_push_of_some _ ho
 have hT1:Shared.TypeIs {s with heap:=s.heap.push {cls:= .type "list",data:= .seq ([]:List Value).toArray}} (.ref S) "set":=⟨o,ho1,hex.1⟩
 have hS₁:(s.heap.push {cls:= .type "list",data:= .seq ([]:List Value).toArray}).get? s.heap.objs.size=some {cls:= .type "list",data:= .seq ([]:List Value).toArray}:=Heap.get?_push_size _ rfl
 have hne:s.heap.objs.size≠S:=Nat.ne_of_gt hSlt
 have h1:Builtin.List.listSameRef (.ref s.heap.objs.size) (.ref S)=false:=by simp [Builtin.List.listSameRef,hne]
 show wpAny _ A.in1 (Builtin.List.listExtendWith (.ref s.heap.objs.size) (.ref S) (.ref s.heap.objs.size)) _ _ _
 unfold Builtin.List.listExtendWith
 refine wpAny_bind (wpAny_typeOf hT1 ?_)
 rw [if_neg (by rw [h1];decide)]
 refine wpAny_bind (wpAny_pyIter_set ho1 hex hd hf hpl ?_)
 have esz:(s.heap.push {cls:= .type "list",data:= .seq ([]:List Value).toArray}).objs.size=s.heap.objs.size+1:=Heap.size_push ..
 rw [esz]
 generalize hH2:(s.heap.push {cls:= .type "list",data:= .seq ([]:List Value).toArray}).push {cls:= .type "set_iterator",data:= .fields #[.int 0 0,.int 0 0,.ref S,.int es.size 0,.int ep 0]}=H2
 have keep2:∀b o,s.heap.get? b=some o->H2.get? b=some o:=fun b o e=>by rw [<-hH2];exact Heap.get?_push_of_some _ (Heap.get?_push_of_some _ e)
 have ho2:H2.get? S=some o:=keep2 _ _ ho
 have hL2:H2.get? s.heap.objs.size=some {cls:= .type "list",data:= .seq ([]:List Value).toArray}:=by rw [<-hH2];exact Heap.get?_push_of_some _ hS₁
 have hI2:H2.get? (s.heap.objs.size+1)=some {cls:= .type "set_iterator",data:= .fields #[.int 0 0,.int 0 0,.ref S,.int es.size 0,.int ep 0]}:=by rw [<-hH2, <-esz];exact Heap.get?_push_size _ rfl
 have hT2:Shared.TypeIs {s with heap:=H2} (.ref S) "set":=⟨o,ho2,hex.1⟩
 refine wpAny_bind (wpAny_holding ?_)
 unfold Builtin.List.listLengthHint
 refine wpAny_bind (wpAny_specialOf hT2 F.slot_set_len.lookup ?_)
 (generalize hid:("set.__len__":String)=id0;(fail_if_success (clear hid id0));wp_delta;rw [show splitId id0=some ("set","__len__")from by subst hid;decide+kernel];subst hid)
 refine wpAny_bind (wpAny_isInstance (b:=true) hT2 F.sub_set_set' ?_)
 simp only [Bool.not_true,Bool.false_eq_true,if_false]
 rw [if_pos (by decide+kernel)]
 refine wpAny_bind (wpAny_typeOf hT2 ?_)
 refine wpAny_pure ?_
 rw [if_pos (by decide+kernel)]
 show wpAny _ A.in1 (rule "list.extend.makes-room">>=fun _=>Builtin.List.listTouch (.ref s.heap.objs.size)>>=fun _=>
  again (.builtin "list.extend.loop" ⟨[.ref s.heap.objs.size,.ref (s.heap.objs.size+1),.ref s.heap.objs.size],[]⟩)) _ _ _
 refine wpAny_bind (wpAny_rule ?_)
 refine wpAny_bind ?_
 show wpAny _ A.in1 (updateSeq s.heap.objs.size (·.push .none)>>=fun _=>updateSeq s.heap.objs.size (·.pop)) _ _ _
 refine wpAny_bind (wpAny_updateSeq hL2 rfl ?_)
 have hS₂:=Heap.get?_update_self (Obj.mapSeq (·.push Value.none)) hL2 rfl
 refine wpAny_updateSeq hS₂ rfl ?_
 have hS₃:=Heap.get?_update_self (Obj.mapSeq (·.pop)) hS₂ rfl
 have oth:∀b o,b≠s.heap.objs.size->H2.get? b=some o->((H2.update s.heap.objs.size (Obj.mapSeq (·.push Value.none))).update s.heap.objs.size (Obj.mapSeq (·.pop))).get? b=some o:=
  fun b o hb e=>(Heap.get?_update_other _ _ (Ne.symm hb)).trans ((Heap.get?_update_other _ _ (Ne.symm hb)).trans e)
 have hneI:S≠s.heap.objs.size+1:=Nat.ne_of_lt (Nat.lt_succ_of_lt hSlt)
 have W:=(Walks.set (prog:=prog) (A:=A.in1) (I:=s.heap.objs.size+1) (S:=S) (by simp [hh]) hneI o hd hf hr hpl hl).toS
 have hSf:s.heap.objs.size∉[s.heap.objs.size+1,S]:=by
  simp only [List.mem_cons,List.mem_singleton,List.not_mem_nil,or_false,not_or]
  exact⟨Nat.ne_of_lt (Nat.lt_succ_self _),hne⟩
 refine wpAny_pure ⟨plainId_quiet F.plain_extend_loop _,codeAny_extend_loopS W hn _ hSf _ es.size 0 _ _ _ rfl (Nat.zero_le _)
  ⟨⟨0,⟨_,oth _ _ (Nat.ne_of_gt (Nat.lt_succ_self _)) hI2,rfl,rfl⟩,.inr ?_⟩,oth _ _ hne.symm ho2⟩ hS₃ (ItemsOf.nil _) fun s' acc' c' hm hS' hacc=>?_⟩
 ·have:=(SetTable.below_spec hr 0).2.1
  rcases Nat.eq_zero_or_pos (SetTable.below t.place 0)with z|z
  ·exact z
  ·exact absurd (this 0 z) (Nat.not_lt_zero _)
 ·show wpAny _ A (load s.heap.objs.size>>=_) _ _ s'
  refine wpAny_bind (wpAny_load hS' ?_)
  obtain⟨h',g',d',tk',os'⟩:=s'
  have eg:g'=s.gens:=hm.gens
  have ed:d'=s.drawn:=hm.drawn
  have eo:os'=s.os:=hm.os
  subst eg;subst ed;subst eo
  have ea:acc'.toList=setOrd w S es ep:=by
   apply List.ext_getElem?
   intro j
   have olen:(setOrd w S es ep).length=es.size:=by rw [(setOrd_perm w S es ep).length_eq,List.length_map,Array.length_toList]
   by_cases hj:j<acc'.size
   ·rw [Array.getElem?_toList,Array.getElem?_eq_getElem hj]
    exact(hacc.2 j _ (Array.getElem?_eq_getElem hj)).symm
   ·rw [List.getElem?_eq_none (by rw [Array.length_toList];omega),List.getElem?_eq_none (by rw [olen, <-hacc.1];omega)]
  refine wpAny_pure ?_
  rw [ea]
  refine hQ h' tk' (Heap.lt_size hS') fun b o e=>?_
  have hb:b<s.heap.objs.size:=Heap.lt_size e
  exact hm.heap b o (by simp only [List.mem_cons,List.mem_singleton,List.not_mem_nil,or_false,not_or];exact⟨Nat.ne_of_lt hb,Nat.ne_of_lt (Nat.lt_succ_of_lt hb)⟩) (oth b o (Nat.ne_of_lt hb) (keep2 b o e))
end
end PySem
namespace PySem.W
open PyProof.Rows
def KasT.Way {α:Type} (lt:Nat->Nat->Bool) (P:Nat->Prop):KasT α->(α->Prop)->Prop
 | .ret a,Q=>Q a
 | .ask i j k,Q=>P i/\P j/\(k (lt i j)).Way lt P Q
variable {lt:Nat->Nat->Bool} {P:Nat->Prop}
theorem KasT.way_bind {α β:Type} {f:α->KasT β} {Q:β->Prop}:∀(t:KasT α),t.Way lt P (fun a=>(f a).Way lt P Q)->(t.bind f).Way lt P Q
 | .ret _,h=>h
 | .ask i j k,h=>⟨h.1,h.2.1,KasT.way_bind (k (lt i j)) h.2.2⟩
theorem KasT.way_mono {α:Type} {Q Q':α->Prop} (hq:∀a,Q a->Q' a):∀(t:KasT α),t.Way lt P Q->t.Way lt P Q'
 | .ret _,h=>hq _ h
 | .ask i j k,h=>⟨h.1,h.2.1,KasT.way_mono hq (k (lt i j)) h.2.2⟩
theorem KasT.way_wp {α:Type} {cmp:Nat->Nat->(Bool->Shared->Prop)->Shared->Prop} {s:Shared} (hc:∀i j C,P i->P j->C (lt i j) s->cmp i j C s) {Q:α->Prop} {G:α->Shared->Prop} (hg:∀a,Q a->G a s):∀(t:KasT α),t.Way lt P Q->t.kasWp cmp G s
 | .ret _,h=>hg _ h
 | .ask i j k,h=>hc i j _ h.1 h.2.1 (KasT.way_wp hc hg (k (lt i j)) h.2.2)
structure Strict (n:Nat) (lt:Nat->Nat->Bool):Prop where
 tot:∀i j,i<n->j<n->i≠j->lt i j=true∨lt j i=true
 asym:∀i j,lt i j=true->lt j i=false
 trans:∀i j k,lt i j=true->lt j k=true->lt i k=true
def vAt (p:Array Nat) (i:Nat):Nat:=p.getD i 0
def Tidy (n:Nat) (p:Array Nat):Prop:=p.toList.Perm (List.range n)
variable {n:Nat} {p:Array Nat}
theorem Tidy.size (h:Tidy n p):p.size=n:=by have:=h.length_eq;rw [List.length_range,Array.length_toList]at this;exact this
theorem vAt_get {p:Array Nat} {i:Nat}:vAt p i=(p[i]?).getD 0:=by
 unfold vAt Array.getD
 by_cases h:i<p.size
 ·simp [h]
 ·simp [h]
theorem Tidy.low (h:Tidy n p) (hn:0<n) (i:Nat):vAt p i<n:=by
 rw [vAt_get]
 cases e:p[i]? with
 |none=>exact hn
 |some x=>
  have:x∈p.toList:=List.mem_of_getElem? (by rw [Array.getElem?_toList];exact e)
  exact List.mem_range.mp (h.mem_iff.mp this)
theorem Tidy.inj (h:Tidy n p) {i j:Nat} (hi:i<n) (hj:j<n) (e:i≠j):vAt p i≠vAt p j:=by
 have nd:p.toList.Nodup:=h.nodup_iff.mpr List.nodup_range
 have si:i<p.toList.length:=by rw [Array.length_toList,h.size];exact hi
 have sj:j<p.toList.length:=by rw [Array.length_toList,h.size];exact hj
 intro z
 have h1:vAt p i=p.toList[i]:=by rw [vAt_get, <-Array.getElem?_toList,List.getElem?_eq_getElem si];rfl
 have h2:vAt p j=p.toList[j]:=by rw [vAt_get, <-Array.getElem?_toList,List.getElem?_eq_getElem sj];rfl
 rw [h1,h2]at z
 exact e ((List.getElem_inj nd).mp z)
theorem Tidy.perm {q:Array Nat} (h:Tidy n p) (e:q.Perm p):Tidy n q:=(Array.perm_iff_toList_perm.mp e).trans h
def Rises (lt:Nat->Nat->Bool) (p:Array Nat) (k:Nat):Prop:=∀i j,i<j->j<k->lt (vAt p i) (vAt p j)=true
def Falls (lt:Nat->Nat->Bool) (p:Array Nat) (k:Nat):Prop:=∀i j,i<j->j<k->lt (vAt p j) (vAt p i)=true
theorem Rises.more (S:Strict n lt) {k:Nat} (h:Rises lt p k) (hk:1<=k) (e:lt (vAt p (k-1)) (vAt p k)=true):Rises lt p (k+1):=fun i j hi hj=>by
 by_cases z:j<k
 ·exact h i j hi z
 ·obtain rfl:j=k:=by omega
  by_cases y:i=j-1
  ·subst y;exact e
  ·exact S.trans _ _ _ (h i (j-1) (by omega) (by omega)) e
theorem Falls.more (S:Strict n lt) {k:Nat} (h:Falls lt p k) (hk:1<=k) (e:lt (vAt p k) (vAt p (k-1))=true):Falls lt p (k+1):=fun i j hi hj=>by
 by_cases z:j<k
 ·exact h i j hi z
 ·obtain rfl:j=k:=by omega
  by_cases y:i=j-1
  ·subst y;exact e
  ·exact S.trans _ _ _ e (h i (j-1) (by omega) (by omega))
theorem asc_way (S:Strict n lt) (hn:0<n) (T:Tidy n p):∀(f k:Nat),1<=k->k+f=n->Rises lt p k->(kas_asc p f k).Way lt (·<n) fun m=>Rises lt p m/\k<=m/\m<=n/\(m=n∨lt (vAt p m) (vAt p (m-1))=true)
 |0,k,h1,h2,h3=>⟨h3,Nat.le_refl _,by omega,.inl (by omega)⟩
 |f+1,k,h1,h2,h3=>by
  refine⟨T.low hn k,T.low hn (k-1),?_⟩
  show KasT.Way lt (·<n) (if lt (vAt p k) (vAt p (k-1))=true then _ else _) _
  by_cases c:lt (vAt p k) (vAt p (k-1))=true
  ·rw [if_pos c]
   exact⟨h3,Nat.le_refl _,by omega,.inr c⟩
  ·rw [if_neg c]
   have c':=(S.tot _ _ (T.low hn k) (T.low hn (k-1)) (T.inj (by omega) (by omega) (by omega))).resolve_left c
   exact KasT.way_mono (fun m z=>⟨z.1,by omega,z.2.2⟩) _ (asc_way S hn T f (k+1) (by omega) (by omega) (h3.more S h1 c'))
theorem desc_way (S:Strict n lt) (hn:0<n) (T:Tidy n p):∀(f k:Nat),1<=k->k+f=n->Falls lt p k->(kas_desc f p k 0).Way lt (·<n) fun r=>r.1=p/\r.2.2=0/\Falls lt p r.2.1/\k<=r.2.1/\r.2.1<=n
 |0,k,h1,h2,h3=>⟨rfl,rfl,h3,Nat.le_refl _,by show k<=n;omega⟩
 |f+1,k,h1,h2,h3=>by
  refine⟨T.low hn k,T.low hn (k-1),?_⟩
  show KasT.Way lt (·<n) (if lt (vAt p k) (vAt p (k-1))=true then _ else _) _
  by_cases c:lt (vAt p k) (vAt p (k-1))=true
  ·rw [if_pos c,if_neg (by omega)]
   exact KasT.way_mono (fun m z=>⟨z.1,z.2.1,z.2.2.1,by omega,z.2.2.2.2⟩) _ (desc_way S hn T f (k+1) (by omega) (by omega) (h3.more S h1 c))
  ·rw [if_neg c]
   refine⟨T.low hn (k-1),T.low hn k,?_⟩
   have c':=(S.tot _ _ (T.low hn k) (T.low hn (k-1)) (T.inj (by omega) (by omega) (by omega))).resolve_left c
   show KasT.Way lt (·<n) (if lt (vAt p (k-1)) (vAt p k)=true then _ else _) _
   rw [if_pos c']
   exact⟨rfl,rfl,h3,Nat.le_refl _,by show k<=n;omega⟩
theorem rev_at {m:Nat} (hm:m<=p.size) (i:Nat):vAt (kas_rev p 0 m) i=if i<m then vAt p (m-1-i)else vAt p i:=by
 rw [vAt_get,kas_rev,getElem?_mirror_all hm]
 by_cases h:i<m
 ·rw [if_pos ⟨Nat.zero_le _,h⟩,if_pos h,vAt_get,Nat.zero_add]
 ·rw [if_neg (fun z=>h z.2),if_neg h,vAt_get]
theorem count_way (S:Strict n lt) (hn:0<n) (T:Tidy n p):(kas_count n p).Way lt (·<n) fun r=>Tidy n r.2/\Rises lt r.2 r.1/\1<=r.1/\r.1<=n:=by
 refine KasT.way_bind _ (KasT.way_mono (fun m z=>?_) _ (asc_way S hn T (n-1) 1 (Nat.le_refl _) (by omega) fun i j h1 h2=>by omega))
 obtain⟨z1,z2,z3,z4⟩:=z
 by_cases e:m=n
 ·rw [if_pos (beq_iff_eq.mpr e)]
  exact⟨T,z1,z2,z3⟩
 ·rw [if_neg (fun y=>e (beq_iff_eq.mp y))]
  have z4:=z4.resolve_left e
  by_cases g:m>1
  ·rw [if_pos g]
   refine⟨T.low hn 0,T.low hn (m-1),?_⟩
   have c:lt (p.getD 0 0) (p.getD (m-1) 0)=true:=z1 0 (m-1) (by omega) (by omega)
   rw [c]
   dsimp only
   rw [if_pos rfl]
   exact⟨T,z1,z2,z3⟩
  ·rw [if_neg g]
   obtain rfl:m=1:=by omega
   refine KasT.way_bind _ (KasT.way_mono (fun r y=>?_) _ (desc_way S hn T (n-(1+1)) (1+1) (by omega) (by omega) fun i j h1 h2=>?_))
   ·obtain⟨q,k,w⟩:=r
    obtain⟨y1,y2,y3,y4,y5⟩:=y
    have y1:q=p:=y1
    have y2:w=0:=y2
    subst y1 y2
    show KasT.Way lt (·<n) (if 0>0 then _ else _) _
    rw [if_neg (by omega)]
    have y3:Falls lt q k:=y3
    have y4:2<=k:=y4
    have y5:k<=n:=y5
    have T':Tidy n (kas_rev q 0 k):=T.perm (mirror_perm ..)
    have hs:k<=q.size:=by rw [T.size];exact y5
    refine KasT.way_bind _ (KasT.way_mono (fun m' x=>?_) _ (asc_way S hn T' (n-k) k (by omega) (by omega) fun i j h1 h2=>?_))
    ·exact⟨T',x.1,by have:=x.2.1;show 1<=m';omega,x.2.2.1⟩
    ·rw [rev_at hs,rev_at hs,if_pos (by omega),if_pos h2]
     exact y3 _ _ (by omega) (by omega)
   ·obtain rfl:i=0:=by omega
    obtain rfl:j=1:=by omega
    exact z4
theorem place_way (S:Strict n lt) (hn:0<n) (T:Tidy n p) {k:Nat} (hk:k<n) (R:Rises lt p k):∀(f l r:Nat),l<=r->r<=k->r-l<=f->(∀i,i<l->lt (vAt p i) (vAt p k)=true)->(∀i,r<=i->i<k->lt (vAt p k) (vAt p i)=true)->
  (kas_place p k f l r).Way lt (·<n) fun m=>m<=k/\(∀i,i<m->lt (vAt p i) (vAt p k)=true)/\∀i,m<=i->i<k->lt (vAt p k) (vAt p i)=true
 |0,l,r,h1,h2,h3,a,b=>by
  obtain rfl:l=r:=by omega
  exact⟨h2,a,b⟩
 |f+1,l,r,h1,h2,h3,a,b=>by
  show KasT.Way lt (·<n) (if l≥r then _ else _) _
  by_cases e:l≥r
  ·rw [if_pos e]
   obtain rfl:l=r:=by omega
   exact⟨h2,a,b⟩
  ·rw [if_neg e]
   refine⟨T.low hn k,T.low hn _,?_⟩
   show KasT.Way lt (·<n) (if lt (vAt p k) (vAt p ((l+r) / 2))=true then _ else _) _
   by_cases c:lt (vAt p k) (vAt p ((l+r) / 2))=true
   ·rw [if_pos c]
    refine place_way S hn T hk R f l _ (by omega) (by omega) (by omega) a fun i g1 g2=>?_
    by_cases y:i=(l+r) / 2
    ·subst y;exact c
    ·exact S.trans _ _ _ c (R _ i (by omega) g2)
   ·rw [if_neg c]
    have c':=(S.tot _ _ (T.low hn k) (T.low hn ((l+r) / 2)) (T.inj hk (by omega) (by omega))).resolve_left c
    refine place_way S hn T hk R f _ r (by omega) h2 (by omega) (fun i g=>?_) b
    by_cases y:i=(l+r) / 2
    ·subst y;exact c'
    ·exact S.trans _ _ _ (R i _ (by omega) (by omega)) c'
theorem bub_at {k l:Nat} (hk:k<p.size) (hl:l<=k) (i:Nat):vAt (bubble p k (k-l)) i=if i=l then vAt p k else if l<i/\i<=k then vAt p (i-1)else vAt p i:=by
 rw [vAt_get,getElem?_bubble hk _ (by omega),show k-(k-l)=l by omega]
 split
 ·rw [vAt_get]
 ·split<;>rw [vAt_get]
theorem bin_way (S : Strict n lt) (hn : 0 < n) : ∀ (f : Nat) (p : Array Nat) (k : Nat), Tidy n p → k + f = n → Rises lt p k → (kas_bin f p k).Way lt (· < n) fun q => Tidy n q ∧ Rises lt q n
  | 0, p, k, T, h, R => ⟨T, by obtain rfl : k = n := by omega
                               exact R⟩
  | f + 1, p, k, T, h, R => by
    refine KasT.way_bind _ (KasT.way_mono (fun l z => ?_) _ (place_way S hn T (k := k) (by omega) R k 0 k (Nat.zero_le _) (Nat.le_refl _) (by omega) (fun i g => by omega) fun i g1 g2 => by omega))
    obtain ⟨z1, z2, z3⟩ := z
    have hs : k < p.size := by rw [T.size]; omega
    refine bin_way S hn f _ (k + 1) (T.perm (bubble_perm ..)) (by omega) fun i j h1 h2 => ?_
    rw [bub_at hs z1, bub_at hs z1]
    by_cases a1 : i = l
    · subst a1
      rw [if_pos rfl, if_neg (by omega), if_pos ⟨h1, by omega⟩]
      exact z3 (j - 1) (by omega) (by omega)
    · rw [if_neg a1]
      by_cases a2 : l < i ∧ i ≤ k
      · rw [if_pos a2, if_neg (by omega), if_pos ⟨by omega, by omega⟩]
        exact R _ _ (by omega) (by omega)
      · rw [if_neg a2]
        by_cases b1 : j = l
        · rw [if_pos b1]
          exact z2 i (by omega)
        · rw [if_neg b1]
          by_cases b2 : l < j ∧ j ≤ k
          · rw [if_pos b2]
            by_cases e : i = j - 1
            · omega
            · exact R _ _ (by omega) (by omega)
          · rw [if_neg b2]
            exact R _ _ h1 (by omega)
theorem sort_way (S:Strict n lt) (hn:0<n):(kas_sort n).Way lt (·<n) fun q=>Tidy n q/\Rises lt q n:=by
 have T:Tidy n (List.toArray (List.range n)):=List.Perm.refl _
 refine KasT.way_bind _ (KasT.way_mono (fun r z=>?_) _ (count_way S hn T))
 obtain⟨m,q⟩:=r
 obtain⟨z1,z2,z3,z4⟩:=z
 have z1:Tidy n q:=z1
 have z2:Rises lt q m:=z2
 have z3:1<=m:=z3
 have z4:m<=n:=z4
 show KasT.Way lt (·<n) (if m<n then kas_bin (n-max m 1) q (max m 1)else _) _
 by_cases e:m<n
 ·rw [if_pos e,show max m 1=m by omega]
  exact bin_way S hn _ _ _ z1 (by omega) z2
 ·rw [if_neg e]
  obtain rfl:m=n:=by omega
  exact⟨z1,z2⟩
end PySem.W
namespace PySem
open Sem (wp)
def lexB:List Int->List Int->Bool
 | [],[]=>false
 | [],_::_=>true
 |_::_,[]=>false
 |x::xs,y::ys=>if x=y then lexB xs ys else decide (x<y)
theorem lexB_irr:∀x,lexB x x=false
 | []=>rfl
 |x::xs=>by rw [lexB,if_pos rfl];exact lexB_irr xs
theorem lexB_tot:∀x y,x≠y->lexB x y=true∨lexB y x=true
 | [],[],h=>absurd rfl h
 | [],_::_,_=> .inl rfl
 |_::_,[],_=> .inr rfl
 |x::xs,y::ys,h=>by
  unfold lexB
  by_cases e:x=y
  ·subst e
   rw [if_pos rfl,if_pos rfl]
   exact lexB_tot xs ys fun z=>h (by rw [z])
  ·rw [if_neg e,if_neg (Ne.symm e),decide_eq_true_iff,decide_eq_true_iff]
   omega
theorem lexB_trans:∀x y z,lexB x y=true->lexB y z=true->lexB x z=true
 | [],[],_,h,_=>absurd h (by decide)
 | [],_::_,[],_,h=>absurd h (by simp [lexB])
 | [],_::_,_::_,_,_=>rfl
 |_::_,[],_,h,_=>absurd h (by simp [lexB])
 |_::_,_::_,[],_,h=>absurd h (by simp [lexB])
 |x::xs,y::ys,z::zs,h1,h2=>by
  unfold lexB at h1 h2⊢
  by_cases e1:x=y
  ·subst e1
   rw [if_pos rfl]at h1
   by_cases e2:x=z
   ·subst e2
    rw [if_pos rfl]at h2⊢
    exact lexB_trans xs ys zs h1 h2
   ·rw [if_neg e2]at h2⊢
    exact h2
  ·rw [if_neg e1,decide_eq_true_iff]at h1
   by_cases e2:y=z
   ·subst e2
    rw [if_neg e1,decide_eq_true_iff]
    exact h1
   ·rw [if_neg e2,decide_eq_true_iff]at h2
    rw [if_neg (by omega),decide_eq_true_iff]
    omega
theorem lexB_asym (x y:List Int) (h:lexB x y=true):lexB y x=false:=by
 cases e:lexB y x with
 |false=>rfl
 |true=>
  have:=lexB_trans x y x h e
  rw [lexB_irr]at this
  cases this
open PyProof.Rows PySem.W
section
variable {prog:Program} {w:World} {A:Around} {E:Value->Shared->Prop} {s:Shared}
theorem katLex_ints {b:Bool} {Q:Bool->Shared->Prop}:∀{xs ys:List Int} {us vs:List Value} (i:Nat),ItemsAre (intKind prog w) xs us->ItemsAre (intKind prog w) ys vs->Q (lexB xs ys) s->KatLex prog w A b (decide (xs.length<ys.length)) Q (us.zip vs) i s
 |_,_,_,_,i,.nil,.nil,h=>kat_nil h
 |_,_,_,_,i,.nil,.cons _ _,h=>kat_nil h
 |_,_,_,_,i,.cons _ _,.nil,h=>kat_nil h
 |x::xs,y::ys,u::us,v::vs,i,.cons h1 t1,.cons h2 t2,h=>by
  obtain⟨tu,rfl⟩:=Value.isInt_shape h1
  obtain⟨tv,rfl⟩:=Value.isInt_shape h2
  rw [List.zip_cons_cons]
  refine kat_cons (wpAny_eqBool_int ?_)
  unfold lexB at h
  by_cases e:x=y
  ·rw [if_pos e]at h
   rw [beq_iff_eq.mpr e]
   have el:decide ((x::xs).length<(y::ys).length)=decide (xs.length<ys.length):=by simp
   rw [el]
   exact kat_yes (katLex_ints (i+1) t1 t2 h)
  ·rw [if_neg e]at h
   rw [beq_eq_false_iff_ne.mpr e]
   refine kat_no ?_
   cases (b && i==0)with
   |true=>exact oneLt_int h
   |false=>exact kat_one _ _ (PyProof.Rows.lt_int (Q:=PySem.W.BoolBack Q) h)
theorem keyLt_ints {b:Bool} {x y:List Int} {p q:Addr} {Q:Bool->Shared->Prop} (hx:IsTupleKey (intKind prog w) s.heap x p) (hy:IsTupleKey (intKind prog w) s.heap y q) (h:Q (lexB x y) s):wpAny (model prog w) A (keyLt' (tuples' b) (.ref p) (.ref q)) Q E s:=by
 obtain⟨ox,ix,nx,h1,h2,h3,h4⟩:=hx
 obtain⟨oy,iy,ny,g1,g2,g3,g4⟩:=hy
 have l1:x.length=ix.size:=by rw [h4.length];rfl
 have l2:y.length=iy.size:=by rw [g4.length];rfl
 have:=katLex_ints (A:=A) (b:=b) (Q:=Q) (s:=s) 0 h4 g4 h
 rw [l1,l2]at this
 exact kat_lt h1 h3 g1 g3 this
def Tups (prog:Program) (w:World) (h:Heap) (xs:List (List Int×Addr)):Prop:=∀x∈xs,x.1≠[]/\IsTupleKey (intKind prog w) h x.1 x.2
theorem Tups.mono {h h':Heap} {xs:List (List Int×Addr)} (T:Tups prog w h xs) (hs:∀b o,o.cls= .type "tuple"->h.get? b=some o->h'.get? b=some o):Tups prog w h' xs:=fun x hx=>⟨(T x hx).1,(T x hx).2.monoS hs⟩
theorem Tups.kat {h:Heap}:∀{xs:List (List Int×Addr)},Tups prog w h xs->∃fs:List Value,fs.length=xs.length/\(∀v∈fs,∃i tk,v=Value.int i tk)/\KatTups h (xs.map fun x=>Value.ref x.2) fs
 | [],_=>⟨[],rfl,fun v hv=>(nomatch hv),KatTups.nil⟩
 |x::xs,T=>by
  obtain⟨fs,f1,f2,f3⟩:=Tups.kat (xs:=xs) fun y hy=>T y (List.mem_cons_of_mem _ hy)
  obtain⟨ne,o,items,n,ho,hc,hd,hi⟩:=T x List.mem_cons_self
  have hl:=hi.length
  obtain⟨f,hf⟩:∃f,items[0]? =some f:=by
   cases e:items[0]? with
   |some f=>exact⟨f,rfl⟩
   |none=>
    have:=Array.getElem?_eq_none_iff.mp e
    rw [Array.length_toList]at hl
    exact absurd (List.length_eq_zero_iff.mp (by omega)) ne
  obtain⟨i,tk,rfl⟩:=hi.ints (fun k v hv=>by obtain⟨t,rfl⟩:=Value.isInt_shape hv;exact⟨_,_,rfl⟩) f (List.mem_of_getElem? (by rw [Array.getElem?_toList];exact hf))
  refine⟨.int i tk::fs,by rw [List.length_cons,List.length_cons,f1],fun v hv=>?_,KatTups.cons ho hc hd hf f3⟩
  rcases List.mem_cons.mp hv with rfl|hv
  ·exact⟨_,_,rfl⟩
  ·exact f2 v hv
theorem pick_perm {α:Type} {xs:List α} {p:List Nat} (hp:p.Perm (List.range xs.length)):(p.filterMap fun i:Nat=>xs[i]?).Perm xs:=by
 have:=hp.filterMap fun i:Nat=>xs[i]?
 rw [range_filterMap]at this
 exact this
theorem list_sort_tups {a:Addr} {xs:List (List Int×Addr)} {n:Nat} {P:Fin->Shared->Prop} (ho:s.heap.get? a=some (seqObj "list" (xs.map fun x=>Value.ref x.2).toArray n))
  (T:Tups prog w s.heap xs) (nd:(xs.map (·.1)).Nodup) (h64:xs.length<64)
  (h:∀ys:List (List Int×Addr),ys.Perm xs->ys.Pairwise (fun x y=>lexB x.1 y.1=true)->P (.done (.ret .none)) {s with heap:=sortedHeap s.heap a (xs.map fun x=>Value.ref x.2) (ys.map fun x=>Value.ref x.2).toArray}):
  wpAny (model prog w) A (Builtin.«list.sort» ⟨[.ref a],[]⟩) P E s:=by
 rw [list_sort_plain]
 have ha:a<s.heap.objs.size:=Heap.lt_size ho
 generalize hvs:(xs.map fun x=>Value.ref x.2)=vs at ho h
 have vl:vs.length=xs.length:=by rw [<-hvs,List.length_map]
 refine wpAny_bind (listItems_at ho rfl ?_)
 refine wpAny_bind (listUpdate_at ho rfl ?_ (by rw [List.size_toArray,sizeLine_eq];omega) (Nat.zero_le _))
 obtain⟨e1,ho1⟩:∃e1,(s.heap.update a (Obj.mapSeq fun _=> #[])).get? a=some (seqObj "list" #[] e1):=⟨_,get?_update_seq ho (fun _=> #[])⟩
 refine wpAny_bind (seqEpoch_at ho1 rfl ?_)
 refine wpAny_bind (wpAny_newTuple ?_ (by show vs.length<=_;rw [sizeLine_eq];omega))
 refine wpAny_bind (wpAny_newList ?_ (Nat.zero_le _))
 refine wpAny_holding ?_
 have kp:∀b o,b≠a->s.heap.get? b=some o->(((s.heap.update a (Obj.mapSeq fun _=> #[])).push (seqObj "tuple" vs.toArray 0)).push (seqObj "list" #[] 0)).get? b=some o:=fun b o hb e=>
  Heap.get?_push_of_some _ (Heap.get?_push_of_some _ ((Heap.get?_update_other _ _ (Ne.symm hb)).trans e))
 have ho6:(((s.heap.update a (Obj.mapSeq fun _=> #[])).push (seqObj "tuple" vs.toArray 0)).push (seqObj "list" #[] 0)).get? a=some (seqObj "list" #[] e1):=Heap.get?_push_of_some _ (Heap.get?_push_of_some _ ho1)
 show wpAny (model prog w) A _ P E {s with heap:=((s.heap.update a (Obj.mapSeq fun _=> #[])).push (seqObj "tuple" vs.toArray 0)).push (seqObj "list" #[] 0)}
 dsimp only
 generalize hH:((s.heap.update a (Obj.mapSeq fun _=> #[])).push (seqObj "tuple" vs.toArray 0)).push (seqObj "list" #[] 0)=H at ho6 kp
 have T6:Tups prog w H xs:=T.mono fun b o hc e=>kp b o (fun z=>by subst z;rw [ho]at e;cases e;exact absurd (show Value.type "list"=Value.type "tuple" from hc) (by decide)) e
 have fin:∀out:Array Value,sortedHeap s.heap a vs out=H.update a (Obj.mapSeq fun _=>out):=fun out=>by rw [<-hH];rfl
 by_cases h2:vs.toArray.size<2
 ·rw [if_pos h2,if_pos h2]
  refine wpAny_bind (wpAny_pure ?_)
  rw [StateT.run_pure]
  refine wpAny_bind (wpAny_pure ?_)
  dsimp only
  refine wpAny_bind (seqEpoch_at ho6 rfl ?_)
  have ev:(pairsOf vs).map (·.2)=vs.toArray:=by
   apply Array.toList_inj.mp
   rw [Array.toList_map,pairsOf_toList]
   exact List.map_snd_zip (Nat.le_refl _)
  have hz:((pairsOf vs).map (·.2)).size<=sizeLine+1:=by rw [ev,List.size_toArray,sizeLine_eq];omega
  refine wpAny_bind (listUpdate_at ho6 rfl ?_ (Nat.zero_le _) hz)
  simp only [bne_self_eq_false,Bool.false_eq_true,if_false]
  refine wpAny_pure ?_
  have q:=h xs (List.Perm.refl _) (by
   rw [List.size_toArray,vl]at h2
   match xs,h2 with
   | [],_=>exact .nil
   | [x],_=>exact List.pairwise_singleton _ _)
  rw [fin,hvs]at q
  have q':P (.done (.ret .none)) {s with heap:=H.update a (Obj.mapSeq fun _=>(pairsOf vs).map (·.2))}:=by rw [ev];exact q
  exact q'
 ·rw [if_neg h2,if_neg h2]
  rw [List.size_toArray]at h2
  obtain⟨fs,f1,f2,f3⟩:=T6.kat
  rw [hvs]at f3
  refine wpAny_bind (kat_kind (T:=Value.type "int") f3 (by omega) (fun v hv=>?_) rfl ?_)
  ·obtain⟨i,tk,rfl⟩:=f2 v hv
   exact Looks.of_pure rfl
  ·have keyd:∀i,i<xs.length->xs[i]? =some (xs.getD i ([],0))/\vs.getD i Value.none= .ref (xs.getD i ([],0)).2:=fun i hi=>by
    rw [<-hvs]
    simp [List.getD,hi]
   have S:Strict xs.length fun i j=>lexB (xs.getD i ([],0)).1 (xs.getD j ([],0)).1:=by
    refine⟨fun i j hi hj ne=>lexB_tot _ _ fun z=>ne ?_,fun i j=>lexB_asym _ _,fun i j k=>lexB_trans _ _ _⟩
    have li:i<(xs.map (·.1)).length:=by rw [List.length_map];exact hi
    have lj:j<(xs.map (·.1)).length:=by rw [List.length_map];exact hj
    refine(List.getElem_inj (h₀:=li) (h₁:=lj) nd).mp ?_
    simpa [List.getD,hi,hj]using z
   have wy:=sort_way S (by omega)
   rw [<-vl]at wy
   refine wpAny_bind (wpAny_mono (kat_run (ks:=vs) (vs:=vs) (Q:=fun st' s'=>s'={s with heap:=H}/\∃p:Array Nat,p.size=vs.length/\arrOf st'=p.map (kas_item (vs.toArray.zip vs.toArray))/\failedOf st'=none/\Tidy vs.length p/\Rises (fun i j=>lexB (xs.getD i ([],0)).1 (xs.getD j ([],0)).1) p vs.length)
    (G:=fun p s'=>s'={s with heap:=H}/\Tidy vs.length p/\Rises (fun i j=>lexB (xs.getD i ([],0)).1 (xs.getD j ([],0)).1) p vs.length) rfl (by omega) (by omega) (fun p st' s' a1 a2 a3 a4=>⟨a4.1,p,a1,a2,a3,a4.2⟩)
    (KasT.way_wp (fun i j C hi hj hC=>?_) (fun p hp=>⟨rfl,hp⟩) _ wy)) ?_ fun _ _ e=>e)
   ·have hi:i<vs.length:=hi
    have hj:j<vs.length:=hj
    rw [vl]at hi hj
    show wpAny _ _ (keyLt' _ (vs.getD i Value.none) (vs.getD j Value.none)) _ _ _
    obtain⟨a1,a2⟩:=keyd i hi
    obtain⟨b1,b2⟩:=keyd j hj
    rw [a2,b2]
    exact keyLt_ints (T6 _ (List.mem_of_getElem? a1)).2 (T6 _ (List.mem_of_getElem? b1)).2 hC
   ·rintro⟨⟨⟩,st'⟩ s' ⟨rfl,p,hp,har,hf,hT,hR⟩
    dsimp only
    have hout:=kat_snds rfl har
    have pm:p.toList.Perm (List.range xs.length):=by rw [<-vl];exact hT
    have ey:(p.toList.map fun i=>vs.getD i Value.none)=(p.toList.filterMap fun i:Nat=>xs[i]?).map fun x=>Value.ref x.2:=by
     rw [List.map_filterMap]
     have:∀l:List Nat,(∀i∈l,i<xs.length)->(l.map fun i=>vs.getD i Value.none)=l.filterMap fun i:Nat=>(xs[i]?).map fun x=>Value.ref x.2:=by
      intro l
      induction l with
      |nil=>intro _;rfl
      |cons i l ih=>
       intro hl
       obtain⟨a1,a2⟩:=keyd i (hl i List.mem_cons_self)
       rw [List.map_cons,List.filterMap_cons,a1,ih fun j hj=>hl j (List.mem_cons_of_mem _ hj),a2]
       rfl
     exact this _ fun i hi=>List.mem_range.mp (pm.mem_iff.mp hi)
    have hsz:(List.toArray (p.toList.map fun i=>vs.getD i Value.none)).size<=sizeLine+1:=by rw [List.size_toArray,List.length_map,Array.length_toList,hp,sizeLine_eq];omega
    refine wpAny_bind (seqEpoch_at ho6 rfl ?_)
    rw [hout]
    refine wpAny_bind (listUpdate_at ho6 rfl ?_ (Nat.zero_le _) hsz)
    rw [hf]
    simp only [bne_self_eq_false,Bool.false_eq_true,if_false]
    refine wpAny_pure ?_
    have q:=h (p.toList.filterMap fun i:Nat=>xs[i]?) (pick_perm pm) (by
     rw [List.pairwise_iff_getElem]
     intro i j hi hj hij
     have pl:p.toList.length=xs.length:=by rw [pm.length_eq,List.length_range]
     have fl:=(pick_perm pm).length_eq
     have gt:∀r,(hr:r<(p.toList.filterMap fun i:Nat=>xs[i]?).length)->(p.toList.filterMap fun i:Nat=>xs[i]?)[r]=xs.getD (vAt p r) ([],0):=fun r hr=>by
      have hr':r<p.toList.length:=by omega
      have e1:=filterMap_get (f:=fun i:Nat=>xs[i]?) (l:=p.toList) (fun i hi=>⟨_,List.getElem?_eq_getElem (List.mem_range.mp (pm.mem_iff.mp hi))⟩) r
      rw [List.getElem?_eq_getElem hr,List.getElem?_eq_getElem hr']at e1
      have e2:vAt p r=p.toList[r]:=by rw [vAt_get, <-Array.getElem?_toList,List.getElem?_eq_getElem hr'];rfl
      rw [e2]
      have lt:p.toList[r]<xs.length:=List.mem_range.mp (pm.mem_iff.mp (List.getElem_mem hr'))
      have e3:(some p.toList[r]).bind (fun i:Nat=>xs[i]?)=some (xs.getD p.toList[r] ([],0)):=(keyd _ lt).1
      rw [e3]at e1
      exact Option.some.inj e1
     rw [gt i hi,gt j hj]
     exact hR i j hij (by omega))
    rw [fin, <-ey]at q
    exact q
end
section
variable {prog:Program} {w:World} {A:Around} {E:Value->Shared->Prop} {s:Shared}
theorem sorted_set {S:Addr} {xs:List (List Int×Addr)} {Q:Value->Shared->Prop} (hh:A.handled=none) (I:SetIs (tupleKind (intKind prog w)) s S (!w.params.followText "set-order") xs) (ne:∀x∈xs,x.1≠[]) (h64:xs.length<64)
  (h:∀(h':Heap) (tk:Nat) (l:Addr) (e:Nat) (ys:List (List Int×Addr)),ys.Perm xs->ys.Pairwise (fun x y=>lexB x.1 y.1=true)->s.heap.objs.size<=l->h'.get? l=some (seqObj "list" (ys.map fun x=>Value.ref x.2).toArray e)->
   (∀b o,s.heap.get? b=some o->h'.get? b=some o)->Q (.ref l) {s with heap:=h',toks:=tk}):
  wpAny (model prog w) A (call (.builtin "sorted") [.ref S]) Q E s:=by
 obtain⟨o,es,ep,t,I,sm,pl,ld⟩:=I
 refine Calls.call_function_entry kind_sorted plain_sorted entry_sorted (args_sorted1 _) ?_
 unfold Builtin.«sorted»
 refine wpAny_bind (m:=checkCount "sorted" 1 1 _) (wpAny_pure ?_)
 have esz:es.size<64:=by rw [I.len];exact h64
 refine wpAny_bind (wpAny_collect_set (by simpa using hh) I.ho I.hex I.hd I.fits I.good.rise pl ld (by rw [sizeLine_eq];omega) fun h1 tk1 s1 k1=>?_)
 have op:=setOrd_perm w S es ep
 have eo:es.toList.map (·.2)=xs.map fun x=>Value.ref x.2:=by rw [I.he,List.map_map];rfl
 rw [eo]at op
 obtain⟨zs,pz,ez⟩:∃zs:List (List Int×Addr),zs.Perm xs/\setOrd w S es ep=zs.map fun x=>Value.ref x.2:=by
  have:∀{l:List Value} {xs:List (List Int×Addr)},l.Perm (xs.map fun x=>Value.ref x.2)->∃zs:List (List Int×Addr),zs.Perm xs/\l=zs.map fun x=>Value.ref x.2:=fun{l xs} hp=>by
   generalize hm:(xs.map fun x=>Value.ref x.2)=m at hp
   induction hp generalizing xs with
   |nil=>exact⟨xs,List.Perm.refl _,hm.symm⟩
   |cons a p ih=>
    match xs,hm with
    |x::xs,hm=>
     obtain⟨e1,e2⟩:=List.cons.inj hm
     obtain⟨zs,z1,z2⟩:=ih e2
     exact⟨x::zs,z1.cons x,by rw [z2, <-e1];rfl⟩
   |swap a b l=>
    match xs,hm with
    |x::y::xs,hm=>
     obtain⟨e1,e2⟩:=List.cons.inj hm
     obtain⟨e2,e3⟩:=List.cons.inj e2
     exact⟨y::x::xs,List.Perm.swap _ _ _,by rw [<-e1, <-e2, <-e3];rfl⟩
   |trans p1 p2 ih1 ih2=>
    obtain⟨zs,z1,z2⟩:=ih2 hm
    obtain⟨us,u1,u2⟩:=ih1 z2.symm
    exact⟨us,u1.trans z1,u2⟩
  exact this op
 rw [ez]
 have zl:zs.length=xs.length:=pz.length_eq
 refine wpAny_bind (wpAny_newList ?_ (by rw [List.length_map,sizeLine_eq];omega))
 have hoL:(h1.push (seqObj "list" (zs.map fun x=>Value.ref x.2).toArray 0)).get? h1.objs.size=some (seqObj "list" (zs.map fun x=>Value.ref x.2).toArray 0):=Heap.get?_push_size _ rfl
 have T1:Tups prog w (h1.push (seqObj "list" (zs.map fun x=>Value.ref x.2).toArray 0)) zs:=fun x hx=>⟨ne x (pz.mem_iff.mp hx),(I.keys x (pz.mem_iff.mp hx)).monoS fun b o _ e=>Heap.get?_push_of_some _ (k1 b o e)⟩
 refine wpAny_bind (wpAny_holding (wpAny_call_entry slot_list_sort ⟨_,hoL,rfl⟩ entry_list_sort (list_sort_tups hoL T1 (by rw [(pz.map (·.1)).nodup_iff];exact I.nd) (by omega) fun ys py hy=>⟨_,rfl,?_⟩) (args_list_sort _)))
 refine wpAny_pure ⟨_,rfl,?_⟩
 obtain⟨e,he⟩:=sortedHeap_at (out:=(ys.map fun x=>Value.ref x.2).toArray) hoL
 refine h _ tk1 _ e ys (py.trans pz) hy (Nat.le_of_lt s1) he fun b o q=>?_
 have hb:b<h1.objs.size:=Heap.lt_size (k1 b o q)
 rw [sortedHeap_old (Nat.ne_of_lt hb) (by rw [Heap.size_push];exact Nat.lt_succ_of_lt hb)]
 exact Heap.get?_push_of_some _ (k1 b o q)
end
end PySem
namespace PySem
open Sem (wp)
open PyProof.Rows (listItems_at)
open SeqAt
def LtAt (A:Around) (s:Shared) (y x:Value) (b:Bool):Prop:=
 ∀(prog:Program) (w:World) (E:Value->Shared->Prop) (Q:Value->Shared->Prop),Q (.bool b) s->wpAny (model prog w) A (richCompare .Lt y x) Q E s
def EqN (n:Nat) (s:Shared) (y x:Value) (b:Bool):Prop:=∀A:Around,A.units<=n->EqAt A s y x b
def LtN (n:Nat) (s:Shared) (y x:Value) (b:Bool):Prop:=∀A:Around,A.units<=n->LtAt A s y x b
theorem LtN.ints (n:Nat) (s:Shared) (a b:Int) (t u):LtN n s (.int a t) (.int b u) (decide (a<b)):=fun A _ prog w E Q h=>PyProof.Rows.lt_int h
section
variable {s:Shared} {a b:Addr} {xs ys:Array Value} {n:Nat}
def lexI (e lt:Nat->Bool) (m n:Nat):Nat->Nat->Bool
 |0,_=>decide (m<n)
 |k+1,i=>if e i=true then lexI e lt m n k (i+1)else lt i
theorem lt_loop {e lt:Nat->Bool} (ha:s.heap.IsList a xs) (hb:s.heap.IsList b ys) (hE:∀j (h1:j<xs.size) (h2:j<ys.size),EqN (n+3) s xs[j] ys[j] (e j)) (hL:∀j (h1:j<xs.size) (h2:j<ys.size),LtN (n+3) s xs[j] ys[j] (lt j)):
  ∀(k i:Nat),min xs.size ys.size-i=k->∀(prog:Program) (w:World) (A:Around) (R:Result->Shared->Prop),A.units<=n+2->R (.ok (.ret (.bool (lexI e lt xs.size ys.size k i)))) s->codeAny (model prog w) A (.builtin "list.__eq__.loop" ⟨[.ref a,.ref b,.int i 0,.int 0 0],[]⟩) R s:=by
 obtain⟨oa,hoa,ca,na,da⟩:=ha
 obtain⟨ob,hob,cb,nb,db⟩:=hb
 intro k
 induction k with
 |zero=>
  intro i hk prog w A R hA hR
  refine codeAny_builtin MeetsSeq3.entry_eq_loop ?_
  rw [Around.under_plainId MeetsSeq3.plain_eq_loop _]
  show wpAny _ A.in1 (Builtin.List.listItems (.ref a)>>=_) _ _ s
  refine wpAny_bind (listItems_at hoa da (wpAny_bind (listItems_at hob db ?_)))
  have no:xs[i]? =none∨ys[i]? =none:=by
   rcases Nat.lt_or_ge i xs.size with z|z
   ·exact .inr (Array.getElem?_eq_none (by omega))
   ·exact .inl (Array.getElem?_eq_none z)
  show wpAny _ A.in1 (match (xs[((i:Nat):Int).toNat]?,ys[((i:Nat):Int).toNat]?)with|(some x,some y)=>_|_=>_) _ _ s
  rw [Int.toNat_natCast]
  rcases no with e|e
  ·rw [e]
   refine wpAny_bind (listItems_at hoa da (wpAny_bind (listItems_at hob db ?_)))
   exact wpAny_pure hR
  ·rw [e]
   cases xs[i]? with
   |none=>exact wpAny_bind (listItems_at hoa da (wpAny_bind (listItems_at hob db (wpAny_pure hR))))
   |some v=>exact wpAny_bind (listItems_at hoa da (wpAny_bind (listItems_at hob db (wpAny_pure hR))))
 |succ k ih=>
  intro i hk prog w A R hA hR
  have h1:i<xs.size:=by omega
  have h2:i<ys.size:=by omega
  have hc:=ih (i+1) (by omega)
  have he:=hE i h1 h2
  have hl:=hL i h1 h2
  unfold lexI at hR
  refine codeAny_builtin MeetsSeq3.entry_eq_loop ?_
  rw [Around.under_plainId MeetsSeq3.plain_eq_loop _]
  show wpAny _ A.in1 (Builtin.List.listItems (.ref a)>>=_) _ _ s
  refine wpAny_bind (listItems_at hoa da (wpAny_bind (listItems_at hob db ?_)))
  show wpAny _ A.in1 (match (xs[((i:Nat):Int).toNat]?,ys[((i:Nat):Int).toNat]?)with|(some x,some y)=>_|_=>_) _ _ s
  rw [Int.toNat_natCast,Array.getElem?_eq_getElem h1,Array.getElem?_eq_getElem h2]
  refine wpAny_bind (he A.in1 (by show A.units+1<=n+3;omega) prog w _ _ ?_)
  cases g:e i with
  |true=>
   rw [g]at hR
   simp only [if_true]at hR⊢
   exact wpAny_pure ⟨plainId_quiet MeetsSeq3.plain_eq_loop _,hc prog w A R hA hR⟩
  |false=>
   rw [g]at hR
   simp only [Bool.false_eq_true,if_false]at hR⊢
   refine wpAny_bind (listItems_at hoa da (wpAny_bind (listItems_at hob db ?_)))
   rw [Array.getElem?_eq_getElem h1,Array.getElem?_eq_getElem h2]
   exact wpAny_bind (hl A.in1 (by show A.units+1<=n+3;omega) prog w _ _ (wpAny_pure hR))
theorem LtN.pairs {a b:Addr} {i j:Int} {t u} {v v':Value} (ha:s.heap.IsTuple a #[.int i t,v]) (hb:s.heap.IsTuple b #[.int j u,v']) {e l:Bool} (hn:n+4<cLine) (he:EqN (n+3) s v v' e) (hl:LtN (n+3) s v v' l):
  LtN n s (.ref a) (.ref b) (if i=j then(if e=true then false else l)else decide (i<j)):=by
 obtain⟨oa,hoa,ca,na,da⟩:=ha
 obtain⟨ob,hob,cb,nb,db⟩:=hb
 have Ta:s.TypeIs (.ref a) "tuple":=⟨oa,hoa,ca⟩
 have Tb:s.TypeIs (.ref b) "tuple":=⟨ob,hob,cb⟩
 intro A hA prog w E Q hQ
 ·refine wpAny_richCompare_same_room (op:= .Lt) Ta Tb F.slot_tuple_lt (wpAny_call (codeAny_call_builtin F.slot_tuple_lt.plain F.entry_tuple_lt (F.slot_tuple_lt.check _ _ _ _ _ _ _ _ Ta (F.args_tuple_lt_2 _ _) ?_))) (by omega)
  show wpAny _ _ (isInstance (.ref b) (.type "tuple")>>=_) _ _ s
  refine wpAny_bind (wpAny_isInstance Tb isSubtype_tuple_tuple ?_)
  simp only [Bool.not_true,Bool.false_eq_true,if_false]
  refine wpAny_bind (wpAny_tupleItemsOf hoa da ?_)
  refine wpAny_bind (wpAny_tupleItemsOf hob db ?_)
  refine wpAny_bind ?_
  show wpAny _ _ (forIn [(Value.int i t,Value.int j u),(v,v')] _ _) _ _ s
  rw [List.forIn_cons]
  refine wpAny_bind (wpAny_bind (wpAny_eqBool_int ?_))
  by_cases ij:i=j
  ·subst ij
   rw [beq_self_eq_true]
   simp only [Bool.not_true,Bool.false_eq_true,if_false]
   refine wpAny_pure ?_
   dsimp only
   rw [List.forIn_cons]
   refine wpAny_bind (wpAny_bind (he A.in1 (by show A.units+1<=n+3;omega) prog w _ _ ?_))
   cases e with
   |true=>
    simp only [Bool.not_true,Bool.false_eq_true,if_false]
    refine wpAny_pure ?_
    dsimp only
    rw [List.forIn_nil]
    refine wpAny_pure (wpAny_pure ?_)
    simp only [if_true]at hQ
    exact⟨(fun z=>nomatch z),hQ⟩
   |false=>
    simp only [Bool.not_false,if_true]
    refine wpAny_bind (wpAny_rule (wpAny_bind (hl A.in1 (by show A.units+1<=n+3;omega) prog w _ _ ?_)))
    simp only [Bool.false_eq_true,if_false,if_true]at hQ
    exact wpAny_bind (wpAny_pure (wpAny_pure (wpAny_pure (wpAny_pure ⟨(fun z=>nomatch z),hQ⟩))))
  ·rw [beq_eq_false_iff_ne.mpr ij]
   rw [if_neg ij]at hQ
   simp only [Bool.not_false,if_true]
   refine wpAny_bind (wpAny_rule (wpAny_bind (LtN.ints (n+3) s i j t u A.in1 (by show A.units+1<=n+3;omega) prog w _ _ ?_)))
   exact wpAny_bind (wpAny_pure (wpAny_pure (wpAny_pure (wpAny_pure ⟨(fun z=>nomatch z),hQ⟩))))
theorem LtN.lists {e lt:Nat->Bool} (ha:s.heap.IsList a xs) (hb:s.heap.IsList b ys) (hn:n+4<cLine) (hE:∀j (h1:j<xs.size) (h2:j<ys.size),EqN (n+3) s xs[j] ys[j] (e j)) (hL:∀j (h1:j<xs.size) (h2:j<ys.size),LtN (n+3) s xs[j] ys[j] (lt j)):
  LtN n s (.ref a) (.ref b) (lexI e lt xs.size ys.size (min xs.size ys.size) 0):=by
 have hc:=lt_loop ha hb hE hL _ 0 rfl
 intro A hA prog w E Q hQ
 have Ta:=ha.typeIs
 have Tb:=hb.typeIs
 refine wpAny_richCompare_same_room (op:= .Lt) Ta Tb F.slot_list_lt (wpAny_call (codeAny_call_builtin F.slot_list_lt.plain F.entry_list_lt (F.slot_list_lt.check _ _ _ _ _ _ _ _ Ta (F.args_list_lt_2 _ _) ?_))) (by omega)
 show wpAny _ _ (isInstance (.ref b) (.type "list")>>=_) _ _ s
 refine wpAny_bind (wpAny_isInstance Tb AutoSeq1.sub_list_list ?_)
 simp only [Bool.not_true,Bool.false_eq_true,if_false]
 refine wpAny_pure ⟨plainId_quiet MeetsSeq3.plain_eq_loop _,hc prog w _ _ (by omega) ?_⟩
 exact⟨(fun z=>nomatch z),hQ⟩
end
end PySem
namespace PySem
open Sem (wp)
section
variable {prog:Program} {w:World} {A:Around} {I S:Addr} {fp wr:List Addr} {n:Nat} {P:Nat->Value->Prop} {St:Nat->Heap->Prop} {h₀:Heap} {bt:Nat->Nat->Bool}
def Old (h₀ h:Heap):Prop:=∀b o,h₀.get? b=some o->h.get? b=some o
def CmpH (h₀:Heap) (base:Shared) (A:Around) (P:Nat->Value->Prop) (bt:Nat->Nat->Bool):Prop:=∀i j vi vj h tk,Old h₀ h->P i vi->P j vj->LtAt A {base with heap:=h,toks:=tk} vi vj (bt i j)
theorem min_turns {base:Shared} (W:Walks prog w A.in1 I fp wr n P St) (C:CmpH h₀ base A.in1 P bt) (hSf:S∉fp) (hS0:h₀.get? S=none) (hw0:∀b∈wr,h₀.get? b=none) {R:Result->Shared->Prop}
  (hR:∀v h' tk,P (argBest bt (n-1)) v->Old h₀ h'->R (.ok (.ret v)) {base with heap:=h',toks:=tk}):
  ∀(k j:Nat) (h:Heap) (tk:Nat) (vb:Value) (c:Nat),n=j+1+k->St (j+1) h->P (argBest bt j) vb->Old h₀ h->h.get? S=some {cls:= .type "list",dict:=none,data:= .seq #[vb,vb] c,slots:= #[]}->
   codeAny (model prog w) A (.builtin "min.loop" ⟨[.ref I,.none,.ref S],[]⟩) R {base with heap:=h,toks:=tk}:=by
 have nw:S∉wr:=fun z=>hSf (W.sub _ z)
 have go:∀{h1 h2:Heap},Old h₀ h1->(∀b o,b∉wr->h1.get? b=some o->h2.get? b=some o)->Old h₀ h2:=fun{h1 h2} o1 k b o e=>k b o (fun z=>by rw [hw0 b z]at e;cases e) (o1 b o e)
 have up:∀{h1:Heap} (f:Obj->Obj),Old h₀ h1->Old h₀ (h1.update S f):=fun{h1} f o1 b o e=>(Heap.get?_update_other _ _ (fun z:S=b=>by subst z;rw [hS0]at e;cases e)).trans (o1 b o e)
 have fr:∀{h1:Heap} (f:Obj->Obj) (i:Nat),St i h1->St i (h1.update S f):=fun{h1} f i st=>W.frame _ _ _ st fun b hb o e=>(Heap.get?_update_other _ _ (fun z:S=b=>hSf (by rw [z];exact hb))).trans e
 intro k
 induction k with
 |zero=>
  intro j h tk vb c hn st pb old hs
  refine codeAny_builtin F.entry_min_loop ?_
  rw [Around.under_plainId F.plain_min_loop _]
  refine wpAny_bind (m:=seqItems? (.ref S)) (wpAny_seqItems hs rfl ?_)
  refine wpAny_bind (m:=tryCatch (pyNext (.ref I)) _) (wpAny_tryCatch (W.done _ _ _ (by rw [hn];exact st) fun h' tk' kp=>?_))
  have hs':=kp S _ nw hs
  refine wpAny_bind (m:=updateSeq S fun _=> #[]) (wpAny_updateSeq hs' rfl (wpAny_bind (wpAny_letGo (wpAny_pure ?_))))
  refine hR vb _ tk' ?_ (up _ (go old kp))
  rw [show n-1=j by omega]
  exact pb
 |succ k ih=>
  intro j h tk vb c hn st pb old hs
  refine codeAny_builtin F.entry_min_loop ?_
  rw [Around.under_plainId F.plain_min_loop _]
  refine wpAny_bind (m:=seqItems? (.ref S)) (wpAny_seqItems hs rfl ?_)
  refine wpAny_bind (m:=tryCatch (pyNext (.ref I)) _) (wpAny_tryCatch (W.item (j+1) _ _ _ (by omega) st fun v h' tk' pv st' kp=>?_))
  have hs':=kp S _ nw hs
  have old':=go old kp
  have lt:=C (j+1) (argBest bt j) v vb h' tk' old' pv pb
  have nm:(toString "min"++toString ".loop":String)="min.loop":=by decide
  show wpAny _ A.in1 (tryCatch (holding [v,v] (richCompare .Lt v vb>>=_)) _>>=_) _ _ _
  refine wpAny_bind (wpAny_tryCatch (wpAny_holding (wpAny_bind (lt prog w _ _ ?_))))
  refine wpAny_bind (wpAny_holding (wpAny_truthy_bool (wpAny_bind (wpAny_letGo (wpAny_pure ?_)))))
  have best:argBest bt (j+1)=if bt (j+1) (argBest bt j)=true then j+1 else argBest bt j:=rfl
  cases hb:bt (j+1) (argBest bt j)
  ·rw [hb,if_neg (by simp)]at best
   simp only [Bool.false_eq_true,if_false]
   refine wpAny_bind (wpAny_letGo ?_)
   rw [nm]
   exact wpAny_pure ⟨plainId_quiet F.plain_min_loop _,ih (j+1) h' tk' vb c (by omega) st' (by rw [best];exact pb) old' hs'⟩
  ·rw [hb,if_pos rfl]at best
   simp only [if_true]
   refine wpAny_bind ?_
   refine wpAny_updateSeq hs' rfl (wpAny_bind (wpAny_letGo ?_))
   rw [nm]
   exact wpAny_pure ⟨plainId_quiet F.plain_min_loop _,ih (j+1) _ tk' v _ (by omega) (fr _ _ st') (by rw [best];exact pv) (up _ old') (Heap.get?_update_self _ hs' rfl)⟩
theorem call_min_heap {E:Value->Shared->Prop} {s:Shared} {l:Addr} {vs:Array Value} {Q:Value->Shared->Prop} (hh:A.handled=none) (hl:s.heap.IsList l vs) (hne:0<vs.size) (C:CmpH s.heap s A.in1 (fun i v=>vs[i]? =some v) bt)
  (h:∀v h' tk,vs[argBest bt (vs.size-1)]? =some v->Old s.heap h'->Q v {s with heap:=h',toks:=tk}):wpAny (model prog w) A (call (.builtin "min") [.ref l]) Q E s:=by
 refine call_function_tree F.kind_min F.plain_min F.entry_min (F.args_min1 _) ?_
 show wpAny _ A.in1 (Builtin.Builtins.bindParams "min" ["key","default"] 0 ⟨[],[]⟩>>=_) _ _ s
 refine wpAny_bind (wpAny_of_eq (show Builtin.Builtins.bindParams "min" ["key","default"] 0 ⟨[],[]⟩=pure [none,none]from rfl) ?_)
 refine wpAny_bind (wpAny_pure ?_)
 refine wpAny_bind (wpAny_pyIter_list hl ?_)
 refine wpAny_bind (wpAny_newObj_type ?_)
 have hlt:l<s.heap.objs.size:=let⟨_,ho,_⟩:=hl;Heap.lt_size ho
 have z1:(s.heap.push {cls:= .type "list_iterator",data:= .fields #[.ref l,.int 0 0]}).objs.size=s.heap.objs.size+1:=Heap.size_push ..
 rw [z1]
 generalize hH:(s.heap.push {cls:= .type "list_iterator",data:= .fields #[.ref l,.int 0 0]}).push {cls:= .type "list",data:= .seq ([]:List Value).toArray}=H
 have old:Old s.heap H:=fun b o e=>by rw [<-hH];exact Heap.get?_push_of_some _ (Heap.get?_push_of_some _ e)
 have hS:H.get? (s.heap.objs.size+1)=some {cls:= .type "list",data:= .seq ([]:List Value).toArray}:=by rw [<-hH, <-z1];exact Heap.get?_push_size _ rfl
 have hI:H.get? s.heap.objs.size=some {cls:= .type "list_iterator",data:= .fields #[.ref l,.int 0 0]}:=by rw [<-hH];exact Heap.get?_push_of_some _ (Heap.get?_push_size _ rfl)
 have W:=Walks.list (prog:=prog) (w:=w) (A:=A.in1) hh s.heap.objs.size l (Nat.ne_of_lt hlt) vs
 have hSf:s.heap.objs.size+1∉[s.heap.objs.size,l]:=by
  simp only [List.mem_cons,List.mem_singleton,List.not_mem_nil,or_false,not_or]
  exact⟨Nat.ne_of_gt (Nat.lt_succ_self _),Nat.ne_of_gt (Nat.lt_succ_of_lt hlt)⟩
 have nm:(toString "min"++toString ".loop":String)="min.loop":=by decide
 rw [nm]
 refine wpAny_pure ⟨plainId_quiet F.plain_min_loop _,codeAny_builtin F.entry_min_loop ?_⟩
 rw [Around.under_plainId F.plain_min_loop _]
 refine wpAny_bind (m:=seqItems? (.ref (s.heap.objs.size+1))) (wpAny_seqItems hS rfl ?_)
 refine wpAny_bind (m:=tryCatch (pyNext (.ref s.heap.objs.size)) _) (wpAny_tryCatch (W.item 0 _ _ _ hne ⟨⟨_,hI,rfl,rfl⟩,hl.at fun o e=>old _ _ e⟩ fun v h' tk' pv st' kp=>?_))
 have hs':=kp (s.heap.objs.size+1) _ (by simp only [List.mem_singleton];exact Nat.ne_of_gt (Nat.lt_succ_self _)) hS
 have no:∀b,s.heap.objs.size<=b->s.heap.get? b=none:=fun b hb=>Heap.get?_none_of_le hb
 have old':Old s.heap h':=fun b o e=>kp b o (by simp only [List.mem_singleton];exact Nat.ne_of_lt (Heap.lt_size e)) (old b o e)
 refine wpAny_bind (m:=updateSeq (s.heap.objs.size+1) fun _=> #[v,v]) (wpAny_updateSeq hs' rfl ?_)
 rw [nm]
 refine wpAny_pure ⟨plainId_quiet F.plain_min_loop _,min_turns (h₀:=s.heap) (base:=s) W C hSf (no _ (Nat.le_succ _)) (fun b hb=>by rw [List.mem_singleton.mp hb];exact no _ (Nat.le_refl _)) (fun v h' tk pv o=>h v h' tk pv o) (vs.size-1) 0 _ tk' v _ (by omega) (W.frame _ _ _ st' fun b hb o e=>?_) pv (fun b o e=>?_) (Heap.get?_update_self _ hs' rfl)⟩
 ·exact(Heap.get?_update_other _ _ (fun z:s.heap.objs.size+1=b=>hSf (by rw [z];exact hb))).trans e
 ·exact(Heap.get?_update_other _ _ (Nat.ne_of_gt (Nat.lt_succ_of_lt (Heap.lt_size e)))).trans (old' b o e)
theorem argBest_le (bt : Nat → Nat → Bool) (val : Nat → Int) : ∀ k, (∀ i j, i ≤ k → j ≤ k → (val i < val j → bt i j = true) ∧ (val j < val i → bt i j = false)) → argBest bt k ≤ k ∧ ∀ i, i ≤ k → val (argBest bt k) ≤ val i
  | 0, _ => ⟨Nat.le_refl _, fun i hi => by obtain rfl : i = 0 := by omega
                                           exact Int.le_refl _⟩
  | k + 1, h => by
    obtain ⟨a, b⟩ := argBest_le bt val k fun i j hi hj => h i j (by omega) (by omega)
    have e : argBest bt (k + 1) = if bt (k + 1) (argBest bt k) = true then k + 1 else argBest bt k := rfl
    rw [e]
    have g := h (k + 1) (argBest bt k) (Nat.le_refl _) (by omega)
    split
    · rename_i q
      refine ⟨Nat.le_refl _, fun i hi => ?_⟩
      have : val (k + 1) ≤ val (argBest bt k) := by
        rcases (show val (argBest bt k) < val (k + 1) ∨ val (k + 1) ≤ val (argBest bt k) by omega) with z | z
        · rw [g.2 z] at q; cases q
        · exact z
      by_cases hi2 : i = k + 1
      · subst hi2; exact Int.le_refl _
      · have := b i (by omega); omega
    · rename_i q
      refine ⟨by omega, fun i hi => ?_⟩
      by_cases hi2 : i = k + 1
      · subst hi2
        rcases (show val (k + 1) < val (argBest bt k) ∨ val (argBest bt k) ≤ val (k + 1) by omega) with z | z
        · exact absurd (g.1 z) q
        · exact z
      · exact b i (by omega)
end
end PySem
namespace L2
open PySem PySem.Spec PyProof.Rows
section
variable {prog:Program} {w:World} {A:Around} {R:Result->Shared->Prop} {s:Shared}
theorem compLoop_any {elt target iter:Expr} {scope:Scope} {pos:Pos} {it acc:Value} {env:Env} (I:Nat->Shared->Prop)
  (turn:∀n s,I n s->wpAny (model prog w) A (pyNext it) (fun r s₁=>match r with
   |none=>R (.ok .next) s₁
   |some v=>wpAny (model prog w) A (letOwnedTupleGo target it v) (fun _ s₁'=>wpAny (model prog w) A (assign target env v) (fun _ s₂=>wpAny (model prog w) A (eval elt env) (fun x s₃=>
     wpAny (model prog w) A (call (.builtin "list.append") [acc,x]) (fun _ s₄=>∃m,m<n/\I m s₄) (fun _ _=>False) s₃) (fun _ _=>False) s₂) (fun _ _=>False) s₁') (fun _ _=>False) s₁) (fun _ _=>False) s)
  (n:Nat) (h:I n s):
  codeAny (model prog w) A (.compLoop (.ListComp elt [⟨target,iter,[],0⟩] scope pos) 0 it acc env) R s:=by
 refine codeAny_loop rfl I (fun n s hI=>?_) n h
 show wpAny _ _ ((compTurn (.ListComp elt [⟨target,iter,[],0⟩] scope pos) 0 it acc env).onRaise (fun x=>do noteFrame x env;theTreesLotGoes x)) _ _ s
 refine wpAny_noted ?_
 rw [compTurn_list1]
 refine wpAny_bind (wpAny_standAt (wpAny_bind (wpAny_mono (turn n s hI) (fun r s₁ h₁=>?_) fun _ _ h'=>h'.elim)))
 cases r with
 |none=>exact wpAny_pure h₁
 |some v=>
  refine wpAny_bind (wpAny_mono h₁ (fun _ s₁' h₁'=>?_) fun _ _ h'=>h'.elim)
  exact wpAny_bind (wpAny_mono h₁' (fun _ s₂ h₂=>wpAny_bind (wpAny_bind (wpAny_mono h₂ (fun x s₃ h₃=>wpAny_bind (wpAny_mono h₃
   (fun _ s₄ h₄=>wpAny_pure (wpAny_pure ⟨rfl,h₄⟩)) fun _ _ h'=>h'.elim)) fun _ _ h'=>h'.elim))) fun _ _ h'=>h'.elim)
end
theorem lookup_relabel_free {env:Env} (hk:env.scope.kind= .function):∀{names:List (Str×NameKind)} {x:Str},names.lookup x=some .free->env.kindOf x=some .cell->
  (names.map fun(n,k)=>if(k==NameKind.free && env.scope.kind== .function && env.kindOf n==some .cell)then(n,NameKind.cell)else(n,k)).lookup x=some .cell
 | [],_,h,_=>by simp at h
 |(n,k)::r,x,h,hc=>by
  have ih:=@lookup_relabel_free env hk r x
  show List.lookup x ((if(k==NameKind.free && env.scope.kind== .function && env.kindOf n==some .cell)=true then(n,NameKind.cell)else(n,k))::_)=_
  cases hx:x==n with
  |true=>
   have e:x=n:=eq_of_beq hx
   subst e
   simp only [List.lookup_cons,hx]at h
   cases h
   rw [if_pos (by rw [hk,hc];rfl)]
   simp [List.lookup_cons]
  |false=>
   simp only [List.lookup_cons,hx]at h
   by_cases hcc:(k==NameKind.free && env.scope.kind== .function && env.kindOf n==some .cell)=true
   ·rw [if_pos hcc];simp only [List.lookup_cons,hx];exact ih h hc
   ·rw [if_neg hcc];simp only [List.lookup_cons,hx];exact ih h hc
theorem lookup_relabel_inv {env:Env}:∀{names:List (Str×NameKind)} {x:Str},((names.map fun(n,k)=>if(k==NameKind.free && env.scope.kind== .function && env.kindOf n==some .cell)then(n,NameKind.cell)else(n,k)).lookup x=some .cell∨
  (names.map fun(n,k)=>if(k==NameKind.free && env.scope.kind== .function && env.kindOf n==some .cell)then(n,NameKind.cell)else(n,k)).lookup x=some .free)->names.lookup x=some .free∨names.lookup x=some .cell
 | [],_,h=>by simp at h
 |(n,k)::r,x,h=>by
  have ih:=@lookup_relabel_inv env r x
  replace h:List.lookup x ((if(k==NameKind.free && env.scope.kind== .function && env.kindOf n==some .cell)=true then(n,NameKind.cell)else(n,k))::_)=_∨List.lookup x ((if(k==NameKind.free && env.scope.kind== .function && env.kindOf n==some .cell)=true then(n,NameKind.cell)else(n,k))::_)=_:=h
  cases hx:x==n with
  |true=>
   simp only [List.lookup_cons,hx]
   by_cases hcc:(k==NameKind.free && env.scope.kind== .function && env.kindOf n==some .cell)=true
   ·have:k= .free:=by
     have:=(Bool.and_eq_true _ _▸(Bool.and_eq_true _ _▸hcc).1).1
     exact eq_of_beq this
    exact .inl (by rw [this])
   ·rw [if_neg hcc]at h
    simp only [List.lookup_cons,hx]at h
    rcases h with h|h
    ·exact .inr h
    ·exact .inl h
  |false=>
   simp only [List.lookup_cons,hx]
   by_cases hcc:(k==NameKind.free && env.scope.kind== .function && env.kindOf n==some .cell)=true
   ·rw [if_pos hcc]at h;simp only [List.lookup_cons,hx]at h;exact ih h
   ·rw [if_neg hcc]at h;simp only [List.lookup_cons,hx]at h;exact ih h
theorem lt_le_ne {a b c:Nat} (h1:a<b) (h2:b<=c):a≠c:=Nat.ne_of_lt (Nat.lt_of_lt_of_le h1 h2)
abbrev cxComp (X:Cx) (Nc:List Str) (scope:Scope) (cl:List (Str×Addr)) (C:Addr) (s2:Shared) (H2:Hp) (fp:List Addr):Cx:=
 {prog:=X.prog,w:=X.w,K:=X.K,mg:=X.mg,base:=X.base,A:=X.A,N:=Nc,s₀:=s2,H₀:=H2,env:=compEnvC scope cl C X.env,outer:=X.stack,stack:=X.stack,ex:=fp,fn:=fun _=>false,calm:=X.calm,pn:=[],xe:=fun _ _=>False}
abbrev capN (own:List Str) (cap:List (Str×Nat)):List Str:=own++cap.map (·.1)
def capSt (no:Nat) (cap:List (Str×Nat)) (σ:St):St:=List.replicate no none++cap.map fun p=>(σ[p.2]?).join
structure CompScope (X:Cx) (scope:Scope) (cap:List (Str×Nat)) (cl:List (Str×Addr)):Prop where
 clos:closureFor scope X.env=pure cl
 kind:scope.kind= .function
 nocell:∀y∈scope.names,y.2≠ .cell
 names:∀y∈scope.names,y.2= .local->scope.names.lookup y.1=some .local
 sub:∀x c,cl.lookup x=some c->X.env.cells.lookup x=some c
 has:∀x,scope.names.lookup x=some .free->∃c,cl.lookup x=some c
 cap:∀p∈cap,X.N[p.2]? =some p.1/\scope.names.lookup p.1=some .free/\X.env.scope.names.lookup p.1=some .cell
def CompW (J:It) (D:Addr) (g:TG) (te:TE) (Q:VK) (σ:St) (H:Hp):Prop:=∃W:Nat->Nat->St->Hp->Prop,
 (∃m,W 0 m σ H)/\∀i m σc H2,W i m σc H2->
  (J.stop i H2/\Q (.ref D) H2)∨(J.go i H2/\∀x H3,J.yld i H2 x H3->g x σc H3 fun σ4 H4=>te σ4 H4 fun y H5=>∃ys,H5 D=some (.lst ys)/\ys.length<sizeLine/\∃m',m'<m/\W (i+1) m' σ4 (upd H5 D (.lst (ys++[y]))))
def tComp (no:Nat) (cap:List (Str×Nat)) (wi:TI) (g:TG) (te:TE):TE:=fun σ H Q=>wi σ H fun J H1=>∀D,H1 D=none->CompW J D g te Q (capSt no cap σ) (upd H1 D (.lst []))
section
variable {X:Cx} {pins:List (Addr×Obj)} {σ:St} {s2:Shared} {H2:Hp}
theorem capSt_get {no:Nat} {cap:List (Str×Nat)} {own:List Str} (hno:own.length=no) {i:Nat} {x:Str} {v:V} (h1:(capN own cap)[i]? =some x) (h2:(capSt no cap σ)[i]? =some (some v)):
  ∃p∈cap,p.1=x/\σ[p.2]? =some (some v):=by
 subst hno
 unfold capSt at h2
 by_cases hi:i<own.length
 ·rw [List.getElem?_append_left (by simpa using hi),List.getElem?_replicate]at h2
  rw [if_pos hi]at h2
  cases h2
 ·rw [List.getElem?_append_right (by simpa using hi)]at h2
  unfold capN at h1
  rw [List.getElem?_append_right (by simpa using hi)]at h1
  rw [List.length_replicate,List.getElem?_map]at h2
  rw [List.getElem?_map]at h1
  cases e:cap[i-own.length]? with
  |none=>rw [e]at h1;cases h1
  |some p=>
   rw [e]at h1 h2
   refine⟨p,List.mem_of_getElem? e,Option.some.inj h1,?_⟩
   have q:(σ[p.2]?).join=some v:=Option.some.inj h2
   cases e2:σ[p.2]? with
   |none=>rw [e2]at q;cases q
   |some o=>rw [e2]at q;exact congrArg some q
theorem comp_block {elt iter tg:Expr} {scope:Scope} {own:List Str} {cap:List (Str×Nat)} {cl:List (Str×Addr)} {pos:Pos} {J:It} {fp:List Addr} {it:Addr} {tn:Nat->Heap->Prop} {g:TG} {te:TE} {Q:VK}
  (S:CompScope X scope cap cl) (hc:X.calm=true) (I:Inv X pins σ H2 s2) (T:Turn X.prog X.w X.K tg J fp it tn) (st:tn 0 s2.heap) (hf:∀b∈fp,FpOk X pins H2 b)
  (hg:∀C s2 H2 fp,PG (cxComp X (capN own cap) scope cl C s2 H2 fp) tg g) (he:∀C s2 H2 fp,PE (cxComp X (capN own cap) scope cl C s2 H2 fp) elt te)
  (W:Nat->Nat->St->Hp->Prop) (w0:∃m,W 0 m (capSt own.length cap σ) (upd H2 s2.heap.objs.size (.lst [])))
  (turn:∀i m σc H3,W i m σc H3->(J.stop i H3/\Q (.ref s2.heap.objs.size) H3)∨(J.go i H3/\∀x H4,J.yld i H3 x H4->g x σc H4 fun σ5 H5=>te σ5 H5 fun y H6=>∃ys,H6 s2.heap.objs.size=some (.lst ys)/\ys.length<sizeLine/\∃m',m'<m/\W (i+1) m' σ5 (upd H6 s2.heap.objs.size (.lst (ys++[y])))))
  {RR:Value->Addr->Result->Shared->Prop}
  (hRR:∀C H' s' m,s2.heap.objs.size<=C->s'.heap.Ns C m->H' C=none->Inv X pins σ H' s'->(∀h',Heap.SameBut C s'.heap h'->Inv X pins σ H' {s' with heap:=h'})->Q (.ref s2.heap.objs.size) H'->RR (.ref s2.heap.objs.size) C (.ok .next) s')
  {E:Value->Shared->Prop}:
  wpAny (model X.prog X.w) X.A (newList []) (fun acc s₃=>wpAny (model X.prog X.w) X.A (newFunctionEnv scope X.env.globals cl [] X.env.qual none .none (some X.env)) (fun cenv s₄=>
   codeAny (model X.prog X.w) X.A (.compStart (.ListComp elt [⟨tg,iter,[],0⟩] scope pos) 0 (.ref it) acc {cenv with scope:=relabel scope X.env}) (RR acc cenv.locals) s₄) E s₃) E s2:=by
 refine wpAny_newObj_type (wpAny_newFunctionEnv S.nocell (by intro y hy;simp at hy) (fun h₁ hns₁ hsb₁=>?_) S.kind)
 dsimp only at hns₁ hsb₁⊢
 generalize hH2:s2.heap.push {cls:= .type "list",dict:=none,data:= .seq ([]:List Value).toArray}=G2 at hns₁ hsb₁⊢
 have hC:G2.objs.size=s2.heap.objs.size+1:=by rw [<-hH2,Heap.size_push]
 have hDC:s2.heap.objs.size≠G2.objs.size:=by rw [hC];exact Nat.ne_of_lt (Nat.lt_succ_self _)
 have hCle:s2.heap.objs.size<=G2.objs.size:=by rw [hC];exact Nat.le_succ _
 have below:∀b,b<s2.heap.objs.size->b≠G2.objs.size/\b≠s2.heap.objs.size:=fun b hb=>⟨by rw [hC];exact Nat.ne_of_lt (Nat.lt_succ_of_lt hb),Nat.ne_of_lt hb⟩
 have old:∀b o,s2.heap.get? b=some o->h₁.get? b=some o:=fun b o e=>hsb₁.extBut b o (below b (Heap.lt_size e)).1 (Heap.get?_push_of_some _ (hH2▸Heap.get?_push_of_some _ e))
 have hacc:h₁.get? s2.heap.objs.size=some {cls:= .type "list",dict:=none,data:= .seq ([]:List Value).toArray}:=hsb₁.extBut _ _ hDC (Heap.get?_push_of_some _ (hH2▸Heap.get?_push_size _ rfl))
 have hfps:∀b∈fp,b<s2.heap.objs.size:=fun b hb=>by
  obtain⟨o,e,_⟩:=T.obj _ _ st b hb
  exact Heap.lt_size e
 have hfree:∀b,s2.heap.objs.size<=b->H2 b=none:=fun b hb=>I.hok.fresh hb
 generalize hX:cxComp X (capN own cap) scope cl G2.objs.size s2 H2 fp=X'
 have hOk:X'.Ok:=by
  subst hX
  refine⟨I.ok.mod,S.kind,I.ok.glob,I.ok.blt,hCle,fun x y c e1 e2=>I.ok.inj x y c (S.sub x c e1) (S.sub y c e2),fun x hx=>?_,fun x c z=>absurd (show false=true from z) Bool.false_ne_true,I.ok.hd,I.ok.frames,.inl rfl,
   fun b hb=>⟨(below b (hfps b hb)).1,fun x c e=>(hf b hb).2.2.2.2.1 x c (S.sub x c e)⟩,I.bs,Nat.le_trans I.ok.bsz I.sz,fun b o e hb=>?_,fun b hb z=>?_,I.stack,I.stkFree⟩
  ·rcases lookup_relabel_inv (env:=X.env) (names:=scope.names) (x:=x) hx with h|h
   ·exact S.has x h
   ·exact absurd rfl (S.nocell _ (PySem.mem_of_lookup h))
  ·rcases (hf b hb).2.2.2.1 with z|z
   ·exact I.ok.noex b o e z
   ·exact absurd (Nat.lt_of_lt_of_le (Heap.lt_size e) (Nat.le_trans I.ok.bsz z)) (Nat.lt_irrefl _)
  ·rcases List.mem_cons.mp (I.stkSub b z)with z|z
   ·exact(hf b hb).2.1 z
   ·exact(hf b hb).2.2.1 z
 have hI0:Inv X' [] (capSt own.length cap σ) (upd H2 s2.heap.objs.size (.lst [])) {s2 with heap:=h₁,toks:=s2.toks+([]:List (Str×Value)).length}:=by
  subst hX
  refine⟨hOk,rfl,I.bare,Un.laid old (Nat.le_refl _) (hfree _ (Nat.le_refl _)),⟨_,hns₁,fun i x v e1 e2 e3=>?_⟩,fun x c e=>?_,?_,fun x c e=>?_,fun p hp=>absurd (show p∈([]:List (Addr×Obj))from hp) (by simp),?_,?_⟩
  ·obtain⟨p,hp,rfl,hσ⟩:=capSt_get rfl e1 e2
   obtain⟨c1,c2,c3⟩:=S.cap p hp
   obtain⟨m,hn,hl⟩:=I.loc
   obtain⟨u,r,l⟩:=hl p.2 p.1 v c1 hσ (.inr (.inl c3))
   refine⟨u,r,.inr ⟨.inl (lookup_relabel_free I.ok.kind c2 c3),?_⟩⟩
   obtain⟨c,hcl⟩:=S.has _ c2
   refine⟨c,hcl,?_⟩
   rcases l with ⟨k,_⟩|⟨_,c',e,z⟩
   ·have k':X.env.scope.names.lookup p.1=some .local:=k
    rw [c3]at k';cases k'
   ·have:=S.sub _ _ hcl
    rw [e]at this;cases this
    obtain⟨o,ho,hd⟩:=z
    exact⟨o,old _ _ ho,hd⟩
  ·obtain⟨v,o,ho,hd⟩:=I.cell x c (S.sub x c e)
   exact⟨v,o,old _ _ ho,hd⟩
  ·show upd H2 s2.heap.objs.size (.lst []) G2.objs.size=none
   rw [upd_ne (Ne.symm hDC)]
   exact hfree _ hCle
  ·have e':=S.sub x c e
   obtain⟨v,o,ho,hd⟩:=I.cell x c e'
   rw [upd_ne (below c (Heap.lt_size ho)).2]
   exact I.freeC x c e'
  ·exact I.hok.laid old (Nat.le_refl _) ⟨Nat.zero_le _,[],_,.nil,hacc⟩
  ·show(capSt own.length cap σ).length=(capN own cap).length
   unfold capSt capN
   simp
 have hP:X'.prog=X.prog:=by subst hX;rfl
 have hw:X'.w=X.w:=by subst hX;rfl
 have hK:X'.K=X.K:=by subst hX;rfl
 have hA:X'.A=X.A:=by subst hX;rfl
 have hcalm:X'.calm=true:=by subst hX;exact hc
 have hxe:X'.xe=fun _ _=>False:=by subst hX;rfl
 have henv:X'.env=compEnvC scope cl G2.objs.size X.env:=by subst hX;rfl
 have hbase:∀{σ' H' s'},Inv X' [] σ' H' s'->Un (frs X.stack) fp H2 H' s2.heap s'.heap/\s'.os=s2.os:=fun{σ' H' s'} J=>by subst hX;exact⟨J.base,J.os⟩
 have hg':PG X' tg g:=by subst hX;exact hg _ _ _ _
 have he':PE X' elt te:=by subst hX;exact he _ _ _ _
 have stat:∀{H':Hp},(∀b∈fp,H' b=none)->∀b∈fp,FpOk X' [] H' b:=fun{H'} hn b hb=>by
  subst hX
  refine⟨hn b hb,(below b (hfps b hb)).1,fun z=>?_,.inl hb,fun x c e=>(hf b hb).2.2.2.2.1 x c (S.sub x c e),fun p hp=>absurd (show p∈([]:List (Addr×Obj))from hp) (by simp)⟩
  rcases List.mem_cons.mp (I.stkSub b z)with z|z
  ·exact(hf b hb).2.1 z
  ·exact(hf b hb).2.2.1 z
 have back:∀{σ' H' s'},Inv X' [] σ' H' s'->Q (.ref s2.heap.objs.size) H'->RR (.ref s2.heap.objs.size) G2.objs.size (.ok .next) s':=fun{σ' H' s'} J q=>by
  obtain⟨u,ho⟩:=hbase J
  have hcf:∀b∈fp,(b∈X.ex∨X.s₀.heap.objs.size<=b)/\b≠X.env.locals/\(∀x c,X.env.cells.lookup x=some c->c≠b)/\∀p∈X.pn++pins,p.1≠b:=fun b hb=>by
   obtain⟨f0,f1,f2,f3,f4,f5⟩:=hf b hb
   exact⟨f3,f1,f4,f5⟩
  have hCn:H' G2.objs.size=none:=by have:=J.free;rw [henv]at this;exact this
  have hok':HOk X.prog X.w H' s'.heap:=by have:=J.hok;rw [hP,hw]at this;exact this
  obtain⟨m,hm,_⟩:=J.loc
  rw [henv]at hm
  refine hRR _ H' s' m hCle hm hCn (I.call' ho u hok' J.bare hcf) (fun h' hs=>?_) q
  have kn:∀b o,s2.heap.get? b=some o->h'.get? b=s'.heap.get? b:=fun b o e=>hs.2 b (below b (Heap.lt_size e)).1
  refine I.call' (s':={s' with heap:=h'}) ho ⟨fun b o e n hb hx=>(kn b o e).trans (u.keep b o e n hb hx),fun b o e n hb hx=>?_,u.free,fun b o e hx=>?_,u.tups,u.frzs,u.tbls⟩ (fun b ob e=>?_) J.bare hcf
  ·obtain⟨sl,e1⟩:=u.slot b o e n hb hx
   exact⟨sl,(kn b o e).trans e1⟩
  ·obtain⟨o',e1⟩:=u.there b o e hx
   exact⟨o',(kn b o e).trans e1⟩
  ·refine(hok' b ob e).stay (fun c w' hc q=>(hs.2 c ?_).trans q) (fun _ q=>q) fun _ _ q=>q
   rintro rfl
   rcases hc with rfl|hc
   ·rw [hCn]at e;cases e
   ·rw [hCn]at hc;cases hc
 have loop:∀s₃:Shared,s₃={s2 with heap:=h₁,toks:=s2.toks+([]:List (Str×Value)).length}->
   codeAny (model X.prog X.w) X.A (.compLoop (.ListComp elt [⟨tg,iter,[],0⟩] scope pos) 0 (.ref it) (.ref s2.heap.objs.size) (compEnvC scope cl G2.objs.size X.env))
    (RR (.ref s2.heap.objs.size) G2.objs.size) s₃:=by
  rintro s₃ rfl
  obtain⟨m0,w0⟩:=w0
  refine compLoop_any (fun n s'=>∃i σ' H',Inv X' [] σ' H' s'/\tn i s'.heap/\(∀b∈fp,H' b=none)/\W i n σ' H') ?_ m0
   ⟨0,_,_,hI0,T.keep _ _ _ st fun b hb o e=>old b o e,fun b hb=>?_,w0⟩
  ·rintro n s3 ⟨i,σ3,H3,I3,st3,fr3,w3⟩
   rcases turn i n σ3 H3 w3 with ⟨stop,qn⟩|⟨go,step⟩
   ·have d:=T.done X' hP hw hK hcalm i [] s3 σ3 H3 (fun _ _=>False) I3 (stat fr3) st3 stop
    rw [hA]at d
    refine thn d fun r s4 ⟨hr,I4⟩=>?_
    subst hr
    exact back I4 qn
   ·have d:=T.item X' hP hw hK hcalm i [] s3 σ3 H3 (fun _ _=>False) I3 (stat fr3) st3 go
    rw [hA]at d
    refine thn d fun r s4 ⟨u,hr,h4⟩=>?_
    subst hr
    refine thn h4 fun _ s5 ⟨x,H5,I5,r5,y5,st5,fr5⟩=>?_
    have I5':=I5.pinned (stat fr5) (T.obj _ _ st5)
    have d2:=hg' _ s5 σ3 H5 x u _ I5' r5 (step x H5 y5)
    rw [hP,hw,hA,hxe,henv]at d2
    refine thn d2 fun _ s6 ⟨σ6,H6,I6,q6⟩=>?_
    have d3:=he' _ s6 σ6 H6 _ I6 q6
    rw [hP,hw,hA,hxe,henv]at d3
    refine thn d3 fun y7 s7 ⟨v7,H7,I7,r7,ys,e7,l7,m',hm,w7⟩=>?_
    have d4:=mt_append (X:=X') _ s7 σ6 H7 (.ref s2.heap.objs.size) [v7] (.ref s2.heap.objs.size) [y7] (fun _ H8=>W (i+1) m' σ6 H8) I7 rfl (.cons r7 .nil) ⟨_,ys,v7,rfl,rfl,e7,l7,w7⟩
    rw [hP,hw,hA,hxe]at d4
    refine thn d4 fun _ s8 ⟨v8,H8,I8,_,w8⟩=>?_
    refine⟨m',hm,i+1,σ6,H8,I8.unpinned,T.keep _ _ _ st5 fun b hb o e=>(I8.pin (b,o) (List.mem_append_right _ (List.mem_append_right _ (mem_pinsAt hb e)))).1,fun b hb=>?_,w8⟩
    obtain⟨o,e,d⟩:=T.obj _ _ st5 b hb
    exact(I8.pin (b,o) (List.mem_append_right _ (List.mem_append_right _ (mem_pinsAt hb e)))).2.1
  ·rw [upd_ne (below b (hfps b hb)).2]
   exact(hf b hb).1
 exact codeAny_compStart_list (loop _ rfl) (T.self _ 0 _ _ _ (T.keep _ _ _ st fun b hb o e=>old b o e) (loop _ rfl))
theorem pe_comp {elt iter tg:Expr} {scope:Scope} {own:List Str} {cap:List (Str×Nat)} {cl:List (Str×Addr)} {pos:Pos} {wi:TI} {g:TG} {te:TE}
  (S:CompScope X scope cap cl) (hc:X.calm=true) (hi:PI X tg iter wi)
  (hg:∀C s2 H2 fp,PG (cxComp X (capN own cap) scope cl C s2 H2 fp) tg g) (he:∀C s2 H2 fp,PE (cxComp X (capN own cap) scope cl C s2 H2 fp) elt te)
  (hs:∀x,foldedSetIterable iter X.env x=pure x:=by intro _;rfl):PE X (.ListComp elt [⟨tg,iter,[],0⟩] scope pos) (tComp own.length cap wi g te):=by
 intro pins s σ H Q I h
 rw [eval_ListComp]
 refine wpAny_comprehension_free (use:=none) rfl hs S.clos S.kind S.names (thn (hi pins s σ H _ I h) fun v s1 h1=>thn h1 fun itv s2 h2=>?_)
 obtain⟨it,fp,tn,J,H2,e,I2,T,st2,f2,rd⟩:=h2
 subst e
 obtain⟨W,w0,turn⟩:=rd _ (I2.hok.fresh (Nat.le_refl _))
 exact comp_block (RR:=fun acc C=>compPost (model X.prog X.w) X.A X.xe none (EP X pins σ Q) acc C) S hc I2 T st2 f2 hg he W w0 turn
  fun C H' s' m _ hm _ _ hback q=>⟨m,hm,fun h' hs'=>⟨.ref s2.heap.objs.size,H',hback h' hs',rfl,q⟩⟩
theorem ps_setComp {i:Nat} {x:Str} {elt iter tg:Expr} {scope:Scope} {own:List Str} {cap:List (Str×Nat)} {cl:List (Str×Addr)} {pos spos py:Pos} {wi:TI} {g:TG} {te:TE}
  (hN:X.N.Nodup) (hi':X.N[i]? =some x) (hx:Loc X.env.scope x) (S:CompScope X scope cap cl) (hc:X.calm=true) (hi:PI X tg iter wi)
  (hg:∀C s2 H2 fp,PG (cxComp X (capN own cap) scope cl C s2 H2 fp) tg g) (he:∀C s2 H2 fp,PE (cxComp X (capN own cap) scope cl C s2 H2 fp) elt te)
  (hsw:swapsWith (.ListComp elt [⟨tg,iter,[],0⟩] scope pos) (some (.Name x py)) spos.line X.env=pure true:=by rfl)
  (hs:∀x,foldedSetIterable iter X.env x=pure x:=by intro _;rfl) (hf:X.fn x=true∨X.env.scope.names.lookup x=some .local:=by first|exact .inl rfl|exact .inr rfl|assumption):
  PS X (.Assign [.Name x py] (.ListComp elt [⟨tg,iter,[],0⟩] scope pos) spos) (tAsg (tComp own.length cap wi g te) (gName i)):=by
 intro pins s σ H D I h
 rw [exec_Assign_Name_used _ _ _ _ hsw]
 refine wpAny_bind (wpAny_standAt (wpAny_bind ?_))
 show wpAny _ X.A (do let _<-comprehension (.ListComp elt [⟨tg,iter,[],0⟩] scope pos) scope X.env _ (newList []) false (eval iter X.env) (some (assign (.Name x py) X.env))) _ _ s
 refine wpAny_bind (wpAny_mono (wpAny_comprehension_free (use:=some (assign (.Name x py) X.env)) (Q:=fun _ s'=>SP X pins D .next s') rfl hs S.clos S.kind S.names
  (thn (hi pins s σ H _ I h) fun v s1 h1=>thn h1 fun itv s2 h2=>?_)) (fun _ s' hq=>wpAny_pure (wpAny_pure hq)) fun _ _ e=>e)
 obtain⟨it,fp,tn,J,H2,e,I2,T,st2,f2,rd⟩:=h2
 subst e
 obtain⟨W,w0,turn⟩:=rd _ (I2.hok.fresh (Nat.le_refl _))
 refine comp_block (Q:=fun x H1=>gName i x σ H1 D.nx) (RR:=fun acc C=>compPost (model X.prog X.w) X.A X.xe (some (assign (.Name x py) X.env)) (fun _ s'=>SP X pins D .next s') acc C) S hc I2 T st2 f2 hg he W w0 turn
  fun C H' s' m hCle hm hCn I' hback q=>?_
 refine wpAny_assign_Name (store_ok2 (v:= .ref s2.heap.objs.size) I' hN hi' hx rfl (fun s'' I'' ⟨a,hsa,ha⟩=>?_) hf)
 have hCa:C≠a:=by
  rcases ha with z|z
  ·rw [z]
   exact Ne.symm (lt_le_ne I2.lt hCle)
  ·obtain⟨v,q'⟩:=I2.cell x a z
   exact Ne.symm (lt_le_ne q'.lt hCle)
 refine⟨m,hm.sameBut hsa hCa,fun h' hs'=>⟨_,H',?_,q⟩⟩
 have hC0:X.s₀.heap.objs.size<=C:=Nat.le_trans I2.sz hCle
 have hnp:∀p∈X.pn++pins,p.1≠C:=fun p hp=>lt_le_ne (Heap.lt_size (I2.pin p hp).1) hCle
 have hcl:∀y c,X.env.cells.lookup y=some c->c≠C:=fun y c e=>by
  obtain⟨v,q'⟩:=I2.cell y c e
  exact lt_le_ne q'.lt hCle
 have hL:C≠X.env.locals:=Ne.symm (lt_le_ne I2.lt hCle)
 exact I''.turned (t':=s''.toks) (it:=C) (fun b o hb e=>(hs'.2 b hb).trans e) hCn hL (.inr hC0) hcl hnp
end
section
variable {prog:Program} {w:World} {A:Around} {R:Result->Shared->Prop} {s:Shared}
theorem compLoopF_any {elt target iter c:Expr} {scope:Scope} {pos:Pos} {it acc:Value} {env:Env} (I:Nat->Shared->Prop)
  (turn:∀n s,I n s->wpAny (model prog w) A (pyNext it) (fun r s₁=>match r with
   |none=>R (.ok .next) s₁
   |some v=>wpAny (model prog w) A (letOwnedTupleGo target it v) (fun _ s₁'=>wpAny (model prog w) A (assign target env v) (fun _ s₂=>wpAny (model prog w) A (isTrue c env (eval c env)) (fun ok s₂'=>if ok=true then wpAny (model prog w) A (eval elt env) (fun x s₃=>
     wpAny (model prog w) A (call (.builtin "list.append") [acc,x]) (fun _ s₄=>∃m,m<n/\I m s₄) (fun _ _=>False) s₃) (fun _ _=>False) s₂' else∃m,m<n/\I m s₂') (fun _ _=>False) s₂) (fun _ _=>False) s₁') (fun _ _=>False) s₁) (fun _ _=>False) s)
  (n:Nat) (h:I n s):
  codeAny (model prog w) A (.compLoop (.ListComp elt [⟨target,iter,[c],0⟩] scope pos) 0 it acc env) R s:=by
 refine codeAny_loop rfl I (fun n s hI=>?_) n h
 show wpAny _ _ ((compTurn (.ListComp elt [⟨target,iter,[c],0⟩] scope pos) 0 it acc env).onRaise (fun x=>do noteFrame x env;theTreesLotGoes x)) _ _ s
 refine wpAny_noted ?_
 rw [compTurn_list]
 refine wpAny_bind (wpAny_standAt (wpAny_bind (wpAny_mono (turn n s hI) (fun r s₁ h₁=>?_) fun _ _ h'=>h'.elim)))
 cases r with
 |none=>exact wpAny_pure h₁
 |some v=>
  refine wpAny_bind (wpAny_mono h₁ (fun _ s₁' h₁'=>?_) fun _ _ h'=>h'.elim)
  refine wpAny_bind (wpAny_mono h₁' (fun _ s₂ h₂=>?_) fun _ _ h'=>h'.elim)
  refine wpAny_bind (wpAny_tests_one (wpAny_mono h₂ (fun okb s₃ h₃=>?_) fun _ _ h'=>h'.elim))
  cases okb with
  |false=>exact wpAny_pure ⟨rfl,h₃⟩
  |true=>exact wpAny_bind (wpAny_bind (wpAny_mono h₃ (fun x s₄ h₄=>wpAny_bind (wpAny_mono h₄ (fun _ s₅ h₅=>wpAny_pure (wpAny_pure ⟨rfl,h₅⟩)) fun _ _ h'=>h'.elim)) fun _ _ h'=>h'.elim))
end
def CompWF (J:It) (D:Addr) (g:TG) (tc:TT) (te:TE) (Q:VK) (σ:St) (H:Hp):Prop:=∃W:Nat->Nat->St->Hp->Prop,
 (∃m,W 0 m σ H)/\∀i m σc H2,W i m σc H2->
  (J.stop i H2/\Q (.ref D) H2)∨(J.go i H2/\∀x H3,J.yld i H2 x H3->g x σc H3 fun σ4 H4=>tc σ4 H4 fun ok H4'=>if ok=true then te σ4 H4' fun y H5=>∃ys,H5 D=some (.lst ys)/\ys.length<sizeLine/\∃m',m'<m/\W (i+1) m' σ4 (upd H5 D (.lst (ys++[y])))else∃m',m'<m/\W (i+1) m' σ4 H4')
def tCompF (no:Nat) (cap:List (Str×Nat)) (wi:TI) (g:TG) (tc:TT) (te:TE):TE:=fun σ H Q=>wi σ H fun J H1=>∀D,H1 D=none->CompWF J D g tc te Q (capSt no cap σ) (upd H1 D (.lst []))
section
variable {X:Cx} {pins:List (Addr×Obj)} {σ:St} {s2:Shared} {H2:Hp}
theorem comp_blockF {elt iter tg ci:Expr} {scope:Scope} {own:List Str} {cap:List (Str×Nat)} {cl:List (Str×Addr)} {pos:Pos} {J:It} {fp:List Addr} {it:Addr} {tn:Nat->Heap->Prop} {g:TG} {tc:TT} {te:TE} {Q:VK}
  (S:CompScope X scope cap cl) (hc:X.calm=true) (I:Inv X pins σ H2 s2) (T:Turn X.prog X.w X.K tg J fp it tn) (st:tn 0 s2.heap) (hf:∀b∈fp,FpOk X pins H2 b)
  (hg:∀C s2 H2 fp,PG (cxComp X (capN own cap) scope cl C s2 H2 fp) tg g) (htc:∀C s2 H2 fp,PT (cxComp X (capN own cap) scope cl C s2 H2 fp) ci tc) (he:∀C s2 H2 fp,PE (cxComp X (capN own cap) scope cl C s2 H2 fp) elt te)
  (W:Nat->Nat->St->Hp->Prop) (w0:∃m,W 0 m (capSt own.length cap σ) (upd H2 s2.heap.objs.size (.lst [])))
  (turn:∀i m σc H3,W i m σc H3->(J.stop i H3/\Q (.ref s2.heap.objs.size) H3)∨(J.go i H3/\∀x H4,J.yld i H3 x H4->g x σc H4 fun σ5 H5=>tc σ5 H5 fun ok H5'=>if ok=true then te σ5 H5' fun y H6=>∃ys,H6 s2.heap.objs.size=some (.lst ys)/\ys.length<sizeLine/\∃m',m'<m/\W (i+1) m' σ5 (upd H6 s2.heap.objs.size (.lst (ys++[y])))else∃m',m'<m/\W (i+1) m' σ5 H5'))
  {RR:Value->Addr->Result->Shared->Prop}
  (hRR:∀C H' s' m,s2.heap.objs.size<=C->s'.heap.Ns C m->H' C=none->Inv X pins σ H' s'->(∀h',Heap.SameBut C s'.heap h'->Inv X pins σ H' {s' with heap:=h'})->Q (.ref s2.heap.objs.size) H'->RR (.ref s2.heap.objs.size) C (.ok .next) s')
  {E:Value->Shared->Prop}:
  wpAny (model X.prog X.w) X.A (newList []) (fun acc s₃=>wpAny (model X.prog X.w) X.A (newFunctionEnv scope X.env.globals cl [] X.env.qual none .none (some X.env)) (fun cenv s₄=>
   codeAny (model X.prog X.w) X.A (.compStart (.ListComp elt [⟨tg,iter,[ci],0⟩] scope pos) 0 (.ref it) acc {cenv with scope:=relabel scope X.env}) (RR acc cenv.locals) s₄) E s₃) E s2:=by
 refine wpAny_newObj_type (wpAny_newFunctionEnv S.nocell (by intro y hy;simp at hy) (fun h₁ hns₁ hsb₁=>?_) S.kind)
 dsimp only at hns₁ hsb₁⊢
 generalize hH2:s2.heap.push {cls:= .type "list",dict:=none,data:= .seq ([]:List Value).toArray}=G2 at hns₁ hsb₁⊢
 have hC:G2.objs.size=s2.heap.objs.size+1:=by rw [<-hH2,Heap.size_push]
 have hDC:s2.heap.objs.size≠G2.objs.size:=by rw [hC];exact Nat.ne_of_lt (Nat.lt_succ_self _)
 have hCle:s2.heap.objs.size<=G2.objs.size:=by rw [hC];exact Nat.le_succ _
 have below:∀b,b<s2.heap.objs.size->b≠G2.objs.size/\b≠s2.heap.objs.size:=fun b hb=>⟨by rw [hC];exact Nat.ne_of_lt (Nat.lt_succ_of_lt hb),Nat.ne_of_lt hb⟩
 have old:∀b o,s2.heap.get? b=some o->h₁.get? b=some o:=fun b o e=>hsb₁.extBut b o (below b (Heap.lt_size e)).1 (Heap.get?_push_of_some _ (hH2▸Heap.get?_push_of_some _ e))
 have hacc:h₁.get? s2.heap.objs.size=some {cls:= .type "list",dict:=none,data:= .seq ([]:List Value).toArray}:=hsb₁.extBut _ _ hDC (Heap.get?_push_of_some _ (hH2▸Heap.get?_push_size _ rfl))
 have hfps:∀b∈fp,b<s2.heap.objs.size:=fun b hb=>by
  obtain⟨o,e,_⟩:=T.obj _ _ st b hb
  exact Heap.lt_size e
 have hfree:∀b,s2.heap.objs.size<=b->H2 b=none:=fun b hb=>I.hok.fresh hb
 generalize hX:cxComp X (capN own cap) scope cl G2.objs.size s2 H2 fp=X'
 have hOk:X'.Ok:=by
  subst hX
  refine⟨I.ok.mod,S.kind,I.ok.glob,I.ok.blt,hCle,fun x y c e1 e2=>I.ok.inj x y c (S.sub x c e1) (S.sub y c e2),fun x hx=>?_,fun x c z=>absurd (show false=true from z) Bool.false_ne_true,I.ok.hd,I.ok.frames,.inl rfl,
   fun b hb=>⟨(below b (hfps b hb)).1,fun x c e=>(hf b hb).2.2.2.2.1 x c (S.sub x c e)⟩,I.bs,Nat.le_trans I.ok.bsz I.sz,fun b o e hb=>?_,fun b hb z=>?_,I.stack,I.stkFree⟩
  ·rcases lookup_relabel_inv (env:=X.env) (names:=scope.names) (x:=x) hx with h|h
   ·exact S.has x h
   ·exact absurd rfl (S.nocell _ (PySem.mem_of_lookup h))
  ·rcases (hf b hb).2.2.2.1 with z|z
   ·exact I.ok.noex b o e z
   ·exact absurd (Nat.lt_of_lt_of_le (Heap.lt_size e) (Nat.le_trans I.ok.bsz z)) (Nat.lt_irrefl _)
  ·rcases List.mem_cons.mp (I.stkSub b z)with z|z
   ·exact(hf b hb).2.1 z
   ·exact(hf b hb).2.2.1 z
 have hI0:Inv X' [] (capSt own.length cap σ) (upd H2 s2.heap.objs.size (.lst [])) {s2 with heap:=h₁,toks:=s2.toks+([]:List (Str×Value)).length}:=by
  subst hX
  refine⟨hOk,rfl,I.bare,Un.laid old (Nat.le_refl _) (hfree _ (Nat.le_refl _)),⟨_,hns₁,fun i x v e1 e2 e3=>?_⟩,fun x c e=>?_,?_,fun x c e=>?_,fun p hp=>absurd (show p∈([]:List (Addr×Obj))from hp) (by simp),?_,?_⟩
  ·obtain⟨p,hp,rfl,hσ⟩:=capSt_get rfl e1 e2
   obtain⟨c1,c2,c3⟩:=S.cap p hp
   obtain⟨m,hn,hl⟩:=I.loc
   obtain⟨u,r,l⟩:=hl p.2 p.1 v c1 hσ (.inr (.inl c3))
   refine⟨u,r,.inr ⟨.inl (lookup_relabel_free I.ok.kind c2 c3),?_⟩⟩
   obtain⟨c,hcl⟩:=S.has _ c2
   refine⟨c,hcl,?_⟩
   rcases l with ⟨k,_⟩|⟨_,c',e,z⟩
   ·have k':X.env.scope.names.lookup p.1=some .local:=k
    rw [c3]at k';cases k'
   ·have:=S.sub _ _ hcl
    rw [e]at this;cases this
    obtain⟨o,ho,hd⟩:=z
    exact⟨o,old _ _ ho,hd⟩
  ·obtain⟨v,o,ho,hd⟩:=I.cell x c (S.sub x c e)
   exact⟨v,o,old _ _ ho,hd⟩
  ·show upd H2 s2.heap.objs.size (.lst []) G2.objs.size=none
   rw [upd_ne (Ne.symm hDC)]
   exact hfree _ hCle
  ·have e':=S.sub x c e
   obtain⟨v,o,ho,hd⟩:=I.cell x c e'
   rw [upd_ne (below c (Heap.lt_size ho)).2]
   exact I.freeC x c e'
  ·exact I.hok.laid old (Nat.le_refl _) ⟨Nat.zero_le _,[],_,.nil,hacc⟩
  ·show(capSt own.length cap σ).length=(capN own cap).length
   unfold capSt capN
   simp
 have hP:X'.prog=X.prog:=by subst hX;rfl
 have hw:X'.w=X.w:=by subst hX;rfl
 have hK:X'.K=X.K:=by subst hX;rfl
 have hA:X'.A=X.A:=by subst hX;rfl
 have hcalm:X'.calm=true:=by subst hX;exact hc
 have hxe:X'.xe=fun _ _=>False:=by subst hX;rfl
 have henv:X'.env=compEnvC scope cl G2.objs.size X.env:=by subst hX;rfl
 have hbase:∀{σ' H' s'},Inv X' [] σ' H' s'->Un (frs X.stack) fp H2 H' s2.heap s'.heap/\s'.os=s2.os:=fun{σ' H' s'} J=>by subst hX;exact⟨J.base,J.os⟩
 have hg':PG X' tg g:=by subst hX;exact hg _ _ _ _
 have he':PE X' elt te:=by subst hX;exact he _ _ _ _
 have htc':PT X' ci tc:=by subst hX;exact htc _ _ _ _
 have stat:∀{H':Hp},(∀b∈fp,H' b=none)->∀b∈fp,FpOk X' [] H' b:=fun{H'} hn b hb=>by
  subst hX
  refine⟨hn b hb,(below b (hfps b hb)).1,fun z=>?_,.inl hb,fun x c e=>(hf b hb).2.2.2.2.1 x c (S.sub x c e),fun p hp=>absurd (show p∈([]:List (Addr×Obj))from hp) (by simp)⟩
  rcases List.mem_cons.mp (I.stkSub b z)with z|z
  ·exact(hf b hb).2.1 z
  ·exact(hf b hb).2.2.1 z
 have back:∀{σ' H' s'},Inv X' [] σ' H' s'->Q (.ref s2.heap.objs.size) H'->RR (.ref s2.heap.objs.size) G2.objs.size (.ok .next) s':=fun{σ' H' s'} J q=>by
  obtain⟨u,ho⟩:=hbase J
  have hcf:∀b∈fp,(b∈X.ex∨X.s₀.heap.objs.size<=b)/\b≠X.env.locals/\(∀x c,X.env.cells.lookup x=some c->c≠b)/\∀p∈X.pn++pins,p.1≠b:=fun b hb=>by
   obtain⟨f0,f1,f2,f3,f4,f5⟩:=hf b hb
   exact⟨f3,f1,f4,f5⟩
  have hCn:H' G2.objs.size=none:=by have:=J.free;rw [henv]at this;exact this
  have hok':HOk X.prog X.w H' s'.heap:=by have:=J.hok;rw [hP,hw]at this;exact this
  obtain⟨m,hm,_⟩:=J.loc
  rw [henv]at hm
  refine hRR _ H' s' m hCle hm hCn (I.call' ho u hok' J.bare hcf) (fun h' hs=>?_) q
  have kn:∀b o,s2.heap.get? b=some o->h'.get? b=s'.heap.get? b:=fun b o e=>hs.2 b (below b (Heap.lt_size e)).1
  refine I.call' (s':={s' with heap:=h'}) ho ⟨fun b o e n hb hx=>(kn b o e).trans (u.keep b o e n hb hx),fun b o e n hb hx=>?_,u.free,fun b o e hx=>?_,u.tups,u.frzs,u.tbls⟩ (fun b ob e=>?_) J.bare hcf
  ·obtain⟨sl,e1⟩:=u.slot b o e n hb hx
   exact⟨sl,(kn b o e).trans e1⟩
  ·obtain⟨o',e1⟩:=u.there b o e hx
   exact⟨o',(kn b o e).trans e1⟩
  ·refine(hok' b ob e).stay (fun c w' hc q=>(hs.2 c ?_).trans q) (fun _ q=>q) fun _ _ q=>q
   rintro rfl
   rcases hc with rfl|hc
   ·rw [hCn]at e;cases e
   ·rw [hCn]at hc;cases hc
 have loop:∀s₃:Shared,s₃={s2 with heap:=h₁,toks:=s2.toks+([]:List (Str×Value)).length}->
   codeAny (model X.prog X.w) X.A (.compLoop (.ListComp elt [⟨tg,iter,[ci],0⟩] scope pos) 0 (.ref it) (.ref s2.heap.objs.size) (compEnvC scope cl G2.objs.size X.env))
    (RR (.ref s2.heap.objs.size) G2.objs.size) s₃:=by
  rintro s₃ rfl
  obtain⟨m0,w0⟩:=w0
  refine compLoopF_any (fun n s'=>∃i σ' H',Inv X' [] σ' H' s'/\tn i s'.heap/\(∀b∈fp,H' b=none)/\W i n σ' H') ?_ m0
   ⟨0,_,_,hI0,T.keep _ _ _ st fun b hb o e=>old b o e,fun b hb=>?_,w0⟩
  ·rintro n s3 ⟨i,σ3,H3,I3,st3,fr3,w3⟩
   rcases turn i n σ3 H3 w3 with ⟨stop,qn⟩|⟨go,step⟩
   ·have d:=T.done X' hP hw hK hcalm i [] s3 σ3 H3 (fun _ _=>False) I3 (stat fr3) st3 stop
    rw [hA]at d
    refine thn d fun r s4 ⟨hr,I4⟩=>?_
    subst hr
    exact back I4 qn
   ·have d:=T.item X' hP hw hK hcalm i [] s3 σ3 H3 (fun _ _=>False) I3 (stat fr3) st3 go
    rw [hA]at d
    refine thn d fun r s4 ⟨u,hr,h4⟩=>?_
    subst hr
    refine thn h4 fun _ s5 ⟨x,H5,I5,r5,y5,st5,fr5⟩=>?_
    have I5':=I5.pinned (stat fr5) (T.obj _ _ st5)
    have d2:=hg' _ s5 σ3 H5 x u _ I5' r5 (step x H5 y5)
    rw [hP,hw,hA,hxe,henv]at d2
    refine thn d2 fun _ s6 ⟨σ6,H6,I6,q6⟩=>?_
    have dt:=htc' _ s6 σ6 H6 _ I6 q6
    rw [hP,hw,hA,hxe,henv]at dt
    refine thn dt fun okb s6' ⟨H6',I6',q6'⟩=>?_
    cases okb with
    |false=>
     obtain⟨m',hm,w7⟩:=q6'
     refine⟨m',hm,i+1,σ6,H6',I6'.unpinned,T.keep _ _ _ st5 fun b hb o e=>(I6'.pin (b,o) (List.mem_append_right _ (List.mem_append_right _ (mem_pinsAt hb e)))).1,fun b hb=>?_,w7⟩
     obtain⟨o,e,d⟩:=T.obj _ _ st5 b hb
     exact(I6'.pin (b,o) (List.mem_append_right _ (List.mem_append_right _ (mem_pinsAt hb e)))).2.1
    |true=>
    have d3:=he' _ s6' σ6 H6' _ I6' q6'
    rw [hP,hw,hA,hxe,henv]at d3
    refine thn d3 fun y7 s7 ⟨v7,H7,I7,r7,ys,e7,l7,m',hm,w7⟩=>?_
    have d4:=mt_append (X:=X') _ s7 σ6 H7 (.ref s2.heap.objs.size) [v7] (.ref s2.heap.objs.size) [y7] (fun _ H8=>W (i+1) m' σ6 H8) I7 rfl (.cons r7 .nil) ⟨_,ys,v7,rfl,rfl,e7,l7,w7⟩
    rw [hP,hw,hA,hxe]at d4
    refine thn d4 fun _ s8 ⟨v8,H8,I8,_,w8⟩=>?_
    refine⟨m',hm,i+1,σ6,H8,I8.unpinned,T.keep _ _ _ st5 fun b hb o e=>(I8.pin (b,o) (List.mem_append_right _ (List.mem_append_right _ (mem_pinsAt hb e)))).1,fun b hb=>?_,w8⟩
    obtain⟨o,e,d⟩:=T.obj _ _ st5 b hb
    exact(I8.pin (b,o) (List.mem_append_right _ (List.mem_append_right _ (mem_pinsAt hb e)))).2.1
  ·rw [upd_ne (below b (hfps b hb)).2]
   exact(hf b hb).1
 exact codeAny_compStart_list (loop _ rfl) (T.self _ 0 _ _ _ (T.keep _ _ _ st fun b hb o e=>old b o e) (loop _ rfl))
theorem pe_compF {elt iter tg ci:Expr} {scope:Scope} {own:List Str} {cap:List (Str×Nat)} {cl:List (Str×Addr)} {pos:Pos} {wi:TI} {g:TG} {tc:TT} {te:TE}
  (S:CompScope X scope cap cl) (hc:X.calm=true) (hi:PI X tg iter wi)
  (hg:∀C s2 H2 fp,PG (cxComp X (capN own cap) scope cl C s2 H2 fp) tg g) (htc:∀C s2 H2 fp,PT (cxComp X (capN own cap) scope cl C s2 H2 fp) ci tc) (he:∀C s2 H2 fp,PE (cxComp X (capN own cap) scope cl C s2 H2 fp) elt te)
  (hs:∀x,foldedSetIterable iter X.env x=pure x:=by intro _;rfl):PE X (.ListComp elt [⟨tg,iter,[ci],0⟩] scope pos) (tCompF own.length cap wi g tc te):=by
 intro pins s σ H Q I h
 rw [eval_ListComp]
 refine wpAny_comprehension_free (use:=none) rfl hs S.clos S.kind S.names (thn (hi pins s σ H _ I h) fun v s1 h1=>thn h1 fun itv s2 h2=>?_)
 obtain⟨it,fp,tn,J,H2,e,I2,T,st2,f2,rd⟩:=h2
 subst e
 obtain⟨W,w0,turn⟩:=rd _ (I2.hok.fresh (Nat.le_refl _))
 exact comp_blockF (RR:=fun acc C=>compPost (model X.prog X.w) X.A X.xe none (EP X pins σ Q) acc C) S hc I2 T st2 f2 hg htc he W w0 turn
  fun C H' s' m _ hm _ _ hback q=>⟨m,hm,fun h' hs'=>⟨.ref s2.heap.objs.size,H',hback h' hs',rfl,q⟩⟩
theorem ps_setCompF {i:Nat} {x:Str} {elt iter tg ci:Expr} {scope:Scope} {own:List Str} {cap:List (Str×Nat)} {cl:List (Str×Addr)} {pos spos py:Pos} {wi:TI} {g:TG} {tc:TT} {te:TE}
  (hN:X.N.Nodup) (hi':X.N[i]? =some x) (hx:Loc X.env.scope x) (S:CompScope X scope cap cl) (hc:X.calm=true) (hi:PI X tg iter wi)
  (hg:∀C s2 H2 fp,PG (cxComp X (capN own cap) scope cl C s2 H2 fp) tg g) (htc:∀C s2 H2 fp,PT (cxComp X (capN own cap) scope cl C s2 H2 fp) ci tc) (he:∀C s2 H2 fp,PE (cxComp X (capN own cap) scope cl C s2 H2 fp) elt te)
  (hsw:swapsWith (.ListComp elt [⟨tg,iter,[ci],0⟩] scope pos) (some (.Name x py)) spos.line X.env=pure true:=by rfl)
  (hs:∀x,foldedSetIterable iter X.env x=pure x:=by intro _;rfl) (hf:X.fn x=true∨X.env.scope.names.lookup x=some .local:=by first|exact .inl rfl|exact .inr rfl|assumption):
  PS X (.Assign [.Name x py] (.ListComp elt [⟨tg,iter,[ci],0⟩] scope pos) spos) (tAsg (tCompF own.length cap wi g tc te) (gName i)):=by
 intro pins s σ H D I h
 rw [exec_Assign_Name_used _ _ _ _ hsw]
 refine wpAny_bind (wpAny_standAt (wpAny_bind ?_))
 show wpAny _ X.A (do let _<-comprehension (.ListComp elt [⟨tg,iter,[ci],0⟩] scope pos) scope X.env _ (newList []) false (eval iter X.env) (some (assign (.Name x py) X.env))) _ _ s
 refine wpAny_bind (wpAny_mono (wpAny_comprehension_free (use:=some (assign (.Name x py) X.env)) (Q:=fun _ s'=>SP X pins D .next s') rfl hs S.clos S.kind S.names
  (thn (hi pins s σ H _ I h) fun v s1 h1=>thn h1 fun itv s2 h2=>?_)) (fun _ s' hq=>wpAny_pure (wpAny_pure hq)) fun _ _ e=>e)
 obtain⟨it,fp,tn,J,H2,e,I2,T,st2,f2,rd⟩:=h2
 subst e
 obtain⟨W,w0,turn⟩:=rd _ (I2.hok.fresh (Nat.le_refl _))
 refine comp_blockF (Q:=fun x H1=>gName i x σ H1 D.nx) (RR:=fun acc C=>compPost (model X.prog X.w) X.A X.xe (some (assign (.Name x py) X.env)) (fun _ s'=>SP X pins D .next s') acc C) S hc I2 T st2 f2 hg htc he W w0 turn
  fun C H' s' m hCle hm hCn I' hback q=>?_
 refine wpAny_assign_Name (store_ok2 (v:= .ref s2.heap.objs.size) I' hN hi' hx rfl (fun s'' I'' ⟨a,hsa,ha⟩=>?_) hf)
 have hCa:C≠a:=by
  rcases ha with z|z
  ·rw [z]
   exact Ne.symm (lt_le_ne I2.lt hCle)
  ·obtain⟨v,q'⟩:=I2.cell x a z
   exact Ne.symm (lt_le_ne q'.lt hCle)
 refine⟨m,hm.sameBut hsa hCa,fun h' hs'=>⟨_,H',?_,q⟩⟩
 have hC0:X.s₀.heap.objs.size<=C:=Nat.le_trans I2.sz hCle
 have hnp:∀p∈X.pn++pins,p.1≠C:=fun p hp=>lt_le_ne (Heap.lt_size (I2.pin p hp).1) hCle
 have hcl:∀y c,X.env.cells.lookup y=some c->c≠C:=fun y c e=>by
  obtain⟨v,q'⟩:=I2.cell y c e
  exact lt_le_ne q'.lt hCle
 have hL:C≠X.env.locals:=Ne.symm (lt_le_ne I2.lt hCle)
 exact I''.turned (t':=s''.toks) (it:=C) (fun b o hb e=>(hs'.2 b hb).trans e) hCn hL (.inr hC0) hcl hnp
end
def Ite (K:PySem.W.Frag) (a:Addr):It:=
 ⟨fun i H=>∃xs x,SqL K H a xs/\xs[i]? =some x,fun i H y H'=>∃p x,H p=none/\y= .ref p/\H'=upd H p (.tup [.int i,x])/\∀xs,SqL K H a xs->xs[i]? =some x,fun i H=>∃xs,SqL K H a xs/\xs.length<=i⟩
theorem turn_enum {P:Program} {w:World} {K:PySem.W.Frag} {es:List Expr} {k:Nat} {pos:Pos} (a e it:Addr) (hei:e≠it):
  Turn P w K (.Tuple es k pos) (Ite K a) [e,it] e (fun i h=>(∃old,IsEnum h e it ((i:Nat):Int) old)/\h.IsListIter it a i) where
 mem:=by simp
 obj:=fun i h st b hb=>by
  obtain⟨⟨old,he⟩,⟨o,e1,c,d⟩⟩:=st
  rcases List.mem_cons.mp hb with rfl|hb
  ·exact⟨_,he,fun v z=>by
    have z':Data.fields _=Data.cell v:=z
    cases z'⟩
  ·have e2:b=it:=by simpa using hb
   subst e2
   exact⟨o,e1,fun v z=>by rw [d]at z;cases z⟩
 keep:=fun i h h' st k=>by
  obtain⟨⟨old,he⟩,hit⟩:=st
  exact⟨⟨old,k e (by simp) _ he⟩,hit.at fun o e'=>k it (by simp) o e'⟩
 item:=by
  intro X hP hw hK hc i pins s σ H E I hf st hg
  subst hP hw hK
  obtain⟨⟨old,he⟩,hit⟩:=st
  obtain⟨xs,x,hq,hx⟩:=hg
  obtain⟨its,rv,p,hz⟩:=I.list hq
  obtain⟨u,hu,ru⟩:=rv.get hx
  refine wpAny_pyNext_enum_item he hit p.isList (x:=u) (by simpa using hu) hei fun h' heo hit' ht hz' hk=>?_
  refine⟨_,rfl,wpAny_letOwnedTupleGo_enum heo fun h'' he'' hs''=>?_⟩
  have hT:H s.heap.objs.size=none:=I.hok.fresh (Nat.le_refl _)
  have heT:e≠s.heap.objs.size:=Nat.ne_of_lt (Heap.lt_size he)
  have hfe:=hf e (by simp)
  have hfi:=hf it (by simp)
  have keep:∀b o,b≠e->b≠it->s.heap.get? b=some o->h''.get? b=some o:=fun b o h1 h2 h3=>(hs''.2 b h1).trans (hk b o h1 h2 h3)
  have keepc:∀b o,b∉[e,it]->s.heap.get? b=some o->h''.get? b=some o:=fun b o h1 h3=>keep b o (fun z=>h1 (by simp [z])) (fun z=>h1 (by simp [z])) h3
  have tup:=(hs''.2 _ (Ne.symm heT)).trans ht
  have nf:∀b u,H b=some u->b≠e/\b≠it:=fun b u q=>⟨fun z=>(by rw [z,hfe.1]at q;cases q),fun z=>(by rw [z,hfi.1]at q;cases q)⟩
  have nT:∀b u,H b=some u->b≠s.heap.objs.size:=fun b u q=>ne_of_none q hT
  have iti:it≠s.heap.objs.size:=by obtain⟨o,e1,_⟩:=hit;exact Nat.ne_of_lt (Heap.lt_size e1)
  refine⟨.ref s.heap.objs.size,upd H s.heap.objs.size (.tup [.int i,x]),?_,rfl,⟨_,x,hT,rfl,rfl,fun ys hy=>by rw [I.list_inj hy hq];exact hx⟩,⟨⟨_,he''⟩,?_⟩,fun b hb=>?_⟩
  ·show Inv X pins σ (upd H s.heap.objs.size (.tup [.int i,x])) {s with heap:=h'',gens:=s.gens,drawn:=s.drawn,toks:=s.toks+1}
   refine Inv.step (s:=s) (h':=h'') (t':=s.toks+1) (g':=s.gens) (d':=s.drawn) (ch:=[e,it]) I (fun b hb=>?_) (fun b o _ _ hc' q _=>keepc b o hc' q) (fun b o _ _ hc' q _=>⟨o.slots,keepc b o hc' q⟩) (fun b o _ q n=>by rw [upd_ne (Nat.ne_of_lt (Heap.lt_size q))];exact n)
    (fun b o hc' q=>⟨o,keepc b o hc' q⟩) (fun b ys q=>by rw [upd_ne (nT b _ q)];exact q) (fun b o' ys q=>by rw [upd_ne (nT b _ q)];exact q) (fun b ps q=>⟨#[],by rw [upd_ne (nT b _ q),q];simp⟩) (fun m hm=>?_) (fun b ob q=>?_) I.bare
   ·rcases List.mem_cons.mp hb with rfl|hb
    ·exact⟨hfe.2.2.2.1,hfe.2.1,hfe.2.2.2.2.1,hfe.2.2.2.2.2⟩
    ·have e2:b=it:=by simpa using hb
     subst e2
     exact⟨hfi.2.2.2.1,hfi.2.1,hfi.2.2.2.2.1,hfi.2.2.2.2.2⟩
   ·obtain⟨o,es,ep,ho,r⟩:=hm
    exact⟨o,es,ep,keep _ o (Ne.symm hfe.2.1) (Ne.symm hfi.2.1) ho,r⟩
   ·by_cases hb:b=s.heap.objs.size
    ·subst hb
     rw [upd_same]at q
     cases q
     exact⟨show 2<=sizeLine by decide,[.int i s.toks,u],.cons ⟨_,rfl⟩ (.cons ru .nil),⟨_,tup,rfl,_,rfl⟩⟩
    ·rw [upd_ne hb]at q
     refine(I.hok b ob q).stay (fun c w' hc' q'=>?_) (fun c q'=>by rw [upd_ne (nT c _ q')];exact q') (fun c ys q'=>by rw [upd_ne (nT c _ q')];exact q')
     have hne:c≠e/\c≠it:=by
      rcases hc' with rfl|hc'
      ·exact nf _ _ q
      ·exact nf _ _ hc'
     exact keep c w' hne.1 hne.2 q'
  ·exact hit'.at fun o e'=>(hs''.2 it (Ne.symm hei)).trans e'
  ·rcases List.mem_cons.mp hb with rfl|hb
   ·rw [upd_ne heT];exact hfe.1
   ·have e2:b=it:=by simpa using hb
    subst e2
    rw [upd_ne iti];exact hfi.1
 done:=by
  intro X hP hw hK hc i pins s σ H E I hf st hg
  subst hP hw hK
  obtain⟨⟨old,he⟩,hit⟩:=st
  obtain⟨xs,hq,hx⟩:=hg
  obtain⟨its,rv,p,hz⟩:=I.list hq
  obtain⟨f0,f1,f2,f3,f4,f5⟩:=hf it (by simp)
  have hl:=rv.length
  exact wpAny_pyNext_enum_end (I.ok.hd hc) he hit p.isList (by simp;omega) fun h' eb=>⟨rfl,I.turned (t':=s.toks) (fun b o hb q=>eb b o hb q) f0 f1 f3 f4 f5⟩
 self:=fun _ _ _ _ _ st h=>by
  obtain⟨⟨old,he⟩,hit⟩:=st
  exact wpAny_pyIter_enum he h
section
variable {X:Cx}
def iEnum (K:PySem.W.Frag) (ta:TA):TI:=fun σ H R=>ta σ H fun vs H1=>∃a,vs=[.ref a]/\(∃xs,SqL K H1 a xs)/\R (Ite K a) H1
theorem pi_enum {es:List Expr} {k:Nat} {pos':Pos} {a:Expr} {ta:TA} {p pos:Pos} (hg:Gl X "enumerate") (hm:X.mg "enumerate"=none) (ha:PA X [a] ta) (hs:starEach [a] X.env=[(false,eval a X.env)]:=by rfl):
  PI X (.Tuple es k pos') (.Call (.Name "enumerate" p) [a] [] pos) (iEnum X.K ta):=by
 intro pins s σ H R I h
 refine Call_ (ld_blt I hg hm boot_enumerate (PyProof.Rows.callWith_type1 (thn (ha pos pins s σ H _ I h) fun us s1 ⟨vs,H1,I1,r1,q1⟩=>?_) hs rfl))
 obtain⟨l,e,⟨xs,hq⟩,q⟩:=q1
 subst e
 cases r1 with
 |cons r rr=>
  cases rr
  cases r
  obtain⟨its,rv,pl,hz⟩:=I1.list hq
  refine call_enumerate_list pl.isList fun h' he hit hz' hk=>wpAny_pyIter_enum he ?_
  have I2:Inv X pins σ H1 {s1 with heap:=h'}:=I1.kept (t':=s1.toks) fun b o e=>hk b o e
  have hne:s1.heap.objs.size+1≠s1.heap.objs.size:=Nat.succ_ne_self _
  refine⟨s1.heap.objs.size+1,[s1.heap.objs.size+1,s1.heap.objs.size],_,_,H1,rfl,I2,turn_enum l _ _ hne,⟨⟨_,he⟩,hit⟩,fun b hb=>?_,q⟩
  rcases List.mem_cons.mp hb with rfl|hb
  ·exact I1.fpOk (Nat.le_succ _) (I1.hok.fresh (Nat.le_succ _))
  ·have e2:b=s1.heap.objs.size:=by simpa using hb
   subst e2
   exact I1.fpOk (Nat.le_refl _) (I1.hok.fresh (Nat.le_refl _))
end
abbrev gPair (K:PySem.W.Frag) (ni nx:Nat):TG:=gTup K 2 (gCons (gName ni) (gCons (gName nx) gNil))
theorem for_enum {K:PySem.W.Frag} {a:Addr} {xs:List V} {ni nx:Nat} {tb:TS} {D:Ends} {σ:St} {H:Hp} (Pv:Nat->St->Hp->Prop) (h0:Pv 0 σ H) (hl:∀i σ H,i<=xs.length->Pv i σ H->SqL K H a xs)
  (hs:∀i x σ H p,xs[i]? =some x->Pv i σ H->H p=none->tb {D with nx:=Pv (i+1),ct:=Pv (i+1),bk:=D.nx} ((σ.set ni (some (.int i))).set nx (some x)) (upd H p (.tup [.int i,x]))) (hd:∀σ H,Pv xs.length σ H->D.nx σ H):
  ∃W:Nat->Nat->St->Hp->Prop,(∃m,W 0 m σ H)/\∀i m σ H,W i m σ H->
   ((Ite K a).stop i H/\D.nx σ H)∨((Ite K a).go i H/\∃N:St->Hp->Prop,(∀σ' H',N σ' H'->∃m',m'<m/\W (i+1) m' σ' H')/\∀x H',(Ite K a).yld i H x H'->gPair K ni nx x σ H' fun σ2 H2=>tb {D with nx:=N,ct:=N,bk:=D.nx} σ2 H2):=by
 refine⟨fun i m σ H=>m=xs.length-i/\i<=xs.length/\Pv i σ H,⟨xs.length,by simp,Nat.zero_le _,h0⟩,?_⟩
 rintro i m σ H ⟨rfl,hi,p⟩
 have q:=hl i σ H hi p
 by_cases hlt:i<xs.length
 ·refine .inr ⟨⟨xs,xs[i],q,by simp [hlt]⟩,Pv (i+1),fun σ' H' p'=>⟨xs.length-(i+1),by omega,rfl,hlt,p'⟩,fun y H' yl=>?_⟩
  obtain⟨pp,x,hn,rfl,rfl,hx⟩:=yl
  exact⟨pp,[.int i,x],rfl,SqT.of upd_same,rfl,_,_,rfl,_,_,rfl,rfl,hs i x σ _ pp (hx xs q) p hn⟩
 ·have e:i=xs.length:=by omega
  subst e
  exact .inl ⟨⟨xs,q,Nat.le_refl _⟩,hd σ H p⟩
section
variable {X:Cx}
theorem call_isinst:CallR X (.builtin "isinstance") (fun xs H Q=>∃x n t b,xs=[x,.ty n]/\TyOf X.K H x t/\PySem.W.kitOne X.K t (.type n)=some b/\Q (.bl b) H):=by
 intro pins s σ H xs us Q I r h
 obtain⟨x,n,t,b,rfl,ty,e,q⟩:=h
 obtain⟨u,w',rfl,ru,rw'⟩:=vals2 r
 cases rw'
 exact isinst_ok I ru ty e fun tk=>⟨.bl b,H,I.tok tk,rfl,q⟩
end
def eqVs:List V->List V->Bool
 | [],[]=>true
 |x::l,y::m=>eqV x y && eqVs l m
 |_,_=>false
theorem eqV_refl {x:V} (h:flatV x=true):eqV x x=true:=by
 cases x<;>first|rfl|exact beq_self_eq_true _|(exact absurd (show false=true from h) Bool.false_ne_true)
theorem eqVs_refl:∀{l:List V},l.all flatV=true->eqVs l l=true
 | [],_=>rfl
 |x::l,h=>by
  rw [List.all_cons,Bool.and_eq_true]at h
  show(eqV x x && eqVs l l)=true
  rw [eqV_refl h.1,eqVs_refl h.2]
  rfl
theorem all_range_succ (e:Nat->Bool) (n:Nat):(List.range (n+1)).all e=(e 0 && (List.range n).all fun j=>e (j+1)):=by
 rw [List.range_succ_eq_map,List.all_cons,List.all_map]
 rfl
theorem eqVs_range:∀(l m:List V) (e:Nat->Bool),(∀j (h1:j<l.length) (h2:j<m.length),e j=eqV l[j] m[j])->
  ((List.range (min l.length m.length)).all e && l.length==m.length)=eqVs l m
 | [],[],_,_=>rfl
 | [],_::_,_,_=>by simp [eqVs]
 |_::_,[],_,_=>by simp [eqVs]
 |x::l,y::m,e,h=>by
  have ih:=eqVs_range l m (fun j=>e (j+1)) fun j h1 h2=>h (j+1) (by simpa using h1) (by simpa using h2)
  have h0:=h 0 (by simp) (by simp)
  have hmin:min (x::l).length (y::m).length=min l.length m.length+1:=by
   rw [List.length_cons,List.length_cons]
   omega
  rw [hmin,all_range_succ,h0]
  show(eqV x y && _ && (l.length+1==m.length+1))=(eqV x y && eqVs l m)
  rw [<-ih,Bool.and_assoc]
  congr 2
  rw [Bool.eq_iff_iff]
  simp
inductive F1 where
 |fl (x:V)
 |tp (l:List V)
def Den1 (K:PySem.W.Frag) (H:Hp) (v:V):F1->Prop
 | .fl x=>v=x/\flatV x=true
 | .tp l=>∃a,v= .ref a/\SqT K H a l/\l.all flatV=true
def F1.eq:F1->F1->Bool
 | .fl x,.fl y=>eqV x y
 | .tp l,.tp m=>eqVs l m
 |_,_=>false
def eqFs:List F1->List F1->Bool
 | [],[]=>true
 |x::l,y::m=>x.eq y && eqFs l m
 |_,_=>false
theorem eqFs_range:∀(l m:List F1) (e:Nat->Bool),(∀j (h1:j<l.length) (h2:j<m.length),e j=l[j].eq m[j])->
  ((List.range (min l.length m.length)).all e && l.length==m.length)=eqFs l m
 | [],[],_,_=>rfl
 | [],_::_,_,_=>by simp [eqFs]
 |_::_,[],_,_=>by simp [eqFs]
 |x::l,y::m,e,h=>by
  have ih:=eqFs_range l m (fun j=>e (j+1)) fun j h1 h2=>h (j+1) (by simpa using h1) (by simpa using h2)
  have h0:=h 0 (by simp) (by simp)
  have hmin:min (x::l).length (y::m).length=min l.length m.length+1:=by
   rw [List.length_cons,List.length_cons]
   omega
  rw [hmin,all_range_succ,h0]
  show(x.eq y && _ && (l.length+1==m.length+1))=(x.eq y && eqFs l m)
  rw [<-ih,Bool.and_assoc]
  congr 2
  rw [Bool.eq_iff_iff]
  simp
theorem Paired.at {α β:Type} {F:α->β->Prop}:∀{l₁:List α} {l₂:List β},Paired F l₁ l₂->∀j (h1:j<l₁.length) (h2:j<l₂.length),F l₁[j] l₂[j]
 |_,_,.nil,j,h1,_=>absurd h1 (Nat.not_lt_zero j)
 |_,_,.cons h _,0,_,_=>h
 |_,_,.cons _ t,j+1,h1,h2=>Paired.at t j (by simpa using h1) (by simpa using h2)
section
variable {X:Cx} {pins:List (Addr×Obj)} {σ:St} {H:Hp} {s:Shared} {A:Around}
theorem eqAt_tup {a b:Addr} {l m:List V} (I:Inv X pins σ H s) (ha:SqT X.K H a l) (hb:SqT X.K H b m) (fl:l.all flatV=true) (fm:m.all flatV=true) (hu:A.units<cLine):SeqAt.EqAt A s (.ref a) (.ref b) (eqVs l m):=by
 by_cases hab:a=b
 ·subst hab
  rw [I.tuple_inj hb ha,eqVs_refl fl]
  exact SeqAt.EqAt.same _
 ·obtain⟨its,r1,p1,_⟩:=I.tuple ha
  obtain⟨its2,r2,p2,_⟩:=I.tuple hb
  have h1:=r1.length
  have h2:=r2.length
  have key:=SeqAt.RcAt.tuples (A:=A) (s:=s) (l:=a) (b:=b) (items:=its.toArray) (items2:=its2.toArray) (e:=fun j=>eqV (l.getD j .non) (m.getD j .non)) p1 p2 hu fun j g1 g2=>by
   have g1':j<l.length:=by rw [h1];simpa using g1
   have g2':j<m.length:=by rw [h2];simpa using g2
   have e1:l.getD j .non=l[j]:=by simp [g1']
   have e2:m.getD j .non=m[j]:=by simp [g2']
   rw [e1,e2]
   have w1:=Paired.at r1 j g1' (by simpa using g1)
   have w2:=Paired.at r2 j g2' (by simpa using g2)
   exact eqAt_V (by simpa using w1) (by simpa using w2) (List.all_eq_true.mp fl _ (List.getElem_mem g1')) (List.all_eq_true.mp fm _ (List.getElem_mem g2'))
  have e3:((List.range (min its.toArray.size its2.toArray.size)).all (fun j=>eqV (l.getD j .non) (m.getD j .non)) && its.toArray.size==its2.toArray.size)=eqVs l m:=by
   rw [List.size_toArray,List.size_toArray, <-h1, <-h2]
   exact eqVs_range l m _ fun j g1 g2=>by simp [g1,g2]
  rw [e3]at key
  exact SeqAt.EqAt.of_refs hab key
theorem eqAt_1 {v v':V} {u u':Value} {f f':F1} (I:Inv X pins σ H s) (r:RelV v u) (r':RelV v' u') (d:Den1 X.K H v f) (d':Den1 X.K H v' f') (hu:A.units<cLine):SeqAt.EqAt A s u u' (f.eq f'):=by
 cases f with
 |fl x=>
  obtain⟨rfl,fx⟩:=d
  cases f' with
  |fl y=>
   obtain⟨rfl,fy⟩:=d'
   exact eqAt_V r r' fx fy
  |tp m=>
   obtain⟨b,rfl,hb,fm⟩:=d'
   cases r'
   obtain⟨its2,r2,p2,_⟩:=I.tuple hb
   cases v with
   |non=>cases r;exact SeqAt.EqAt.none_tuple p2 hu
   |bl c=>cases r;exact SeqAt.EqAt.bool_tuple c p2 hu
   |int c=>obtain⟨t,rfl⟩:=r;exact SeqAt.EqAt.int_tuple c t p2 hu
   |str c=>obtain⟨t,rfl⟩:=r;exact SeqAt.EqAt.str_tuple c t p2 hu
   |_=>exact absurd (show false=true from fx) Bool.false_ne_true
 |tp l=>
  obtain⟨a,rfl,ha,fl⟩:=d
  cases r
  cases f' with
  |fl y=>
   obtain⟨rfl,fy⟩:=d'
   obtain⟨its,r1,p1,_⟩:=I.tuple ha
   cases v' with
   |non=>cases r';exact SeqAt.EqAt.tuple_none p1 hu
   |bl c=>cases r';exact SeqAt.EqAt.tuple_bool c p1 hu
   |int c=>obtain⟨t,rfl⟩:=r';exact SeqAt.EqAt.tuple_int c t p1 hu
   |str c=>obtain⟨t,rfl⟩:=r';exact SeqAt.EqAt.tuple_str c t p1 hu
   |_=>exact absurd (show false=true from fy) Bool.false_ne_true
  |tp m=>
   obtain⟨b,rfl,hb,fm⟩:=d'
   cases r'
   exact eqAt_tup I ha hb fl fm hu
abbrev Den1s (K:PySem.W.Frag) (H:Hp):List V->List F1->Prop:=Paired (Den1 K H)
theorem eq_items {xs ys:List V} {fs gs:List F1} {its its2:List Value} (I:Inv X pins σ H s) (r1:Vals xs its) (r2:Vals ys its2) (d1:Den1s X.K H xs fs) (d2:Den1s X.K H ys gs) (hu:A.units<cLine):
  ∃e:Nat->Bool,(∀j (h1:j<its.toArray.size) (h2:j<its2.toArray.size),SeqAt.EqAt A s its.toArray[j] its2.toArray[j] (e j))/\
   ((List.range (min its.toArray.size its2.toArray.size)).all e && its.toArray.size==its2.toArray.size)=eqFs fs gs:=by
 have h1:=r1.length
 have h2:=r2.length
 have k1:=Paired.length d1
 have k2:=Paired.length d2
 refine⟨fun j=>(fs.getD j (.tp [])).eq (gs.getD j (.tp [])),fun j g1 g2=>?_,?_⟩
 ·have g1':j<xs.length:=by rw [h1];simpa using g1
  have g2':j<ys.length:=by rw [h2];simpa using g2
  have e1:fs.getD j (.tp [])=fs[j]'(by omega):=by simp [show j<fs.length by omega]
  have e2:gs.getD j (.tp [])=gs[j]'(by omega):=by simp [show j<gs.length by omega]
  show SeqAt.EqAt A s its.toArray[j] its2.toArray[j] ((fs.getD j (.tp [])).eq (gs.getD j (.tp [])))
  rw [e1,e2]
  have w1:=Paired.at r1 j g1' (by simpa using g1)
  have w2:=Paired.at r2 j g2' (by simpa using g2)
  exact eqAt_1 I (by simpa using w1) (by simpa using w2) (Paired.at d1 j g1' (by omega)) (Paired.at d2 j g2' (by omega)) hu
 ·rw [List.size_toArray,List.size_toArray, <-h1, <-h2,k1,k2]
  exact eqFs_range fs gs _ fun j g1 g2=>by simp [g1,g2]
def SqB (K:PySem.W.Frag) (H:Hp) (a b:Addr) (xs ys:List V):Prop:=(SqT K H a xs/\SqT K H b ys)∨(SqL K H a xs/\SqL K H b ys)
def rEq2 (K:PySem.W.Frag) (neg:Bool):R2:=fun x y H Q=>∃a b xs ys fs gs,x= .ref a/\y= .ref b/\SqB K H a b xs ys/\Den1s K H xs fs/\Den1s K H ys gs/\Q (.bl (if neg then !eqFs fs gs else eqFs fs gs)) H
theorem op_eq2 (hu:X.A.units+1<cLine):OpR X (compareOp .Eq) (rEq2 X.K false):=by
 intro pins s σ H x y v u Q I rx ry h
 obtain⟨a,b,xs,ys,fs,gs,rfl,rfl,hq,d1,d2,q⟩:=h
 cases rx
 cases ry
 rcases hq with ⟨ha,hb⟩|⟨ha,hb⟩
 ·obtain⟨its,r1,p1,_⟩:=I.tuple ha
  obtain⟨its2,r2,p2,_⟩:=I.tuple hb
  obtain⟨e,he,ee⟩:=eq_items (A:=X.A.in1) I r1 r2 d1 d2 (by first|exact Nat.lt_of_succ_lt hu|exact hu)
  refine SeqAt.eq_tupleAt p1 p2 (Nat.lt_of_succ_lt hu) he ⟨.bl _,H,I,rfl,?_⟩
  rw [ee]
  exact q
 ·obtain⟨its,r1,p1,_⟩:=I.list ha
  obtain⟨its2,r2,p2,_⟩:=I.list hb
  obtain⟨e,he,ee⟩:=eq_items (A:=X.A.in1) I r1 r2 d1 d2 (by first|exact Nat.lt_of_succ_lt hu|exact hu)
  by_cases hz:its.toArray.size=its2.toArray.size
  ·refine SeqAt.eq_listAt p1.isList p2.isList hz (Nat.lt_of_succ_lt hu) he ⟨.bl _,H,I,rfl,?_⟩
   rw [<-hz,Nat.min_self,beq_self_eq_true,Bool.and_true]at ee
   rw [ee]
   exact q
  ·refine SeqAt.eq_list_lengthsAt p1.isList p2.isList (by simpa using hz) (Nat.lt_of_succ_lt hu) ⟨.bl _,H,I,rfl,?_⟩
   have hb':(its.toArray.size==its2.toArray.size)=false:=by simpa using hz
   rw [hb',Bool.and_false]at ee
   rw [ee]
   exact q
theorem op_ne2 (hu:X.A.units+1<cLine):OpR X (compareOp .NotEq) (rEq2 X.K true):=by
 intro pins s σ H x y v u Q I rx ry h
 obtain⟨a,b,xs,ys,fs,gs,rfl,rfl,hq,d1,d2,q⟩:=h
 cases rx
 cases ry
 rcases hq with ⟨ha,hb⟩|⟨ha,hb⟩
 ·obtain⟨its,r1,p1,_⟩:=I.tuple ha
  obtain⟨its2,r2,p2,_⟩:=I.tuple hb
  obtain⟨e,he,ee⟩:=eq_items (A:=X.A.in1) I r1 r2 d1 d2 (by first|exact Nat.lt_of_succ_lt hu|exact hu)
  refine SeqAt.RcNeAt.tuples p1 p2 (Nat.lt_of_succ_lt hu) he _ _ _ _ ⟨.bl _,H,I,rfl,?_⟩
  rw [ee]
  exact q
 ·obtain⟨its,r1,p1,_⟩:=I.list ha
  obtain⟨its2,r2,p2,_⟩:=I.list hb
  obtain⟨e,he,ee⟩:=eq_items (A:=X.A.in1) I r1 r2 d1 d2 (by first|exact Nat.lt_of_succ_lt hu|exact hu)
  by_cases hz:its.toArray.size=its2.toArray.size
  ·refine SeqAt.RcNeAt.lists p1.isList p2.isList hz (Nat.lt_of_succ_lt hu) he _ _ _ _ ⟨.bl _,H,I,rfl,?_⟩
   rw [<-hz,Nat.min_self,beq_self_eq_true,Bool.and_true]at ee
   rw [ee]
   exact q
  ·refine SeqAt.RcNeAt.lists_lengths p1.isList p2.isList (by simpa using hz) (Nat.lt_of_succ_lt hu) _ _ _ _ ⟨.bl _,H,I,rfl,?_⟩
   have hb':(its.toArray.size==its2.toArray.size)=false:=by simpa using hz
   rw [hb',Bool.and_false]at ee
   rw [<-ee]at q
   exact q
theorem den_ints {K:PySem.W.Frag} {H:Hp}:∀ns:List Int,Den1s K H (ns.map V.int) (ns.map fun n=>F1.fl (.int n))
 | []=> .nil
 |n::ns=> .cons ⟨rfl,rfl⟩ (den_ints ns)
theorem eqFs_ints:∀ns ms:List Int,eqFs (ns.map fun n=>F1.fl (.int n)) (ms.map fun n=>F1.fl (.int n))=decide (ns=ms)
 | [],[]=>rfl
 | [],_::_=>rfl
 |_::_,[]=>rfl
 |n::ns,m::ms=>by
  show((n==m) && eqFs _ _)=_
  rw [eqFs_ints ns ms,Bool.eq_iff_iff]
  simp
end
theorem clos_loop (env:Env):∀(names:List (Str×NameKind)) (acc:List (Str×Addr)),(∀y∈names,y.2= .free->∃c,env.cells.lookup y.1=some c)->(∀x c,acc.lookup x=some c->env.cells.lookup x=some c)->
  ∃cl,(forIn names acc (fun(x:Str×NameKind) (cs:List (Str×Addr))=>(if(x.2==NameKind.free)=true then(do let a<-cellOf env x.1;pure (ForInStep.yield ((x.1,a)::cs)):Sem _)else pure (ForInStep.yield cs))):Sem (List (Str×Addr)))=pure cl/\
   (∀x c,cl.lookup x=some c->env.cells.lookup x=some c)/\(∀x,(∃c,acc.lookup x=some c)∨(x,NameKind.free)∈names->∃c,cl.lookup x=some c)
 | [],acc,_,h2=>⟨acc,rfl,h2,fun x hx=>hx.elim id fun z=>(by cases z)⟩
 |(n,k)::r,acc,h1,h2=>by
  by_cases hk:k= .free
  ·subst hk
   obtain⟨c,hc⟩:=h1 (n,.free) List.mem_cons_self rfl
   obtain⟨cl,e,a,b⟩:=clos_loop env r ((n,c)::acc) (fun y hy=>h1 y (List.mem_cons_of_mem _ hy)) (fun x c' hx=>by
    cases hxn:x==n with
    |true=>
     simp only [List.lookup_cons,hxn]at hx
     have:x=n:=eq_of_beq hxn
     subst this
     cases hx
     exact hc
    |false=>
     simp only [List.lookup_cons,hxn]at hx
     exact h2 x c' hx)
   refine⟨cl,?_,a,fun x hx=>b x ?_⟩
   ·rw [<-e,List.forIn_cons]
    have ec:cellOf env n=pure c:=by unfold cellOf;rw [hc]
    simp only [beq_self_eq_true,if_true,ec]
    rfl
   ·rcases hx with ⟨c',hx⟩|hx
    ·refine .inl ?_
     cases hxn:x==n with
     |true=>exact⟨c,by simp only [List.lookup_cons,hxn]⟩
     |false=>exact⟨c',by simp only [List.lookup_cons,hxn];exact hx⟩
    ·rcases List.mem_cons.mp hx with z|z
     ·cases z
      exact .inl ⟨c,by simp [List.lookup_cons]⟩
     ·exact .inr z
  ·obtain⟨cl,e,a,b⟩:=clos_loop env r acc (fun y hy=>h1 y (List.mem_cons_of_mem _ hy)) h2
   refine⟨cl,?_,a,fun x hx=>b x ?_⟩
   ·rw [<-e,List.forIn_cons]
    have hb:(k==NameKind.free)=false:=by simpa using hk
    simp only [hb,Bool.false_eq_true,if_false]
    rfl
   ·rcases hx with hx|hx
    ·exact .inl hx
    ·rcases List.mem_cons.mp hx with z|z
     ·cases z
      exact absurd rfl hk
     ·exact .inr z
theorem comp_scope {X:Cx} {scope:Scope} {cap:List (Str×Nat)} (hcell:∀x,X.env.scope.names.lookup x=some .cell->∃c,X.env.cells.lookup x=some c) (kind:scope.kind= .function) (nocell:∀y∈scope.names,y.2≠ .cell)
  (names:∀y∈scope.names,y.2= .local->scope.names.lookup y.1=some .local) (free:∀y∈scope.names,y.2= .free->X.env.scope.names.lookup y.1=some .cell)
  (hcap:∀p∈cap,X.N[p.2]? =some p.1/\scope.names.lookup p.1=some .free/\X.env.scope.names.lookup p.1=some .cell):∃cl,CompScope X scope cap cl:=by
 obtain⟨cl,e,a,b⟩:=clos_loop X.env scope.names [] (fun y hy hf=>hcell _ (free y hy hf)) (fun x c h=>by simp at h)
 refine⟨cl,?_,kind,nocell,names,a,fun x hx=>b x (.inr (PySem.mem_of_lookup hx)),hcap⟩
 unfold closureFor
 refine Eq.trans ?_ e
 simp only [bind_pure]
abbrev CTurn (n:Nat) (D:Addr) (Pv:Nat->List V->St->Hp->Prop) (i:Nat) (σ:St) (y:V) (H5:Hp):Prop:=
 ∃ys,H5 D=some (.lst ys)/\ys.length<sizeLine/\∃m',m'<n-i/\m'=n-(i+1)/\i+1<=n/\∃acc,Pv (i+1) acc σ (upd H5 D (.lst (ys++[y])))
theorem cturn {n:Nat} {D:Addr} {Pv:Nat->List V->St->Hp->Prop} {i:Nat} {σ:St} {y:V} {H5:Hp} {acc:List V} (h1:H5 D=some (.lst acc)) (h2:acc.length<sizeLine) (hi:i<n) (h3:Pv (i+1) (acc++[y]) σ (upd H5 D (.lst (acc++[y])))):CTurn n D Pv i σ y H5:=
 ⟨acc,h1,h2,n-(i+1),by omega,rfl,hi,acc++[y],h3⟩
theorem comp_list {K:PySem.W.Frag} {a D:Addr} {xs:List V} {ni:Nat} {te:TE} {Q:VK} {σ:St} {H:Hp} (Pv:Nat->List V->St->Hp->Prop) (h0:Pv 0 [] σ H) (hl:∀i acc σ H,i<=xs.length->Pv i acc σ H->SqL K H a xs)
  (hs:∀i x acc σ H,i<xs.length->xs[i]? =some x->Pv i acc σ H->te (σ.set ni (some x)) H fun y H5=>CTurn xs.length D Pv i (σ.set ni (some x)) y H5) (hd:∀acc σ H,Pv xs.length acc σ H->Q (.ref D) H):
  CompW (Itl K a) D (gName ni) te Q σ H:=by
 refine⟨fun i m σ H=>m=xs.length-i/\i<=xs.length/\∃acc,Pv i acc σ H,⟨xs.length,by simp,Nat.zero_le _,[],h0⟩,?_⟩
 rintro i m σ H ⟨rfl,hi,acc,p⟩
 have q:=hl i acc σ H hi p
 by_cases hlt:i<xs.length
 ·refine .inr ⟨⟨xs,xs[i],q,by simp [hlt]⟩,fun x H' y=>?_⟩
  obtain⟨e,y⟩:=y
  subst e
  exact hs i x acc σ _ hlt (y xs q) p
 ·have e:i=xs.length:=by omega
  subst e
  exact .inl ⟨⟨xs,q,Nat.le_refl _⟩,hd acc σ H p⟩
section
variable {X:Cx}
end
section
variable {X:Cx}
def tRev (K:PySem.W.Frag) (te:TE):TE:=fun σ H Q=>te σ H fun x H1=>∃a xs,x= .ref a/\SqL K H1 a xs/\∀p,H1 p=none->Q (.ref p) (upd H1 p (.lst xs.reverse))
theorem pe_rev {e:Expr} {te:TE} {j:Nat} {p2 p3 p4 pos:Pos} (he:PE X e te):PE X (.Subscript e (.Slice none none (some (.UnaryOp .USub (.Constant (.int 1) j p3) p4)) p2) pos) (tRev X.K te):=by
 intro pins s σ H Q I h
 refine Subscript_ (thn (he pins s σ H _ I h) fun v s1 ⟨x,H1,I1,r1,q1⟩=>?_)
 obtain⟨a,xs,rfl,hq,q⟩:=q1
 cases r1
 refine wpAny_Slice ?_
 rw [evalPart_none,evalPart_some]
 refine wpAny_pure (wpAny_pure ?_)
 have hst:PE X (.UnaryOp .USub (.Constant (.int 1) j p3) p4) (tUn (rU fun i=> .int (-i)) (tC (.int 1))):=pe_un un_neg pe_int
 refine thn (hst pins s1 σ H1 (fun y H2=>y= .int (-1)/\H2=H1) I1 ⟨1,rfl,rfl,rfl⟩) fun vk s2 ⟨y,H2,I2,r2,e1,e2⟩=>?_
 subst e1 e2
 obtain⟨tk,rfl⟩:=r2
 have I4:Inv X pins σ H2 {s2 with heap:=s2.heap.push {cls:= .type "slice",data:= .fields #[.none,.none,.int (-1) tk]}}:=I2.kept (t':=s2.toks) fun b ob q=>Heap.get?_push_of_some _ q
 obtain⟨its,r,ht,hz⟩:=I4.list hq
 have hlen:=r.length
 show wpAny (model X.prog X.w) X.A (subscriptTail e (.Slice none none (some (.UnaryOp .USub (.Constant (.int 1) j p3) p4)) p2) (.ref a) (.ref s2.heap.objs.size)) (EP X pins σ Q) X.xe {s2 with heap:=s2.heap.push {cls:= .type "slice",data:= .fields #[.none,.none,.int (-1) tk]}}
 refine tail_any (ops:=[.ref a,.ref s2.heap.objs.size]) ht.isList.typeIs slot_list_getitem.lookup ?_ (by with_unfolding_all rfl)
 refine wpAny_getItem_list_slice ht.isList (Heap.IsSliceOf.new ..) .none .none (.int (-1) tk) (by decide) ?_ (by rw [List.size_toArray]<;>omega)
 rw [PySem.W.krv_pick]
 refine⟨.ref _,_,I4.laid (t':=s2.toks) (o:= .lst xs.reverse) (fun b ob q=>Heap.get?_push_of_some _ q) (Nat.le_refl _) ?_,rfl,q _ (I4.hok.fresh (Nat.le_refl _))⟩
 exact⟨by rw [List.length_reverse];exact hz,_,0,r.reverse,Heap.get?_push_size _ rfl⟩
end
section
variable {X:Cx}
theorem valsOfInts:∀{us:List Value} {ns:List Int},IntsAre us ns->Vals (ns.map V.int) us
 |_,_,.nil=> .nil
 |_,_,.cons i t r=> .cons ⟨t,rfl⟩ (valsOfInts r)
theorem Paired.get2 {α β:Type} {F:α->β->Prop}:∀{l₁:List α} {l₂:List β},Paired F l₁ l₂->∀{i:Nat} {y:β},l₂[i]? =some y->∃x,l₁[i]? =some x/\F x y
 |_,_,.nil,i,_,h=>by simp at h
 |_,_,.cons h _,0,_,e=>by simp at e;subst e;exact⟨_,rfl,h⟩
 |_,_,.cons _ t,i+1,y,e=>by
  obtain⟨x,h1,h2⟩:=Paired.get2 t (i:=i) (y:=y) (by simpa using e)
  exact⟨x,by simpa using h1,h2⟩
theorem kV_rel {P:Program} {w:World}:∀{k:Key} {u:Value},(mixKind P w).is k u=true->RelV (kV k) u
 | .inl i,u,h=>by
  obtain⟨t,e⟩:=Value.isInt_shape (k:=i) (v:=u) h
  exact⟨t,e⟩
 | .inr x,u,h=>by
  obtain⟨t,e⟩:=Value.isStrOf_shape (x:=x) (v:=u) h
  exact⟨t,e⟩
theorem vals_get:∀{xs:List V} {us:List Value},xs.length=us.length->(∀(j:Nat) x u,xs[j]? =some x->us[j]? =some u->RelV x u)->Vals xs us
 | [],[],_,_=> .nil
 | [],_::_,h,_=>by simp at h
 |_::_,[],h,_=>by simp at h
 |x::xs,u::us,h,f=> .cons (f 0 x u rfl rfl) (vals_get (by simpa using h) fun j x' u' h1 h2=>f (j+1) x' u' (by simpa using h1) (by simpa using h2))
def rSorted (K:PySem.W.Frag):List V->Hp->VK->Prop:=fun xs H Q=>∃(p:Addr) (ns:List Int),xs=[.ref p]/\SqL K H p (ns.map V.int)/\ns.length<64/\∀ms:List Int,ms.Perm ns->ms.Pairwise (·<=·)->∀l,H l=none->Q (.ref l) (upd H l (.lst (ms.map V.int)))
theorem call_sorted:CallR X (.builtin "sorted") (rSorted X.K):=by
 intro pins s σ H xs us Q I r h
 obtain⟨p,ns,rfl,hq,h64,q⟩:=h
 obtain⟨u,rfl,ru⟩:=vals1 r
 cases ru
 obtain⟨its,rv,pl,hz⟩:=I.list hq
 have hl:=rv.length
 rw [List.length_map]at hl
 refine sorted_ints pl.isList (intsAre_of rv) (by omega) fun out ms hi hp ho=>?_
 obtain⟨e,he⟩:=sortedAll_at s.heap its out
 refine⟨.ref (s.heap.objs.size+1),_,I.laid (t':=s.toks) (o:= .lst (ms.map V.int)) (fun b o q=>sortedAll_old q) (Nat.le_succ _) ?_,rfl,q ms hp ho _ (I.hok.fresh (Nat.le_succ _))⟩
 refine⟨?_,out.toList,e,valsOfInts hi,by simpa using he⟩
 rw [List.length_map,hp.length_eq]
 have:(64:Nat)<=sizeLine:=by decide
 omega
def rMin (K:PySem.W.Frag):List V->Hp->VK->Prop:=fun xs H Q=>∃(p:Addr) (ns:List Int),xs=[.ref p]/\SqL K H p (ns.map V.int)/\ns≠[]/\∀m:Int,m∈ns->(∀a∈ns,m<=a)->Q (.int m) H
theorem call_min (hc:X.calm=true):CallR X (.builtin "min") (rMin X.K):=by
 intro pins s σ H xs us Q I r h
 obtain⟨p,ns,rfl,hq,hne,q⟩:=h
 obtain⟨u,rfl,ru⟩:=vals1 r
 cases ru
 obtain⟨its,rv,pl,hz⟩:=I.list hq
 have hi:IntsAre its ns:=intsAre_of rv
 obtain⟨ys,e⟩:=hi.allInts.items
 have hns:ns=ys.toList.map (·.1):=by
  rw [<-hi.numsOf, <-nums_intItems, <-e]
 have hsz:0<ys.size:=by
  have h3:0<ns.length:=List.length_pos_iff.mpr hne
  rw [hns,List.length_map,Array.length_toList]at h3;exact h3
 have hl:=pl.isList
 rw [e]at hl
 refine min_intList (I.ok.hd hc) hl hsz fun v h' tk hv hk=>?_
 obtain⟨t,rfl⟩:=intItems_at hv
 obtain⟨h1,h2⟩:=argBest_lt (numAt ys) (ys.size-1)
 refine⟨.int _,H,I.kept (t':=tk) hk,⟨t,rfl⟩,q _ ?_ fun a ha=>?_⟩
 ·rw [hns,numAt_eq];exact getD_mem (by rw [List.length_map,Array.length_toList];omega)
 ·rw [hns]at ha
  obtain⟨j,hj,rfl⟩:=mem_getD ha
  rw [List.length_map,Array.length_toList]at hj
  rw [<-numAt_eq];exact h2 j (by omega)
def rIndex (K:PySem.W.Frag):V->List V->Hp->VK->Prop:=fun x vs H Q=>∃(l:Addr) (ns:List Int) (k:Int),x= .ref l/\vs=[.int k]/\SqL K H l (ns.map V.int)/\k∈ns/\Q (.int (ns.idxOf k:Nat)) H
theorem mt_index:MtM X "list.index" (rIndex X.K):=by
 intro pins s σ H x vs v us Q I rx rv h
 obtain⟨l,ns,k,rfl,rfl,hq,hk,q⟩:=h
 cases rx
 obtain⟨u,rfl,t,rfl⟩:=rv.one
 obtain⟨its,rv',pl,hz⟩:=I.list hq
 have hi:IntsAre its ns:=intsAre_of rv'
 have hlen:=hi.length
 obtain⟨⟨cls,dd,data,sl⟩,ho,hc,n,hd⟩:=pl.isList
 simp only at hc hd
 subst hc hd
 have hj:ns.idxOf k<ns.length:=List.idxOf_lt_length_iff.mpr hk
 have hs:sizeLine=16777216:=sizeLine_eq
 rw [List.length_map]at hz
 refine call_meets PySem.F.slot_list_index ⟨_,ho,rfl⟩ PySem.F.entry_list_index (PySem.F.args_list_index_2 _ _)
  (SeqAt.list_indexAt l its.toArray n dd sl (.int k t) (PyProof.Rows.isInt k) (ns.idxOf k) (by simpa [hlen]using hj) (by omega) ?_ ?_) ⟨ho,fun y hy=>(eq_isInt k t hi y (by simpa using hy)).at _ _,⟨.int _,H,I.tok _,⟨_,rfl⟩,q⟩⟩
 ·show PyProof.Rows.isInt k its[ns.idxOf k]=true
  rw [isInt_at k hi _ (by omega) hj]
  simpa using List.getElem_idxOf hj
 ·intro j hjs hlt
  show PyProof.Rows.isInt k its[j]=false
  rw [isInt_at k hi j (by simpa using hjs) (by omega)]
  exact ne_of_lt_idxOf hlt _
def rListD:List V->Hp->VK->Prop:=fun xs H Q=>∃(p:Addr) (kvs:List (Key×V)),xs=[.ref p]/\H p=some (.dK kvs)/\∀l,H l=none->Q (.ref l) (upd H l (.lst (kvs.map fun kv=>kV kv.1)))
theorem call_listD (hc:X.calm=true):CallR X (.type "list") rListD:=by
 intro pins s σ H xs us Q I r h
 obtain⟨p,kvs,rfl,ha,q⟩:=h
 obtain⟨u,rfl,ru⟩:=vals1 r
 cases ru
 obtain⟨hz,lo,vs,kv,hD⟩:=dk_of I.hok ha
 obtain⟨ep,hat⟩:=hD.dictAt
 have hlen:kvs.length=vs.length:=kv.length
 refine PySem.W.kdl_call (PySem.W.kdl_dict (knd:=mixKind X.prog X.w) (kvs:=vs) (ep:=ep) lo) (I.ok.hd hc) hat (by omega) fun h' tk acc' c' hk hS hacc=>?_
 refine⟨.ref s.heap.objs.size,_,I.laid (t':=tk) (o:= .lst (kvs.map fun kv=>kV kv.1)) hk (Nat.le_refl _) ⟨by rw [List.length_map];exact hz,acc'.toList,c',?_,by simpa using hS⟩,rfl,q _ (I.hok.fresh (Nat.le_refl _))⟩
 refine vals_get (by rw [List.length_map,Array.length_toList];exact hlen.trans hacc.1.symm) fun j x u h1 h2=>?_
 obtain⟨k,y,h3,h4⟩:=hacc.2 j u (by rw [<-Array.getElem?_toList];exact h2)
 have h5:=(L2.Paired.get2 kv h3)
 obtain⟨⟨k',y'⟩,h6,h7,_⟩:=h5
 rw [List.getElem?_map,h6]at h1
 cases h1
 have e:k'=k:=h7
 subst e
 exact kV_rel h4
abbrev CStep (n:Nat) (Pv:Nat->List V->St->Hp->Prop) (i:Nat) (σ:St) (H5:Hp):Prop:=∃m',m'<n-i/\m'=n-(i+1)/\i+1<=n/\∃acc,Pv (i+1) acc σ H5
theorem cstep {n:Nat} {Pv:Nat->List V->St->Hp->Prop} {i:Nat} {σ:St} {H5:Hp} {acc:List V} (hi:i<n) (h3:Pv (i+1) acc σ H5):CStep n Pv i σ H5:=⟨n-(i+1),by omega,rfl,hi,acc,h3⟩
theorem comp_range {lo:Int} {n:Nat} {D:Addr} {ni:Nat} {te:TE} {Q:VK} {σ:St} {H:Hp} (Pv:Nat->List V->St->Hp->Prop) (h0:Pv 0 [] σ H)
  (hs:∀i acc σ H,i<n->Pv i acc σ H->te (σ.set ni (some (.int (lo+i)))) H fun y H5=>CTurn n D Pv i (σ.set ni (some (.int (lo+i)))) y H5) (hd:∀acc σ H,Pv n acc σ H->Q (.ref D) H):
  CompW (Itr lo n) D (gName ni) te Q σ H:=by
 refine⟨fun i m σ H=>m=n-i/\i<=n/\∃acc,Pv i acc σ H,⟨n,by simp,Nat.zero_le _,[],h0⟩,?_⟩
 rintro i m σ H ⟨rfl,hi,acc,p⟩
 by_cases hlt:i<n
 ·refine .inr ⟨hlt,fun x H' y=>?_⟩
  obtain⟨e,y⟩:=y
  subst e y
  exact hs i acc σ _ hlt p
 ·have e:i=n:=by omega
  subst e
  exact .inl ⟨Nat.le_refl _,hd acc σ H p⟩
theorem compF_range {lo:Int} {n:Nat} {D:Addr} {ni:Nat} {tc:TT} {te:TE} {Q:VK} {σ:St} {H:Hp} (Pv:Nat->List V->St->Hp->Prop) (h0:Pv 0 [] σ H)
  (hs:∀i acc σ H,i<n->Pv i acc σ H->tc (σ.set ni (some (.int (lo+i)))) H fun ok H4=>if ok=true then te (σ.set ni (some (.int (lo+i)))) H4 fun y H5=>CTurn n D Pv i (σ.set ni (some (.int (lo+i)))) y H5 else CStep n Pv i (σ.set ni (some (.int (lo+i)))) H4) (hd:∀acc σ H,Pv n acc σ H->Q (.ref D) H):
  CompWF (Itr lo n) D (gName ni) tc te Q σ H:=by
 refine⟨fun i m σ H=>m=n-i/\i<=n/\∃acc,Pv i acc σ H,⟨n,by simp,Nat.zero_le _,[],h0⟩,?_⟩
 rintro i m σ H ⟨rfl,hi,acc,p⟩
 by_cases hlt:i<n
 ·refine .inr ⟨hlt,fun x H' y=>?_⟩
  obtain⟨e,y⟩:=y
  subst e y
  exact hs i acc σ _ hlt p
 ·have e:i=n:=by omega
  subst e
  exact .inl ⟨Nat.le_refl _,hd acc σ H p⟩
theorem comp_listG {K:PySem.W.Frag} {a D:Addr} {xs:List V} {g:TG} {te:TE} {Q:VK} {σ:St} {H:Hp} (Pv:Nat->List V->St->Hp->Prop) (h0:Pv 0 [] σ H) (hl:∀i acc σ H,i<=xs.length->Pv i acc σ H->SqL K H a xs)
  (hs:∀i x acc σ H,i<xs.length->xs[i]? =some x->Pv i acc σ H->g x σ H fun σ4 H4=>te σ4 H4 fun y H5=>CTurn xs.length D Pv i σ4 y H5) (hd:∀acc σ H,Pv xs.length acc σ H->Q (.ref D) H):
  CompW (Itl K a) D g te Q σ H:=by
 refine⟨fun i m σ H=>m=xs.length-i/\i<=xs.length/\∃acc,Pv i acc σ H,⟨xs.length,by simp,Nat.zero_le _,[],h0⟩,?_⟩
 rintro i m σ H ⟨rfl,hi,acc,p⟩
 have q:=hl i acc σ H hi p
 by_cases hlt:i<xs.length
 ·refine .inr ⟨⟨xs,xs[i],q,by simp [hlt]⟩,fun x H' y=>?_⟩
  obtain⟨e,y⟩:=y
  subst e
  exact hs i x acc σ _ hlt (y xs q) p
 ·have e:i=xs.length:=by omega
  subst e
  exact .inl ⟨⟨xs,q,Nat.le_refl _⟩,hd acc σ H p⟩
end
section
variable {X:Cx}
theorem preSum_sum (f:Nat->Int) (ns:List Int) (h:∀j,j<ns.length->f j=ns.getD j 0):∀n,n<=ns.length->preSum f n=(ns.take n).sum
 |0,_=>by simp [preSum]
 |n+1,hn=>by
  show preSum f n+f n=_
  rw [preSum_sum f ns h n (by omega),h n hn,List.take_succ]
  have e:ns[n]? =some (ns.getD n 0):=by simp [show n<ns.length from hn]
  rw [e,List.sum_append]
  simp
theorem take_sum_le:∀(ns:List Int) (b:Int),(∀n∈ns,0<=n/\n<=b)->0<=b->∀j,0<=(ns.take j).sum/\(ns.take j).sum<=ns.length*b
 | [],b,_,hb,j=>by simp
 |n::ns,b,h,hb,0=>by
  simp
  exact Int.mul_nonneg (by omega) hb
 |n::ns,b,h,hb,j+1=>by
  have ih:=take_sum_le ns b (fun m hm=>h m (List.mem_cons_of_mem _ hm)) hb j
  have hn:=h n List.mem_cons_self
  rw [List.take_succ_cons,List.sum_cons,List.length_cons]
  have:((ns.length+1:Nat):Int)*b=ns.length*b+b:=by rw [Int.natCast_add,Int.add_mul];simp
  rw [this]
  omega
def rSum (K:PySem.W.Frag):List V->Hp->VK->Prop:=fun xs H Q=>∃(p:Addr) (ns:List Int),xs=[.ref p]/\SqL K H p (ns.map V.int)/\ns.length<=1000/\(∀n∈ns,0<=n/\n<=1000)/\Q (.int ns.sum) H
theorem call_sum (hc:X.calm=true):CallR X (.builtin "sum") (rSum X.K):=by
 intro pins s σ H xs us Q I r h
 obtain⟨p,ns,rfl,hq,hln,hb,q⟩:=h
 obtain⟨u,rfl,ru⟩:=vals1 r
 cases ru
 obtain⟨its,rv,pl,hz⟩:=I.list hq
 have hi:IntsAre its ns:=intsAre_of rv
 obtain⟨ys,e⟩:=hi.allInts.items
 have hns:ns=ys.toList.map (·.1):=by
  rw [<-hi.numsOf, <-nums_intItems, <-e]
 have hsz:ys.size=ns.length:=by rw [hns,List.length_map,Array.length_toList]
 have hl:=pl.isList
 rw [e]at hl
 have hat:∀j,j<ns.length->numAt ys j=ns.getD j 0:=fun j hj=>by
  rw [numAt_eq,hns]
 have hps:∀n,n<=ns.length->preSum (numAt ys) n=(ns.take n).sum:=preSum_sum _ _ hat
 have hsum:=take_sum_le ns 1000 hb (by decide)
 have hbig:(ns.length:Int)*1000<=1000000:=by omega
 refine sum_intList (I.ok.hd hc) hl (fun j hj=>⟨?_,?_⟩) fun h' tk t' hk=>?_
 ·have hj':j<ns.length:=by omega
  rw [hat j hj']
  have:=hb (ns.getD j 0) (by simp [hj'])
  exact⟨by omega,by omega⟩
 ·rw [hps (j+1) (by omega)]
  have:=hsum (j+1)
  exact⟨by omega,by omega⟩
 ·refine⟨.int _,H,I.kept (t':=tk) hk,⟨t',rfl⟩,?_⟩
  rw [hsz,hps _ (Nat.le_refl _),List.take_length]
  exact q
theorem call_rangeO:CallR X (.type "range") (fun xs H Q=>∃n:Nat,xs=[.int (n:Int)]/\∀r,H r=none->Q (.ref r) (upd H r (.rng 0 n))):=by
 intro pins s σ H xs us Q I r h
 obtain⟨n,rfl,q⟩:=h
 obtain⟨u,rfl,t,rfl⟩:=vals1 r
 refine call_range_1 ⟨.ref s.heap.objs.size,_,I.laid (t':=s.toks+1+1) (o:= .rng 0 n) (fun b o e=>Heap.get?_push_of_some _ e) (Nat.le_refl _) ?_,rfl,q _ (I.hok.fresh (Nat.le_refl _))⟩
 exact⟨_,_,_,Heap.get?_push_size _ rfl⟩
theorem call_listR (hc:X.calm=true):CallR X (.type "list") (fun xs H Q=>∃(p:Addr) (n:Nat),xs=[.ref p]/\H p=some (.rng 0 n)/\n<=1000/\∀l,H l=none->Q (.ref l) (upd H l (.lst ((List.range n).map fun k:Nat=>V.int (k:Int))))):=by
 intro pins s σ H xs us Q I r h
 obtain⟨p,n,rfl,ha,hn,q⟩:=h
 obtain⟨u,rfl,ru⟩:=vals1 r
 cases ru
 obtain⟨t,u,v,e⟩:=I.hok p _ ha
 have hrs:Builtin.Range.rangeSize 0 (n:Int) 1=n:=by rw [rangeSize_one];split<;>omega
 refine call_list_range (I.ok.hd hc) e (small_one (by omega) (by omega) (by omega) (by omega)) hrs (by omega) fun h' tk acc' c' hk hS hacc=>?_
 have hs:sizeLine=16777216:=sizeLine_eq
 refine⟨.ref s.heap.objs.size,_,I.laid (t':=tk) (o:= .lst ((List.range n).map fun k:Nat=>V.int (k:Int))) hk (Nat.le_refl _) ⟨by rw [List.length_map,List.length_range];omega,acc'.toList,c',?_,by simpa using hS⟩,rfl,q _ (I.hok.fresh (Nat.le_refl _))⟩
 refine vals_get (by rw [List.length_map,List.length_range,Array.length_toList];exact hacc.1.symm) fun j x u h1 h2=>?_
 obtain⟨t2,rfl⟩:=hacc.2 j u (by rw [<-Array.getElem?_toList];exact h2)
 have hj:j<n:=by
  have:=(List.getElem?_eq_some_iff.mp h1).1
  simpa using this
 rw [List.getElem?_map,List.getElem?_range hj]at h1
 cases h1
 exact⟨t2,by congr 1;omega⟩
theorem compF_listG {K:PySem.W.Frag} {a D:Addr} {xs:List V} {g:TG} {tc:TT} {te:TE} {Q:VK} {σ:St} {H:Hp} (Pv:Nat->List V->St->Hp->Prop) (h0:Pv 0 [] σ H) (hl:∀i acc σ H,i<=xs.length->Pv i acc σ H->SqL K H a xs)
  (hs:∀i x acc σ H,i<xs.length->xs[i]? =some x->Pv i acc σ H->g x σ H fun σ4 H4=>tc σ4 H4 fun ok H4'=>if ok=true then te σ4 H4' fun y H5=>CTurn xs.length D Pv i σ4 y H5 else CStep xs.length Pv i σ4 H4') (hd:∀acc σ H,Pv xs.length acc σ H->Q (.ref D) H):
  CompWF (Itl K a) D g tc te Q σ H:=by
 refine⟨fun i m σ H=>m=xs.length-i/\i<=xs.length/\∃acc,Pv i acc σ H,⟨xs.length,by simp,Nat.zero_le _,[],h0⟩,?_⟩
 rintro i m σ H ⟨rfl,hi,acc,p⟩
 have q:=hl i acc σ H hi p
 by_cases hlt:i<xs.length
 ·refine .inr ⟨⟨xs,xs[i],q,by simp [hlt]⟩,fun x H' y=>?_⟩
  obtain⟨e,y⟩:=y
  subst e
  exact hs i x acc σ _ hlt (y xs q) p
 ·have e:i=xs.length:=by omega
  subst e
  exact .inl ⟨⟨xs,q,Nat.le_refl _⟩,hd acc σ H p⟩
end
section
variable {X:Cx}
theorem fits_nat {k:Nat} (h:k<=sizeLine):¬(!Builtin.List.listFitsIndex (k:Int))=true:=by
 have e:=sizeLine_eq
 have h1:(k:Int)<9223372036854775808:=by omega
 have h2: -(9223372036854775808:Int)<=(k:Int):=by omega
 simp [Builtin.List.listFitsIndex,h1,h2]
def rInsert:V->List V->Hp->VK->Prop:=fun x vs H Q=>∃l xs y,∃k:Nat,x= .ref l/\vs=[.int k,y]/\H l=some (.lst xs)/\k<=xs.length/\xs.length<sizeLine/\Q .non (upd H l (.lst (xs.take k++y::xs.drop k)))
theorem mt_insert:MtM X "list.insert" rInsert:=by
 intro pins s σ H x vs v us Q I rx rv h
 obtain⟨l,xs,y,k,rfl,rfl,hH,hk,hz,q⟩:=h
 cases rx
 obtain⟨u,w',rfl,ru,rw'⟩:=vals2 rv
 obtain⟨t,rfl⟩:=ru
 obtain⟨z,its,n,r,hl,e⟩:=I.lstM hH
 have hv:Vals (xs.take k++y::xs.drop k) (its.take k++w'::its.drop k):=Vals.append (Vals.take k r) (Paired.cons rw' (Vals.drop k r))
 have hlen:(xs.take k++y::xs.drop k).length<=sizeLine:=by
  rw [List.length_append,List.length_cons,List.length_take,List.length_drop]
  omega
 have hz2:its.toArray.size<=sizeLine:=by rw [List.size_toArray];omega
 have hfit:=fits_nat (k:=k) (by omega)
 generalize hx:(k:Int)=x at hfit⊢
 have M:=@PySem.AutoListH.list_insert_list_int_val_1 l its.toArray n x t w' hfit hz2
 refine call_meets F.slot_list_insert ⟨_,e,rfl⟩ F.entry_list_insert (F.args_list_insert_3 _ _ _) M ⟨e,?_⟩
 refine⟨.non,_,I.lset (its':=its.take k++w'::its.drop k) hH e ?_ hv hlen,rfl,q⟩
 have hn:¬(x<0):=by omega
 have ht:x.toNat=k:=by omega
 simp only [hn,if_false,List.size_toArray,ht]
 rw [Nat.min_eq_left (by omega)]
 apply Array.ext'
 simp
 exact List.take_of_length_le (by rw [List.length_drop];exact Nat.le_refl _)
end
section
variable {X:Cx} {tg:Expr}
def Itd (hi:Int) (n:Nat):It:=⟨fun i _=>i<n,fun i H x H'=>H'=H/\x= .int (hi-i),fun i _=>n<=i⟩
theorem turn_down {P:Program} {w:World} {K:PySem.W.Frag} {tg:Expr} (it:Addr) (hi:Int) (n:Nat):Turn P w K tg (Itd hi n) [it] it (fun i h=>IsRangeIter h it (hi+(i:Nat)*(-1)) ((n:Int)-(i:Nat)) (-1)) where
 mem:=by simp
 obj:=fun i h st b hb=>by
  have e:b=it:=by simpa using hb
  subst e
  exact⟨_,st,fun v z=>by
   have z':Data.fields _=Data.cell v:=z
   cases z'⟩
 keep:=fun i h h' st k=>k it (by simp) _ st
 item:=by
  intro X hP hw hK hc i pins s σ H E I hf st hg
  subst hP hw hK
  obtain⟨f0,f1,f2,f3,f4,f5⟩:=hf it (by simp)
  have W:=Walks.range (prog:=X.prog) (w:=X.w) (I.ok.hd hc) it hi (-1) n
  refine W.item i s _ _ hg st fun v h' tk hv st' kk=>?_
  obtain⟨t,rfl⟩:=hv
  have I1:Inv X pins σ H {s with heap:=h',toks:=tk}:=I.turned (fun b o hb e=>kk b o (by simpa using hb) e) f0 f1 f3 f4 f5
  refine⟨_,rfl,go_of (s:={s with heap:=h',toks:=tk}) (n:="range_iterator") st' rfl rfl (by decide) ⟨.int (hi-i),H,I1,⟨t,?_⟩,⟨rfl,rfl⟩,st',fun b hb=>(hf b hb).1⟩⟩
  rw [show hi+(i:Int)*(-1)=hi-i by omega]
 done:=by
  intro X hP hw hK hc i pins s σ H E I hf st hg
  subst hP hw hK
  obtain⟨f0,f1,f2,f3,f4,f5⟩:=hf it (by simp)
  exact wpAny_pyNext_range_end (I.ok.hd hc) st (by have:n<=i:=hg;omega) fun h' eb=>⟨rfl,I.turned (t':=s.toks) (fun b o hb e=>eb b o hb e) f0 f1 f3 f4 f5⟩
 self:=fun _ _ _ _ _ st h=>wpAny_pyIter_rangeiter st h
theorem size_down (a b:Int):Builtin.Range.rangeSize a b (-1)=((a-b).toNat:Int):=by
 unfold Builtin.Range.rangeSize
 rw [if_neg (by decide)]
 split<;>simp<;>omega
theorem down_it {pins:List (Addr×Obj)} {σ:St} {H:Hp} {s:Shared} {R:It->Hp->Prop} {E:Value->Shared->Prop} {a b:Int} {t u v:Tok} {tk:Nat} (I:Inv X pins σ H s) (sm:Builtin.Range.small a b (-1)=true)
  (q:R (Itd a (a-b).toNat) H):wpAny (model X.prog X.w) X.A (pyIter (.ref s.heap.objs.size)) (PIE X pins σ tg R) E {s with heap:=s.heap.push {cls:= .type "range",data:= .fields #[.int a t,.int b u,.int (-1) v]},toks:=tk}:=by
 refine wpAny_pyIter_range (IsRange.new ..) sm ?_
 have I1:Inv X pins σ H {s with heap:=s.heap.push {cls:= .type "range",data:= .fields #[.int a t,.int b u,.int (-1) v]},toks:=tk}:=I.kept fun b o e=>Heap.get?_push_of_some _ e
 refine⟨_,[_],_,_,H,rfl,I1.kept (t':=tk) fun b o e=>Heap.get?_push_of_some _ e,turn_down _ a (a-b).toNat,?_,fun b hb=>?_,q⟩
 ·show IsRangeIter _ _ (a+((0:Nat):Int)*(-1)) ((((a-b).toNat:Nat):Int)-((0:Nat):Int)) (-1)
  rw [show a+((0:Nat):Int)*(-1)=a by omega,show(((a-b).toNat:Nat):Int)-((0:Nat):Int)=Builtin.Range.rangeSize a b (-1) by rw [size_down];omega]
  exact Heap.get?_push_size _ rfl
 ·have e:b=_:=List.mem_singleton.mp hb
  subst e
  exact I1.fpOk (Nat.le_refl _) (I1.hok.fresh (Nat.le_refl _))
def iRng3 (ta:TA):TI:=fun σ H R=>ta σ H fun vs H1=>∃i j:Int,vs=[.int i,.int j,.int (-1)]/\Builtin.Range.small i j (-1)=true/\R (Itd i (i-j).toNat) H1
theorem pi_range3 {a b c:Expr} {ta:TA} {p pos:Pos} (hg:Gl X "range") (hm:X.mg "range"=none) (ha:PA X [a,b,c] ta) (hs:starEach [a,b,c] X.env=[(false,eval a X.env),(false,eval b X.env),(false,eval c X.env)]:=by rfl) (hs2:starEach [b,c] X.env=[(false,eval b X.env),(false,eval c X.env)]:=by rfl):
  PI X tg (.Call (.Name "range" p) [a,b,c] [] pos) (iRng3 ta):=by
 intro pins s σ H R I h
 refine Call_ (ld_blt I hg hm boot_range (PyProof.Rows.callWith_type1 (thn (ha pos pins s σ H _ I h) fun us s1 ⟨vs,H1,I1,r1,q1⟩=>?_) (by rw [hs,hs2]) (by rw [hs2];rfl)))
 obtain⟨i,j,e,sm,q⟩:=q1
 subst e
 cases r1 with
 |cons r rr=>
  cases rr with
  |cons r' rr=>
   cases rr with
   |cons r2 rr=>
    cases rr
    obtain⟨t,rfl⟩:=r
    obtain⟨t',rfl⟩:=r'
    obtain⟨t2,rfl⟩:=r2
    exact call_range_3 (by decide) (down_it I1 sm q) (.inl (PyProof.noPylong_of_log2 (by decide+kernel)))
theorem for_down {hi:Int} {n:Nat} {g:TG} {tb:TS} {D:Ends} {σ:St} {H:Hp} (Pv:Nat->St->Hp->Prop) (h0:Pv 0 σ H)
  (hs:∀i σ H,i<n->Pv i σ H->g (.int (hi-i)) σ H fun σ2 H2=>tb {D with nx:=Pv (i+1),ct:=Pv (i+1),bk:=D.nx} σ2 H2) (hd:∀σ H,Pv n σ H->D.nx σ H):
  ∃W:Nat->Nat->St->Hp->Prop,(∃m,W 0 m σ H)/\∀i m σ H,W i m σ H->
   ((Itd hi n).stop i H/\D.nx σ H)∨((Itd hi n).go i H/\∃N:St->Hp->Prop,(∀σ' H',N σ' H'->∃m',m'<m/\W (i+1) m' σ' H')/\∀x H',(Itd hi n).yld i H x H'->g x σ H' fun σ2 H2=>tb {D with nx:=N,ct:=N,bk:=D.nx} σ2 H2):=by
 refine⟨fun i m σ H=>m=n-i/\i<=n/\Pv i σ H,⟨n,by simp,Nat.zero_le _,h0⟩,?_⟩
 rintro i m σ H ⟨rfl,hi,p⟩
 by_cases hlt:i<n
 ·refine .inr ⟨hlt,Pv (i+1),fun σ' H' p'=>⟨n-(i+1),by omega,rfl,hlt,p'⟩,fun x H' y=>?_⟩
  obtain⟨e,y⟩:=y
  subst e y
  exact hs i σ _ hlt p
 ·have e:i=n:=by omega
  subst e
  exact .inl ⟨Nat.le_refl _,hd σ H p⟩
end
section
variable {prog:Program} {w:World} {A:Around}
theorem args_maxD (x d:Value):argsOk "max" ⟨[x],[(Str.ofString "default",d)]⟩:=by
 unfold argsOk
 kernel_rfl
def TopX (num:Nat->Int) (P:Nat->Value->Prop) (j:Nat):Option (Nat×Value)->Prop
 |none=>j=0
 |some (i,v)=>i<j/\P i v/\∀t,t<j->num t<=num i
def heldOfX (o:Option (Nat×Value)):Array Value:=match o with
 |none=> #[]
 |some (_,v)=> #[v,v]
theorem maxD_turns {It Bx:Addr} {fp wr:List Addr} {n:Nat} {P:Nat->Value->Prop} {St:Nat->Heap->Prop} {R:Result->Shared->Prop} {d:Value} {num:Nat->Int} (W:Walks prog w A.in1 It fp wr n P St) (cm:CmpOf prog w A.in1 .Gt P (fun i j=>decide (num i>num j))) (apart:Bx∉fp):
  ∀(k j:Nat) (s:Shared) (o:Option (Nat×Value)) (c:Nat),n=j+k->St j s.heap->TopX num P j o->s.heap.get? Bx=some {cls:= .type "list",dict:=none,data:= .seq (heldOfX o) c,slots:= #[]}->
   (∀v h' tk,(n=0/\v=d∨∃o',o'=some v/\∃i,TopX num P n (some (i,v)))->(∀b ob,b∉wr->b≠Bx->s.heap.get? b=some ob->h'.get? b=some ob)->R (.ok (.ret v)) {s with heap:=h',toks:=tk})->
   codeAny (model prog w) A (.builtin "max.loop" ⟨[.ref It,.none,.ref Bx],[("default",d)]⟩) R s
 |0,j,s,o,c,en,at_,top,hS,fin=>by
  have outw:Bx∉wr:=fun z=>apart (W.sub _ z)
  cases en
  refine codeAny_builtin F.entry_max_loop ?_
  rw [Around.under_plainId F.plain_max_loop _]
  show wpAny _ A.in1 (seqItems? (.ref Bx)>>=_) _ _ s
  refine wpAny_bind (wpAny_seqItems hS rfl ?_)
  show wpAny _ A.in1 (tryCatch (pyNext (.ref It)) _>>=_) _ _ s
  refine wpAny_bind (wpAny_tryCatch (W.done s _ _ at_ fun h' tk kept=>?_))
  have hS2:=kept Bx _ outw hS
  cases o with
  |none=>
   have z:j=0:=top
   show wpAny _ A.in1 (rule _>>=_) _ _ _
   exact wpAny_bind (wpAny_rule (wpAny_pure (fin d h' tk (.inl ⟨z,rfl⟩) fun b ob h1 _ h3=>kept b ob h1 h3)))
  |some q=>
   show wpAny _ A.in1 (updateSeq Bx (fun _=> #[])>>=_) _ _ _
   refine wpAny_bind (wpAny_updateSeq (hz:=by show 2<=sizeLine;decide) hS2 rfl (wpAny_bind (wpAny_letGo (wpAny_pure (fin q.2 _ tk (.inr ⟨_,rfl,q.1,top⟩) fun b ob h1 h2 h3=>?_)))))
   exact(Heap.get?_update_other _ _ (Ne.symm h2)).trans (kept b ob h1 h3)
 |k+1,j,s,o,c,en,at_,top,hS,fin=>by
  have outw:Bx∉wr:=fun z=>apart (W.sub _ z)
  have more:j<n:=by omega
  have nm:(toString "max"++toString ".loop":String)="max.loop":=by decide
  refine codeAny_builtin F.entry_max_loop ?_
  rw [Around.under_plainId F.plain_max_loop _]
  show wpAny _ A.in1 (seqItems? (.ref Bx)>>=_) _ _ s
  refine wpAny_bind (wpAny_seqItems hS rfl ?_)
  show wpAny _ A.in1 (tryCatch (pyNext (.ref It)) _>>=_) _ _ s
  refine wpAny_bind (wpAny_tryCatch (W.item j s _ _ more at_ fun v h' tk pv at2 kept=>?_))
  have hS2:=kept Bx _ outw hS
  have step:∀(o2:Option (Nat×Value)) (c2:Nat) (h2:Heap) (t2:Nat),TopX num P (j+1) o2->h2.get? Bx=some {cls:= .type "list",dict:=none,data:= .seq (heldOfX o2) c2,slots:= #[]}->(∀b ob,b≠Bx->h'.get? b=some ob->h2.get? b=some ob)->
    codeAny (model prog w) A (.builtin "max.loop" ⟨[.ref It,.none,.ref Bx],[("default",d)]⟩) R {s with heap:=h2,toks:=t2}:=fun o2 c2 h2 t2 top2 hS3 k2=>by
   refine maxD_turns W cm apart k (j+1) {s with heap:=h2,toks:=t2} o2 c2 (by omega) (W.frame _ _ _ at2 fun b hb ob e=>k2 b ob (fun z=>apart (z▸hb)) e) top2 hS3 fun v3 h3 t3 r3 k3=>?_
   exact fin v3 h3 t3 r3 fun b ob a1 a2 a3=>k3 b ob a1 a2 (k2 b ob a2 (kept b ob a1 a3))
  cases o with
  |none=>
   have z:j=0:=top
   subst z
   show wpAny _ A.in1 (updateSeq Bx (fun _=> #[v,v])>>=_) _ _ _
   refine wpAny_bind (wpAny_updateSeq hS2 rfl ?_)
   rw [nm]
   refine wpAny_pure ⟨plainId_quiet F.plain_max_loop _,step (some (0,v)) _ _ _ ⟨Nat.one_pos,pv,fun t ht=>?_⟩ (Heap.get?_update_self _ hS2 rfl) fun b ob hb e=>(Heap.get?_update_other _ _ (Ne.symm hb)).trans e⟩
   have:t=0:=by omega
   subst this
   exact Int.le_refl _
  |some q=>
   obtain⟨i,vb⟩:=q
   obtain⟨hi,pb,best⟩:=top
   show wpAny _ A.in1 (tryCatch (holding [v,v] (richCompare .Gt v vb>>=_)) _>>=_) _ _ _
   refine wpAny_bind (wpAny_tryCatch (wpAny_holding (wpAny_bind (cm j i v vb _ _ _ pv pb ?_))))
   refine wpAny_bind (wpAny_holding (wpAny_truthy_bool (wpAny_bind (wpAny_letGo (wpAny_pure ?_)))))
   dsimp only
   by_cases hb:num j>num i
   ·rw [decide_eq_true hb,if_pos rfl]
    refine wpAny_bind (wpAny_updateSeq (hz:=by show 2<=sizeLine;decide) hS2 rfl (wpAny_bind (wpAny_letGo ?_)))
    rw [nm]
    refine wpAny_pure ⟨plainId_quiet F.plain_max_loop _,step (some (j,v)) _ _ _ ⟨Nat.lt_succ_self j,pv,fun t ht=>?_⟩ (Heap.get?_update_self _ hS2 rfl) fun b ob hb e=>(Heap.get?_update_other _ _ (Ne.symm hb)).trans e⟩
    by_cases ht2:t<j
    ·have:=best t ht2;omega
    ·have:t=j:=by omega
     subst this
     exact Int.le_refl _
   ·rw [decide_eq_false hb,if_neg Bool.false_ne_true]
    refine wpAny_bind (wpAny_letGo ?_)
    rw [nm]
    refine wpAny_pure ⟨plainId_quiet F.plain_max_loop _,step (some (i,vb)) _ _ _ ⟨by omega,pb,fun t ht=>?_⟩ hS2 fun b ob _ e=>e⟩
    by_cases ht2:t<j
    ·exact best t ht2
    ·have:t=j:=by omega
     subst this
     omega
end
section
variable {prog:Program} {w:World} {A:Around}
theorem args_minD (x d:Value):argsOk "min" ⟨[x],[(Str.ofString "default",d)]⟩:=by
 unfold argsOk
 kernel_rfl
def TopN (num:Nat->Int) (P:Nat->Value->Prop) (j:Nat):Option (Nat×Value)->Prop
 |none=>j=0
 |some (i,v)=>i<j/\P i v/\∀t,t<j->num i<=num t
def heldOfN (o:Option (Nat×Value)):Array Value:=match o with
 |none=> #[]
 |some (_,v)=> #[v,v]
theorem minD_turns {It Bx:Addr} {fp wr:List Addr} {n:Nat} {P:Nat->Value->Prop} {St:Nat->Heap->Prop} {R:Result->Shared->Prop} {d:Value} {num:Nat->Int} (W:Walks prog w A.in1 It fp wr n P St) (cm:CmpOf prog w A.in1 .Lt P (fun i j=>decide (num i<num j))) (apart:Bx∉fp):
  ∀(k j:Nat) (s:Shared) (o:Option (Nat×Value)) (c:Nat),n=j+k->St j s.heap->TopN num P j o->s.heap.get? Bx=some {cls:= .type "list",dict:=none,data:= .seq (heldOfN o) c,slots:= #[]}->
   (∀v h' tk,(n=0/\v=d∨∃o',o'=some v/\∃i,TopN num P n (some (i,v)))->(∀b ob,b∉wr->b≠Bx->s.heap.get? b=some ob->h'.get? b=some ob)->R (.ok (.ret v)) {s with heap:=h',toks:=tk})->
   codeAny (model prog w) A (.builtin "min.loop" ⟨[.ref It,.none,.ref Bx],[("default",d)]⟩) R s
 |0,j,s,o,c,en,at_,top,hS,fin=>by
  have outw:Bx∉wr:=fun z=>apart (W.sub _ z)
  cases en
  refine codeAny_builtin F.entry_min_loop ?_
  rw [Around.under_plainId F.plain_min_loop _]
  show wpAny _ A.in1 (seqItems? (.ref Bx)>>=_) _ _ s
  refine wpAny_bind (wpAny_seqItems hS rfl ?_)
  show wpAny _ A.in1 (tryCatch (pyNext (.ref It)) _>>=_) _ _ s
  refine wpAny_bind (wpAny_tryCatch (W.done s _ _ at_ fun h' tk kept=>?_))
  have hS2:=kept Bx _ outw hS
  cases o with
  |none=>
   have z:j=0:=top
   show wpAny _ A.in1 (rule _>>=_) _ _ _
   exact wpAny_bind (wpAny_rule (wpAny_pure (fin d h' tk (.inl ⟨z,rfl⟩) fun b ob h1 _ h3=>kept b ob h1 h3)))
  |some q=>
   show wpAny _ A.in1 (updateSeq Bx (fun _=> #[])>>=_) _ _ _
   refine wpAny_bind (wpAny_updateSeq (hz:=by show 2<=sizeLine;decide) hS2 rfl (wpAny_bind (wpAny_letGo (wpAny_pure (fin q.2 _ tk (.inr ⟨_,rfl,q.1,top⟩) fun b ob h1 h2 h3=>?_)))))
   exact(Heap.get?_update_other _ _ (Ne.symm h2)).trans (kept b ob h1 h3)
 |k+1,j,s,o,c,en,at_,top,hS,fin=>by
  have outw:Bx∉wr:=fun z=>apart (W.sub _ z)
  have more:j<n:=by omega
  have nm:(toString "min"++toString ".loop":String)="min.loop":=by decide
  refine codeAny_builtin F.entry_min_loop ?_
  rw [Around.under_plainId F.plain_min_loop _]
  show wpAny _ A.in1 (seqItems? (.ref Bx)>>=_) _ _ s
  refine wpAny_bind (wpAny_seqItems hS rfl ?_)
  show wpAny _ A.in1 (tryCatch (pyNext (.ref It)) _>>=_) _ _ s
  refine wpAny_bind (wpAny_tryCatch (W.item j s _ _ more at_ fun v h' tk pv at2 kept=>?_))
  have hS2:=kept Bx _ outw hS
  have step:∀(o2:Option (Nat×Value)) (c2:Nat) (h2:Heap) (t2:Nat),TopN num P (j+1) o2->h2.get? Bx=some {cls:= .type "list",dict:=none,data:= .seq (heldOfN o2) c2,slots:= #[]}->(∀b ob,b≠Bx->h'.get? b=some ob->h2.get? b=some ob)->
    codeAny (model prog w) A (.builtin "min.loop" ⟨[.ref It,.none,.ref Bx],[("default",d)]⟩) R {s with heap:=h2,toks:=t2}:=fun o2 c2 h2 t2 top2 hS3 k2=>by
   refine minD_turns W cm apart k (j+1) {s with heap:=h2,toks:=t2} o2 c2 (by omega) (W.frame _ _ _ at2 fun b hb ob e=>k2 b ob (fun z=>apart (z▸hb)) e) top2 hS3 fun v3 h3 t3 r3 k3=>?_
   exact fin v3 h3 t3 r3 fun b ob a1 a2 a3=>k3 b ob a1 a2 (k2 b ob a2 (kept b ob a1 a3))
  cases o with
  |none=>
   have z:j=0:=top
   subst z
   show wpAny _ A.in1 (updateSeq Bx (fun _=> #[v,v])>>=_) _ _ _
   refine wpAny_bind (wpAny_updateSeq hS2 rfl ?_)
   rw [nm]
   refine wpAny_pure ⟨plainId_quiet F.plain_min_loop _,step (some (0,v)) _ _ _ ⟨Nat.one_pos,pv,fun t ht=>?_⟩ (Heap.get?_update_self _ hS2 rfl) fun b ob hb e=>(Heap.get?_update_other _ _ (Ne.symm hb)).trans e⟩
   have:t=0:=by omega
   subst this
   exact Int.le_refl _
  |some q=>
   obtain⟨i,vb⟩:=q
   obtain⟨hi,pb,best⟩:=top
   show wpAny _ A.in1 (tryCatch (holding [v,v] (richCompare .Lt v vb>>=_)) _>>=_) _ _ _
   refine wpAny_bind (wpAny_tryCatch (wpAny_holding (wpAny_bind (cm j i v vb _ _ _ pv pb ?_))))
   refine wpAny_bind (wpAny_holding (wpAny_truthy_bool (wpAny_bind (wpAny_letGo (wpAny_pure ?_)))))
   dsimp only
   by_cases hb:num j<num i
   ·rw [decide_eq_true hb,if_pos rfl]
    refine wpAny_bind (wpAny_updateSeq (hz:=by show 2<=sizeLine;decide) hS2 rfl (wpAny_bind (wpAny_letGo ?_)))
    rw [nm]
    refine wpAny_pure ⟨plainId_quiet F.plain_min_loop _,step (some (j,v)) _ _ _ ⟨Nat.lt_succ_self j,pv,fun t ht=>?_⟩ (Heap.get?_update_self _ hS2 rfl) fun b ob hb e=>(Heap.get?_update_other _ _ (Ne.symm hb)).trans e⟩
    by_cases ht2:t<j
    ·have:=best t ht2;omega
    ·have:t=j:=by omega
     subst this
     exact Int.le_refl _
   ·rw [decide_eq_false hb,if_neg Bool.false_ne_true]
    refine wpAny_bind (wpAny_letGo ?_)
    rw [nm]
    refine wpAny_pure ⟨plainId_quiet F.plain_min_loop _,step (some (i,vb)) _ _ _ ⟨by omega,pb,fun t ht=>?_⟩ hS2 fun b ob _ e=>e⟩
    by_cases ht2:t<j
    ·exact best t ht2
    ·have:t=j:=by omega
     subst this
     omega
end
def CallRK (X:Cx) (f:Value) (ks:List Str) (r:List V->List V->Hp->VK->Prop):Prop:=
 ∀(pins:List (Addr×Obj)) (s:Shared) (σ:St) (H:Hp) (xs ys:List V) (us ws:List Value) (Q:VK),Inv X pins σ H s->Vals xs us->Vals ys ws->r xs ys H Q->wpAny (model X.prog X.w) X.A (call f us (ks.zip ws)) (EP X pins σ Q) X.xe s
def tCBK (r:List V->List V->Hp->VK->Prop) (t tk:TA):TE:=fun σ H Q=>t σ H fun xs H1=>tk σ H1 fun ys H2=>r xs ys H2 Q
theorem pe_callBK {X:Cx} {x:Str} {id:String} {ks:List Str} {r:List V->List V->Hp->VK->Prop} {e:Expr} {es:List Expr} {kws:List Keyword} {t tk:TA} {p pos:Pos} (hc:CallRK X (.builtin id) ks r) (hg:Gl X x) (hm:X.mg x=none) (hv:bootBuiltins x=some (.builtin id)) (ha:PA X (e::es) t) (hkw:PK X kws tk)
  (hall:(backToKw pos (keywordEach kws X.env)).all (·.1.isSome)=true:=by rfl) (hks:(backToKw pos (keywordEach kws X.env)).filterMap (·.1)=ks:=by rfl) (hn:x≠"__name__":=by decide) (hdb:(x==("__debug__":Str))=false:=by decide)
  (he:starEach (e::es) X.env=(false,eval e X.env)::starEach es X.env:=by rfl) (hpl:(backTo pos (starEach (e::es) X.env)).any (·.1)=false:=by rfl) (hpk:(backToKw pos (keywordEach kws X.env)).any (·.1.isNone)=false:=by rfl):PE X (.Call (.Name x p) (e::es) kws pos) (tCBK r t tk):=by
 intro pins s σ H Q I h
 refine wpAny_Call_Name_kw (ld_blt I hg hm hv ?_ hn hdb)
 refine PyProof.Rows.callWith_kw (thn (ha pos pins s σ H _ I h) fun us s1 ⟨vs,H1,I1,r1,q1⟩=>?_) (by rw [he];rfl) hpl hall hpk
 refine thn (hkw pos pins s1 σ H1 _ I1 q1) fun ws s2 ⟨zs,H2,I2,rz,q2⟩=>?_
 rw [hks]
 exact hc pins s2 σ H2 vs zs us ws Q I2 r1 rz q2
def rMaxD (K:PySem.W.Frag):List V->List V->Hp->VK->Prop:=fun xs ys H Q=>∃p ns d,xs=[.ref p]/\ys=[d]/\SqL K H p (ns.map V.int)/\(ns=[]->Q d H)/\∀m:Int,m∈ns->(∀a∈ns,a<=m)->Q (.int m) H
theorem call_maxD {X:Cx} (hc:X.calm=true):CallRK X (.builtin "max") ["default"] (rMaxD X.K):=by
 intro pins s σ H xs ys us ws Q I r rk h
 obtain⟨p,ns,d,rfl,rfl,hq,q0,q1⟩:=h
 obtain⟨u,rfl,ru⟩:=vals1 r
 obtain⟨dv,rfl,rd⟩:=vals1 rk
 cases ru
 obtain⟨its,rv,pl,hz⟩:=I.list hq
 have hi:IntsAre its ns:=intsAre_of rv
 obtain⟨ys,e⟩:=hi.allInts.items
 have hns:ns=ys.toList.map (·.1):=by rw [<-hi.numsOf, <-nums_intItems, <-e]
 have hl:=pl.isList
 rw [e]at hl
 have nm:(toString "max"++toString ".loop":String)="max.loop":=by decide
 refine kmb_tree F.kind_max F.plain_max F.entry_max (args_maxD _ _) ?_
 show wpAny _ X.A.in1 (Builtin.Builtins.bindParams "max" ["key","default"] 0 ⟨[],[(Str.ofString "default",dv)]⟩>>=_) _ _ s
 refine wpAny_bind (wpAny_of_eq (show Builtin.Builtins.bindParams "max" ["key","default"] 0 ⟨[],[(Str.ofString "default",dv)]⟩=pure [none,some dv] by rfl) (wpAny_bind (wpAny_pure ?_)))
 refine wpAny_bind (iter_intList hl fun s₂ es st hfp hlI=>?_)
 refine wpAny_bind (wpAny_newObj_type ?_)
 have apart:s₂.heap.objs.size∉[s.heap.objs.size,p]:=fun z=>Nat.lt_irrefl _ (hfp _ z)
 rw [nm]
 have W:=Walks.list (prog:=X.prog) (w:=X.w) (A:=X.A.in1) (I.ok.hd hc) s.heap.objs.size p hlI (intItems ys)
 refine wpAny_pure ⟨plainId_quiet F.plain_max_loop _,maxD_turns W (CmpOf.ints_gt (numAt ys) (fun _ _=>intItems_at)) apart _ 0 _ none _ (by rw [Nat.zero_add]) (W.frame _ _ _ st fun b _ o eb=>Heap.get?_push_of_some _ eb) rfl (Heap.get?_push_size _ rfl) fun v h' tk res kept=>?_⟩
 subst es
 have old:∀b o,s.heap.get? b=some o->h'.get? b=some o:=fun b o eb=>by
  have lt:=Heap.lt_size eb
  refine kept b o (fun z=>?_) (fun z=>?_) (Heap.get?_push_of_some _ (Heap.get?_push_of_some _ eb))
  ·have z':=List.mem_singleton.mp z
   exact absurd lt (by rw [z'];exact Nat.lt_irrefl _)
  ·rw [Heap.size_push]at z
   exact absurd lt (by rw [z];exact Nat.not_lt.mpr (Nat.le_succ _))
 rcases res with ⟨n0,rfl⟩|⟨_,_,i,hin,pv,best⟩
 ·refine⟨d,H,I.kept (t':=tk) old,rd,q0 ?_⟩
  rw [hns]
  have:ys.size=0:=by simpa [intItems]using n0
  rw [List.map_eq_nil_iff, <-Array.length_toList]at*
  exact List.eq_nil_of_length_eq_zero (by rw [Array.length_toList];exact this)
 ·obtain⟨t,rfl⟩:=intItems_at (by simpa [intItems]using pv)
  have hin':i<ys.size:=by simpa [intItems]using hin
  refine⟨.int _,H,I.kept (t':=tk) old,⟨t,rfl⟩,q1 _ ?_ fun a ha=>?_⟩
  ·rw [hns,numAt_eq]
   exact getD_mem (by rw [List.length_map,Array.length_toList];omega)
  ·rw [hns]at ha
   obtain⟨j,hj,rfl⟩:=mem_getD ha
   rw [List.length_map,Array.length_toList]at hj
   have:=best j (by simpa [intItems]using hj)
   rw [<-numAt_eq]
   exact this
def rMinD (K:PySem.W.Frag):List V->List V->Hp->VK->Prop:=fun xs ys H Q=>∃p ns d,xs=[.ref p]/\ys=[d]/\SqL K H p (ns.map V.int)/\(ns=[]->Q d H)/\∀m:Int,m∈ns->(∀a∈ns,m<=a)->Q (.int m) H
theorem call_minD {X:Cx} (hc:X.calm=true):CallRK X (.builtin "min") ["default"] (rMinD X.K):=by
 intro pins s σ H xs ys us ws Q I r rk h
 obtain⟨p,ns,d,rfl,rfl,hq,q0,q1⟩:=h
 obtain⟨u,rfl,ru⟩:=vals1 r
 obtain⟨dv,rfl,rd⟩:=vals1 rk
 cases ru
 obtain⟨its,rv,pl,hz⟩:=I.list hq
 have hi:IntsAre its ns:=intsAre_of rv
 obtain⟨ys,e⟩:=hi.allInts.items
 have hns:ns=ys.toList.map (·.1):=by rw [<-hi.numsOf, <-nums_intItems, <-e]
 have hl:=pl.isList
 rw [e]at hl
 have nm:(toString "min"++toString ".loop":String)="min.loop":=by decide
 refine kmb_tree F.kind_min F.plain_min F.entry_min (args_minD _ _) ?_
 show wpAny _ X.A.in1 (Builtin.Builtins.bindParams "min" ["key","default"] 0 ⟨[],[(Str.ofString "default",dv)]⟩>>=_) _ _ s
 refine wpAny_bind (wpAny_of_eq (show Builtin.Builtins.bindParams "min" ["key","default"] 0 ⟨[],[(Str.ofString "default",dv)]⟩=pure [none,some dv] by rfl) (wpAny_bind (wpAny_pure ?_)))
 refine wpAny_bind (iter_intList hl fun s₂ es st hfp hlI=>?_)
 refine wpAny_bind (wpAny_newObj_type ?_)
 have apart:s₂.heap.objs.size∉[s.heap.objs.size,p]:=fun z=>Nat.lt_irrefl _ (hfp _ z)
 rw [nm]
 have W:=Walks.list (prog:=X.prog) (w:=X.w) (A:=X.A.in1) (I.ok.hd hc) s.heap.objs.size p hlI (intItems ys)
 refine wpAny_pure ⟨plainId_quiet F.plain_min_loop _,minD_turns W (CmpOf.ints_lt (numAt ys) (fun _ _=>intItems_at)) apart _ 0 _ none _ (by rw [Nat.zero_add]) (W.frame _ _ _ st fun b _ o eb=>Heap.get?_push_of_some _ eb) rfl (Heap.get?_push_size _ rfl) fun v h' tk res kept=>?_⟩
 subst es
 have old:∀b o,s.heap.get? b=some o->h'.get? b=some o:=fun b o eb=>by
  have lt:=Heap.lt_size eb
  refine kept b o (fun z=>?_) (fun z=>?_) (Heap.get?_push_of_some _ (Heap.get?_push_of_some _ eb))
  ·have z':=List.mem_singleton.mp z
   exact absurd lt (by rw [z'];exact Nat.lt_irrefl _)
  ·rw [Heap.size_push]at z
   exact absurd lt (by rw [z];exact Nat.not_lt.mpr (Nat.le_succ _))
 rcases res with ⟨n0,rfl⟩|⟨_,_,i,hin,pv,best⟩
 ·refine⟨d,H,I.kept (t':=tk) old,rd,q0 ?_⟩
  rw [hns]
  have:ys.size=0:=by simpa [intItems]using n0
  rw [List.map_eq_nil_iff, <-Array.length_toList]at*
  exact List.eq_nil_of_length_eq_zero (by rw [Array.length_toList];exact this)
 ·obtain⟨t,rfl⟩:=intItems_at (by simpa [intItems]using pv)
  have hin':i<ys.size:=by simpa [intItems]using hin
  refine⟨.int _,H,I.kept (t':=tk) old,⟨t,rfl⟩,q1 _ ?_ fun a ha=>?_⟩
  ·rw [hns,numAt_eq]
   exact getD_mem (by rw [List.length_map,Array.length_toList];omega)
  ·rw [hns]at ha
   obtain⟨j,hj,rfl⟩:=mem_getD ha
   rw [List.length_map,Array.length_toList]at hj
   have:=best j (by simpa [intItems]using hj)
   rw [<-numAt_eq]
   exact this
section
variable {prog:Program} {w:World} {A:Around} {E:Value->Shared->Prop} {s:Shared}
end
section
variable {prog:Program} {w:World} {A:Around} {s:Shared} {R:Result->Shared->Prop}
end
section
variable {X:Cx}
end
section
variable {X:Cx} {pins:List (Addr×Obj)} {σ:St} {H:Hp} {s:Shared} {d:Addr} {kvs:List (Key×V)} {o:Obj}
theorem Inv.freeze (I:Inv X pins σ H s) (e:H d=some (.dK kvs)) (ho:s.heap.get? d=some o):Inv X pins σ (upd H d (.frz o (.dK kvs))) s:=by
 have ne:∀{b:Addr} {u:HO},H b=some u->u≠ .dK kvs->b≠d:=fun q n z=>n (by rw [z,e]at q;cases q;rfl)
 refine I.un (h':=s.heap) (t':=s.toks) ⟨fun b u q _ _ _=>q,fun b u q _ _ _=>⟨u.slots,q⟩,fun b u q n _=>?_,fun b u q _=>⟨u,q⟩,fun b xs q=>?_,fun b u v q=>?_,fun b ps q=>⟨#[],?_⟩⟩ fun b u q=>?_
 ·rw [upd_ne (fun z=>by rw [z,e]at n;cases n)];exact n
 ·rw [upd_ne (ne q (by intro z;cases z))];exact q
 ·rw [upd_ne (ne q (by intro z;cases z))];exact q
 ·rw [upd_ne (ne q (by intro z;cases z)),q];simp
 ·by_cases hb:b=d
  ·subst hb
   rw [upd_same]at q
   cases q
   refine⟨ho,?_⟩
   obtain⟨z,y,vs,r,dd⟩:=dk_of I.hok e
   exact⟨z,y,vs,r,dd⟩
  ·rw [upd_ne hb]at q
   exact(I.hok b u q).stay (fun _ _ _ z=>z) (fun c z=>by rw [upd_ne (ne z (by intro z;cases z))];exact z) fun c xs z=>by rw [upd_ne (ne z (by intro z;cases z))];exact z
theorem Inv.thaw (I:Inv X pins σ H s) (n0:∀o u,X.H₀ d≠some (.frz o u)) (e:H d=some (.frz o (.dK kvs))):Inv X pins σ (upd H d (.dK kvs)) s:=by
 have ne:∀{b:Addr} {u:HO},H b=some u->u≠ .frz o (.dK kvs)->b≠d:=fun q n z=>n (by rw [z,e]at q;cases q;rfl)
 have nn:∀{b:Addr},H b=none->b≠d:=fun q z=>by rw [z,e]at q;cases q
 refine⟨I.ok,I.os,I.bare,⟨I.base.keep,I.base.slot,fun b u q n hx=>?_,I.base.there,fun b xs q=>?_,fun b u v q=>?_,fun b ps q=>?_⟩,I.loc,I.cell,?_,fun x c q=>?_,fun p hp=>?_,fun b u q=>?_,I.len⟩
 ·have:=I.base.free b u q n hx
  rw [upd_ne (nn this)];exact this
 ·have:=I.base.tups b xs q
  rw [upd_ne (ne this (by intro z;cases z))];exact this
 ·have:=I.base.frzs b u v q
  have nb:b≠d:=fun z=>n0 u v (by rw [<-z];exact q)
  rw [upd_ne nb];exact this
 ·obtain⟨m,z⟩:=I.base.tbls b ps q
  exact⟨m,by rw [upd_ne (ne z (by intro z;cases z))];exact z⟩
 ·rw [upd_ne (nn I.free)];exact I.free
 ·rw [upd_ne (nn (I.freeC x c q))];exact I.freeC x c q
 ·obtain⟨a1,a2,a3⟩:=I.pin p hp
  exact⟨a1,by rw [upd_ne (nn a2)];exact a2,a3⟩
 ·by_cases hb:b=d
  ·subst hb
   rw [upd_same]at q
   cases q
   obtain⟨_,z,y,vs,r,dd⟩:=(show ObjOk X.prog X.w H s.heap b (.frz o (.dK kvs))from I.hok b _ e)
   exact⟨z,y,vs,r,dd⟩
  ·rw [upd_ne hb]at q
   exact(I.hok b u q).stay (fun _ _ _ z=>z) (fun c z=>by rw [upd_ne (ne z (by intro z;cases z))];exact z) fun c xs z=>by rw [upd_ne (ne z (by intro z;cases z))];exact z
end
def Itv (d:Addr) (o:Obj) (kvs:List (Key×V)):It:=
 ⟨fun i H=>H d=some (.frz o (.dK kvs))/\i<kvs.length,fun i H x H'=>H'=H/\∃k,kvs[i]? =some (k,x),fun i H=>H d=some (.frz o (.dK kvs))/\kvs.length<=i⟩
theorem kv_get {κ:Type}:∀{kvs:List (κ×V)} {vs:List (κ×Value)} {i:Nat} {q:κ×Value},KV kvs vs->vs[i]? =some q->∃k x,kvs[i]? =some (k,x)/\RelV x q.2
 |_,_,0,_,.cons r _,h=>by cases h;exact⟨_,_,rfl,r.2⟩
 |_,_,i+1,_,.cons _ t,h=>kv_get (i:=i) t h
theorem frz_at {P:Program} {w:World} {H:Hp} {h:Heap} {d:Addr} {o:Obj} {kvs:List (Key×V)} {es:Array DictEntry} {ep:Nat} (ok:HOk P w H h) (hd:o.data= .dict es ep) (e:H d=some (.frz o (.dK kvs))):∃vs,KV kvs vs/\h.DictAt (mixKind P w) d vs ep:=by
 obtain⟨g,z,y,vs,r,o',es',ep',g',x1,x2,x3⟩:=(show ObjOk P w H h d (.frz o (.dK kvs))from ok d _ e)
 rw [g]at g'
 cases g'
 rw [hd]at x2
 cases x2
 exact⟨vs,r,o,es,g,x1,hd,x3⟩
theorem turn_vals {P:Program} {w:World} {K:PySem.W.Frag} {tg:Expr} {d it:Addr} {o:Obj} {kvs:List (Key×V)} {es:Array DictEntry} {ep:Nat} (hd:o.data= .dict es ep):
  Turn P w K tg (Itv d o kvs) [it] it (fun i h=>h.IsValIter it d i kvs.length ep) where
 mem:=by simp
 obj:=fun i h st b hb=>by
  have e:b=it:=by simpa using hb
  subst e
  obtain⟨o,e,c,d⟩:=st
  exact⟨o,e,fun v z=>by rw [d]at z;cases z⟩
 keep:=fun i h h' st k=>st.at fun o e=>k it (by simp) o e
 item:=by
  intro X hP hw hK hc i pins s σ H E I hf st hg
  subst hP hw hK
  obtain⟨e,hi⟩:=hg
  obtain⟨vs,r,dd⟩:=frz_at I.hok hd e
  obtain⟨f0,f1,f2,f3,f4,f5⟩:=hf it (by simp)
  have hl:=KV.length r
  rw [hl]at st hi
  have hx:vs[i]? =some (vs[i].1,vs[i].2):=by simp [hi]
  obtain⟨k,x,hk,rx⟩:=kv_get r hx
  refine wpAny_pyNext_values_item st dd hx fun h' st' sb=>?_
  have I1:Inv X pins σ H {s with heap:=h'}:=I.turned (t':=s.toks) (fun b o hb e=>(sb.2 b hb).trans e) f0 f1 f3 f4 f5
  rw [<-hl]at st'
  obtain⟨o',e',c,d'⟩:=id st'
  exact⟨_,rfl,go_of (s:={s with heap:=h'}) e' c d' (by decide) ⟨x,H,I1,rx,⟨rfl,k,hk⟩,st',fun b hb=>(hf b hb).1⟩⟩
 done:=by
  intro X hP hw hK hc i pins s σ H E I hf st hg
  subst hP hw hK
  obtain⟨e,hi⟩:=hg
  obtain⟨vs,r,dd⟩:=frz_at I.hok hd e
  obtain⟨f0,f1,f2,f3,f4,f5⟩:=hf it (by simp)
  have hl:=KV.length r
  rw [hl]at st hi
  exact wpAny_pyNext_values_end (I.ok.hd hc) st dd (List.getElem?_eq_none hi) fun h' eb=>⟨rfl,I.turned (t':=s.toks) (fun b o hb e=>eb b o hb e) f0 f1 f3 f4 f5⟩
 self:=fun _ _ _ _ _ st h=>wpAny_pyIter_valiter st h
section
variable {X:Cx} {o:Expr} {tg:Expr} {te:TE} {apos cpos:Pos}
def iVals (te:TE):TI:=fun σ H R=>te σ H fun v H1=>∃d kvs,v= .ref d/\H1 d=some (.dK kvs)/\∀ob,R (Itv d ob kvs) (upd H1 d (.frz ob (.dK kvs)))
theorem pi_vals (ho:PE X o te) (hbase:attributeBase o "values" X.env (eval o X.env)=eval o X.env:=by rfl) (hline:(apos.endLine==cpos.line)=true:=by rfl):
  PI X tg (.Call (.Attribute o "values" apos) [] [] cpos) (iVals te):=by
 intro pins s σ H R I h
 refine wpAny_Call_method0_late hbase hline (thn (ho pins s σ H _ I h) fun v s1 ⟨x,H1,I1,r1,d,kvs,ex,e,q⟩=>?_)
 subst ex
 cases r1
 obtain⟨z,hd,vs,rel,dd⟩:=dk_of I1.hok e
 obtain⟨t1,t2,_⟩:=isD_at I1 (.inl ⟨kvs,.inl e⟩)
 refine⟨"dict","dict.values",PySem.F.plainAttrs_dict,PySem.F.slot_dict_values,PySem.F.type_dict_values,t1,t2,Calls.callWith_builtin rfl (PySem.evalArgs_none ?_)⟩
 refine call_meetsIn PySem.F.slot_dict_values dd.typeIs PySem.F.entry_dict_values (PySem.F.args_dict_values_1 _) (meets_dict_values (mixKind X.prog X.w) d hd) ⟨⟨vs,dd⟩,?_⟩
 obtain⟨ep,da⟩:=dd.dictAt
 obtain⟨ob,es,g,w1,w2,w3⟩:=id da
 have I2:=I1.freeze e g
 refine wpAny_pyIter_values ⟨_,Heap.get?_push_size _ rfl,rfl,rfl⟩ (da.push _) ?_
 have le:s1.heap.objs.size<=(s1.heap.push {cls:= .type "dict_values",data:= .fields #[.ref d]}).objs.size:=by rw [Heap.size_push];exact Nat.le_succ _
 refine⟨_,[_],_,Itv d ob kvs,_,rfl,?_,turn_vals w2,?_,fun b hb=>?_,q ob⟩
 ·exact I2.kept (t':=s1.toks) fun b u q=>Heap.get?_push_of_some _ (Heap.get?_push_of_some _ q)
 ·refine⟨_,Heap.get?_push_size _ rfl,rfl,?_⟩
  rw [KV.length rel];rfl
 ·rw [List.mem_singleton.mp hb]
  exact I2.fpOk le (I2.hok.fresh le)
def rThaw (t:TE):TE:=fun σ H Q=>∃d kvs,H d=some (.dK kvs)/\t σ H fun v H1=>(∃ob,H1 d=some (.frz ob (.dK kvs)))/\Q v (upd H1 d (.dK kvs))
theorem pe_thaw {e:Expr} {t:TE} (h:PE X e t):PE X e (rThaw t):=by
 intro pins s σ H Q I ⟨d,kvs,e0,q⟩
 have n0:∀o u,X.H₀ d≠some (.frz o u):=fun o u z=>by rw [I.base.frzs d o u z]at e0;cases e0
 exact thn (h pins s σ H _ I q) fun v s1 ⟨x,H1,I1,r1,⟨ob,e1⟩,q1⟩=>⟨x,_,I1.thaw n0 e1,r1,q1⟩
end
theorem compF_vals {d D:Addr} {o:Obj} {kvs:List (Key×V)} {g:TG} {tc:TT} {te:TE} {Q:VK} {σ:St} {H:Hp} (Pv:Nat->List V->St->Hp->Prop) (h0:Pv 0 [] σ H) (hl:∀i acc σ H,i<=kvs.length->Pv i acc σ H->H d=some (.frz o (.dK kvs)))
  (hs:∀i k x acc σ H,kvs[i]? =some (k,x)->Pv i acc σ H->g x σ H fun σ4 H4=>tc σ4 H4 fun ok H4'=>if ok=true then te σ4 H4' fun y H5=>CTurn kvs.length D Pv i σ4 y H5 else CStep kvs.length Pv i σ4 H4') (hd:∀acc σ H,Pv kvs.length acc σ H->Q (.ref D) H):
  CompWF (Itv d o kvs) D g tc te Q σ H:=by
 refine⟨fun i m σ H=>m=kvs.length-i/\i<=kvs.length/\∃acc,Pv i acc σ H,⟨kvs.length,by simp,Nat.zero_le _,[],h0⟩,?_⟩
 rintro i m σ H ⟨rfl,hi,acc,p⟩
 have q:=hl i acc σ H hi p
 by_cases hlt:i<kvs.length
 ·refine .inr ⟨⟨q,hlt⟩,fun x H' y=>?_⟩
  obtain⟨e,k,y⟩:=y
  subst e
  exact hs i k x acc σ _ y p
 ·have e:i=kvs.length:=by omega
  subst e
  exact .inl ⟨⟨q,Nat.le_refl _⟩,hd acc σ H p⟩
inductive D where
 |fl (x:V)
 |tp (l:List D)
 |ls (l:List D)
mutual
def Den (K:PySem.W.Frag) (H:Hp):D->V->Prop
 | .fl x,v=>v=x/\flatV x=true
 | .tp l,v=>∃a xs,v= .ref a/\SqT K H a xs/\Dens K H l xs
 | .ls l,v=>∃a xs,v= .ref a/\SqL K H a xs/\Dens K H l xs
def Dens (K:PySem.W.Frag) (H:Hp):List D->List V->Prop
 | [],xs=>xs=[]
 |d::l,xs=>∃x r,xs=x::r/\Den K H d x/\Dens K H l r
end
mutual
def D.eq:D->D->Bool
 | .fl x,.fl y=>eqV x y
 | .tp l,.tp m=>D.eqs l m
 | .ls l,.ls m=>D.eqs l m
 |_,_=>false
def D.eqs:List D->List D->Bool
 | [],[]=>true
 |x::l,y::m=>D.eq x y && D.eqs l m
 |_,_=>false
end
mutual
def D.dep:D->Nat
 | .fl _=>0
 | .tp l=>D.deps l+1
 | .ls l=>D.deps l+1
def D.deps:List D->Nat
 | []=>0
 |x::l=>max (D.dep x) (D.deps l)
end
theorem Dens.length {K:PySem.W.Frag} {H:Hp}:∀{l:List D} {xs:List V},Dens K H l xs->l.length=xs.length
 | [],xs,h=>by rw [show xs=[]from h];rfl
 |d::l,xs,h=>by
  obtain⟨x,r,rfl,_,t⟩:=h
  rw [List.length_cons,List.length_cons,Dens.length t]
theorem Dens.at {K:PySem.W.Frag} {H:Hp}:∀{l:List D} {xs:List V},Dens K H l xs->∀j (h1:j<l.length) (h2:j<xs.length),Den K H l[j] xs[j]
 | [],_,_,j,h1,_=>absurd h1 (Nat.not_lt_zero j)
 |d::l,xs,h,0,_,h2=>by
  obtain⟨x,r,rfl,hd,t⟩:=h
  exact hd
 |d::l,xs,h,j+1,h1,h2=>by
  obtain⟨x,r,rfl,hd,t⟩:=h
  exact Dens.at t j (by simpa using h1) (by simpa using h2)
section
variable {X:Cx} {pins:List (Addr×Obj)} {σ:St} {H:Hp} {s:Shared}
theorem Inv.not_both {a:Addr} {xs ys:List V} (I:Inv X pins σ H s) (h:SqL X.K H a xs) (h':SqT X.K H a ys):False:=by
 obtain⟨its,r1,p1,_⟩:=I.list h
 obtain⟨its2,r2,p2,_⟩:=I.tuple h'
 obtain⟨o,ho,hc,_⟩:=p1.isList
 obtain⟨o2,ho2,hc2,_⟩:=p2
 rw [ho]at ho2
 cases ho2
 rw [hc]at hc2
 simp at hc2
mutual
theorem eqD_self (I:Inv X pins σ H s):∀(d e:D) {v:V},Den X.K H d v->Den X.K H e v->d.eq e=true
 | .fl x,.fl y,v,h,h'=>by
  obtain⟨rfl,f⟩:=h
  obtain⟨rfl,_⟩:=h'
  rw [D.eq]
  exact eqV_refl f
 | .fl x,.tp m,v,h,h'=>by
  obtain⟨rfl,f⟩:=h
  obtain⟨a,xs,rfl,_⟩:=h'
  exact absurd (show false=true from f) Bool.false_ne_true
 | .fl x,.ls m,v,h,h'=>by
  obtain⟨rfl,f⟩:=h
  obtain⟨a,xs,rfl,_⟩:=h'
  exact absurd (show false=true from f) Bool.false_ne_true
 | .tp l,.fl x,v,h',h=>by
  obtain⟨rfl,f⟩:=h
  obtain⟨a,xs,rfl,_⟩:=h'
  exact absurd (show false=true from f) Bool.false_ne_true
 | .ls l,.fl x,v,h',h=>by
  obtain⟨rfl,f⟩:=h
  obtain⟨a,xs,rfl,_⟩:=h'
  exact absurd (show false=true from f) Bool.false_ne_true
 | .tp l,.tp m,v,h,h'=>by
  obtain⟨a,xs,rfl,h1,h2⟩:=h
  obtain⟨b,ys,e,h3,h4⟩:=h'
  cases e
  rw [I.tuple_inj h3 h1]at h4
  rw [D.eq]
  exact eqsD_self I l m h2 h4
 | .ls l,.ls m,v,h,h'=>by
  obtain⟨a,xs,rfl,h1,h2⟩:=h
  obtain⟨b,ys,e,h3,h4⟩:=h'
  cases e
  rw [I.list_inj h3 h1]at h4
  rw [D.eq]
  exact eqsD_self I l m h2 h4
 | .tp l,.ls m,v,h,h'=>by
  obtain⟨a,xs,rfl,h1,h2⟩:=h
  obtain⟨b,ys,e,h3,h4⟩:=h'
  cases e
  exact(I.not_both h3 h1).elim
 | .ls l,.tp m,v,h,h'=>by
  obtain⟨a,xs,rfl,h1,h2⟩:=h
  obtain⟨b,ys,e,h3,h4⟩:=h'
  cases e
  exact(I.not_both h1 h3).elim
theorem eqsD_self (I:Inv X pins σ H s):∀(l m:List D) {xs:List V},Dens X.K H l xs->Dens X.K H m xs->D.eqs l m=true
 | [],[],xs,h,h'=>by rw [D.eqs]
 | [],_::_,xs,h,h'=>by
  obtain⟨x,r,rfl,_⟩:=h'
  cases (show(x::r)=[]from h)
 |_::_,[],xs,h',h=>by
  obtain⟨x,r,rfl,_⟩:=h'
  cases (show(x::r)=[]from h)
 |d::l,e::m,xs,h,h'=>by
  obtain⟨x,r,rfl,h1,h2⟩:=h
  obtain⟨y,r',q,h3,h4⟩:=h'
  cases q
  rw [D.eqs,eqD_self I d e h1 h3,eqsD_self I l m h2 h4]
  rfl
end
mutual
theorem eqAt_D (I:Inv X pins σ H s):∀(d e:D) {v v':V} {u u':Value} {A:Around},RelV v u->RelV v' u'->Den X.K H d v->Den X.K H e v'->A.units+d.dep+e.dep<cLine->SeqAt.EqAt A s u u' (d.eq e)
 | .fl x,.fl y,v,v',u,u',A,r,r',h,h',hu=>by
  obtain⟨rfl,f⟩:=h
  obtain⟨rfl,f'⟩:=h'
  rw [D.eq]
  exact eqAt_V r r' f f'
 | .fl x,.tp m,v,v',u,u',A,r,r',h,h',hu=>by
  obtain⟨rfl,f⟩:=h
  obtain⟨a,xs,rfl,hb,_⟩:=h'
  cases r'
  obtain⟨its2,r2,p2,_⟩:=I.tuple hb
  rw [show D.eq (.fl v) (.tp m)=false by simp [D.eq]]
  have hu':A.units<cLine:=by omega
  cases v with
  |non=>cases r;exact SeqAt.EqAt.none_tuple p2 hu'
  |bl c=>cases r;exact SeqAt.EqAt.bool_tuple c p2 hu'
  |int c=>obtain⟨t,rfl⟩:=r;exact SeqAt.EqAt.int_tuple c t p2 hu'
  |str c=>obtain⟨t,rfl⟩:=r;exact SeqAt.EqAt.str_tuple c t p2 hu'
  |_=>exact absurd (show false=true from f) Bool.false_ne_true
 | .fl x,.ls m,v,v',u,u',A,r,r',h,h',hu=>by
  obtain⟨rfl,f⟩:=h
  obtain⟨a,xs,rfl,hb,_⟩:=h'
  cases r'
  obtain⟨its2,r2,p2,_⟩:=I.list hb
  rw [show D.eq (.fl v) (.ls m)=false by simp [D.eq]]
  have hu':A.units<cLine:=by omega
  cases v with
  |non=>cases r;exact SeqAt.EqAt.none_list p2.isList hu'
  |bl c=>cases r;exact SeqAt.EqAt.bool_list c p2.isList hu'
  |int c=>obtain⟨t,rfl⟩:=r;exact SeqAt.EqAt.int_list c t p2.isList hu'
  |str c=>obtain⟨t,rfl⟩:=r;exact SeqAt.EqAt.str_list c t p2.isList hu'
  |_=>exact absurd (show false=true from f) Bool.false_ne_true
 | .tp l,.fl x,v',v,u',u,A,r',r,h',h,hu=>by
  obtain⟨rfl,f⟩:=h
  obtain⟨a,xs,rfl,hb,_⟩:=h'
  cases r'
  obtain⟨its2,r2,p2,_⟩:=I.tuple hb
  rw [show D.eq (.tp l) (.fl v)=false by simp [D.eq]]
  have hu':A.units<cLine:=by omega
  cases v with
  |non=>cases r;exact SeqAt.EqAt.tuple_none p2 hu'
  |bl c=>cases r;exact SeqAt.EqAt.tuple_bool c p2 hu'
  |int c=>obtain⟨t,rfl⟩:=r;exact SeqAt.EqAt.tuple_int c t p2 hu'
  |str c=>obtain⟨t,rfl⟩:=r;exact SeqAt.EqAt.tuple_str c t p2 hu'
  |_=>exact absurd (show false=true from f) Bool.false_ne_true
 | .ls l,.fl x,v',v,u',u,A,r',r,h',h,hu=>by
  obtain⟨rfl,f⟩:=h
  obtain⟨a,xs,rfl,hb,_⟩:=h'
  cases r'
  obtain⟨its2,r2,p2,_⟩:=I.list hb
  rw [show D.eq (.ls l) (.fl v)=false by simp [D.eq]]
  have hu':A.units<cLine:=by omega
  cases v with
  |non=>cases r;exact SeqAt.EqAt.list_none p2.isList hu'
  |bl c=>cases r;exact SeqAt.EqAt.list_bool c p2.isList hu'
  |int c=>obtain⟨t,rfl⟩:=r;exact SeqAt.EqAt.list_int c t p2.isList hu'
  |str c=>obtain⟨t,rfl⟩:=r;exact SeqAt.EqAt.list_str c t p2.isList hu'
  |_=>exact absurd (show false=true from f) Bool.false_ne_true
 | .tp l,.ls m,v,v',u,u',A,r,r',h,h',hu=>by
  obtain⟨a,xs,rfl,h1,_⟩:=h
  obtain⟨b,ys,rfl,h3,_⟩:=h'
  cases r
  cases r'
  obtain⟨its,r1,p1,_⟩:=I.tuple h1
  obtain⟨its2,r2,p2,_⟩:=I.list h3
  rw [show D.eq (.tp l) (.ls m)=false by simp [D.eq]]
  exact SeqAt.EqAt.tuple_list p1 p2.isList (by omega)
 | .ls l,.tp m,v,v',u,u',A,r,r',h,h',hu=>by
  obtain⟨a,xs,rfl,h1,_⟩:=h
  obtain⟨b,ys,rfl,h3,_⟩:=h'
  cases r
  cases r'
  obtain⟨its,r1,p1,_⟩:=I.list h1
  obtain⟨its2,r2,p2,_⟩:=I.tuple h3
  rw [show D.eq (.ls l) (.tp m)=false by simp [D.eq]]
  exact SeqAt.EqAt.list_tuple p1.isList p2 (by omega)
 | .tp l,.tp m,v,v',u,u',A,r,r',h,h',hu=>by
  by_cases hab:v=v'
  ·subst hab
   rw [eqD_self I _ _ h h']
   rw [show u'=u from by obtain⟨a,xs,rfl,_⟩:=h;cases r;cases r';rfl]
   exact SeqAt.EqAt.same _
  ·obtain⟨a,xs,rfl,h1,h2⟩:=h
   obtain⟨b,ys,rfl,h3,h4⟩:=h'
   cases r
   cases r'
   obtain⟨its,r1,p1,_⟩:=I.tuple h1
   obtain⟨its2,r2,p2,_⟩:=I.tuple h3
   rw [D.dep,D.dep]at hu
   obtain⟨e,he,ee⟩:=eqsAt_D (A:=A.in1) I l m r1 r2 h2 h4 (by show A.units+1+_+_<_;omega)
   have key:=SeqAt.RcAt.tuples (A:=A) (s:=s) (l:=a) (b:=b) (items:=its.toArray) (items2:=its2.toArray) (e:=e) p1 p2 (by omega) (fun j g1 g2=>by
    have:=he j (by simpa using g1) (by simpa using g2)
    simpa using this)
   rw [List.size_toArray,List.size_toArray,ee]at key
   rw [D.eq]
   exact SeqAt.EqAt.of_refs (fun z=>hab (by rw [z])) key
 | .ls l,.ls m,v,v',u,u',A,r,r',h,h',hu=>by
  by_cases hab:v=v'
  ·subst hab
   rw [eqD_self I _ _ h h']
   rw [show u'=u from by obtain⟨a,xs,rfl,_⟩:=h;cases r;cases r';rfl]
   exact SeqAt.EqAt.same _
  ·obtain⟨a,xs,rfl,h1,h2⟩:=h
   obtain⟨b,ys,rfl,h3,h4⟩:=h'
   cases r
   cases r'
   obtain⟨its,r1,p1,_⟩:=I.list h1
   obtain⟨its2,r2,p2,_⟩:=I.list h3
   rw [D.dep,D.dep]at hu
   obtain⟨e,he,ee⟩:=eqsAt_D (A:=A.in1) I l m r1 r2 h2 h4 (by show A.units+1+_+_<_;omega)
   rw [D.eq]
   refine SeqAt.EqAt.of_refs (fun z=>hab (by rw [z])) ?_
   by_cases hz:its.toArray.size=its2.toArray.size
   ·have key:=SeqAt.RcAt.lists (A:=A) (s:=s) (l:=a) (b:=b) (items:=its.toArray) (items2:=its2.toArray) (e:=e) p1.isList p2.isList hz (by omega) (fun j g1 g2=>by
     have:=he j (by simpa using g1) (by simpa using g2)
     simpa using this)
    rw [List.size_toArray,List.size_toArray]at hz
    rw [<-hz,Nat.min_self,beq_self_eq_true,Bool.and_true]at ee
    rw [List.size_toArray,ee]at key
    exact key
   ·have hb':(its.length==its2.length)=false:=by simpa using hz
    rw [hb',Bool.and_false]at ee
    rw [<-ee]
    exact SeqAt.RcAt.lists_lengths p1.isList p2.isList (by simpa using hz) (by omega)
theorem eqsAt_D (I:Inv X pins σ H s) {A:Around}:∀(l m:List D) {xs ys:List V} {us ws:List Value},Vals xs us->Vals ys ws->Dens X.K H l xs->Dens X.K H m ys->A.units+D.deps l+D.deps m<cLine->
  ∃e:Nat->Bool,(∀j (h1:j<us.length) (h2:j<ws.length),SeqAt.EqAt A s us[j] ws[j] (e j))/\((List.range (min us.length ws.length)).all e && us.length==ws.length)=D.eqs l m
 | [],m,xs,ys,us,ws,r,r',h,h',hu=>by
  cases (show xs=[]from h)
  cases r
  refine⟨fun _=>true,fun j h1 _=>absurd h1 (Nat.not_lt_zero j),?_⟩
  cases m with
  |nil=>cases (show ys=[]from h');cases r';rw [D.eqs];rfl
  |cons e m=>
   obtain⟨y,t,rfl,_⟩:=h'
   cases r'
   simp [D.eqs]
 |d::l,[],xs,ys,us,ws,r,r',h,h',hu=>by
  obtain⟨x,t,rfl,_⟩:=h
  cases (show ys=[]from h')
  cases r
  cases r'
  exact⟨fun _=>true,fun j _ h1=>absurd h1 (Nat.not_lt_zero j),by simp [D.eqs]⟩
 |d::l,e::m,xs,ys,us,ws,r,r',h,h',hu=>by
  obtain⟨x,t,rfl,h1,h2⟩:=h
  obtain⟨y,t',rfl,h3,h4⟩:=h'
  cases r with
  |@cons _ u0 _ us0 ru rus=>
  cases r' with
  |@cons _ w0 _ ws0 rw0 rws=>
  have hu1:A.units+d.dep+e.dep<cLine:=by
   rw [D.deps,D.deps]at hu
   have:=Nat.le_max_left d.dep (D.deps l)
   have:=Nat.le_max_left e.dep (D.deps m)
   omega
  have hu2:A.units+D.deps l+D.deps m<cLine:=by
   rw [D.deps,D.deps]at hu
   have:=Nat.le_max_right d.dep (D.deps l)
   have:=Nat.le_max_right e.dep (D.deps m)
   omega
  have E0:=eqAt_D I d e (A:=A) ru rw0 h1 h3 hu1
  obtain⟨e',he,ee⟩:=eqsAt_D I l m rus rws h2 h4 hu2
  refine⟨fun j=>match j with|0=>d.eq e|j+1=>e' j,fun j g1 g2=>?_,?_⟩
  ·cases j with
   |zero=>exact E0
   |succ j=>exact he j (by simpa using g1) (by simpa using g2)
  ·have hmin:min (u0::us0).length (w0::ws0).length=min us0.length ws0.length+1:=by
    rw [List.length_cons,List.length_cons]
    omega
   rw [hmin,all_range_succ,D.eqs, <-ee]
   show(d.eq e && (List.range (min us0.length ws0.length)).all e' && _)=_
   rw [Bool.and_assoc]
   congr 2
   rw [Bool.eq_iff_iff]
   simp
end
end
theorem rcAt_V {A:Around} {s:Shared} {y x:V} {u v:Value} (ry:RelV y u) (rx:RelV x v) (fy:flatV y=true) (fx:flatV x=true):SeqAt.RcAt A s u v (eqV y x)/\SeqAt.RcNeAt A s u v (!eqV y x):=by
 cases y<;>first|exact absurd (show false=true from fy) Bool.false_ne_true|(cases x<;>first|exact absurd (show false=true from fx) Bool.false_ne_true|skip)
 all_goals first|obtain⟨t1,rfl⟩:=ry|cases ry
 all_goals first|obtain⟨t2,rfl⟩:=rx|cases rx
 ·exact⟨.none_none,.none_none⟩
 ·exact⟨.none_bool _,.none_bool _⟩
 ·exact⟨.none_int _ _,.none_int _ _⟩
 ·exact⟨.none_str _ _,.none_str _ _⟩
 ·exact⟨.bool_none _,.bool_none _⟩
 ·exact⟨.bool_bool _ _,.bool_bool _ _⟩
 ·exact⟨.bool_int _ _ _,.bool_int _ _ _⟩
 ·exact⟨.bool_str _ _ _,.bool_str _ _ _⟩
 ·exact⟨.int_none _ _,.int_none _ _⟩
 ·exact⟨.int_bool _ _ _,.int_bool _ _ _⟩
 ·exact⟨.int_int _ _ _ _,.int_int _ _ _ _⟩
 ·exact⟨.int_str _ _ _ _,.int_str _ _ _ _⟩
 ·exact⟨.str_none _ _,.str_none _ _⟩
 ·exact⟨.str_bool _ _ _,.str_bool _ _ _⟩
 ·exact⟨.str_int _ _ _ _,.str_int _ _ _ _⟩
 ·exact⟨.str_str _ _ _ _,.str_str _ _ _ _⟩
section
variable {X:Cx} {pins:List (Addr×Obj)} {σ:St} {H:Hp} {s:Shared}
theorem rcAt_D (I:Inv X pins σ H s) (d e:D) {v v':V} {u u':Value} {A:Around} (r:RelV v u) (r':RelV v' u') (h:Den X.K H d v) (h':Den X.K H e v') (hu:A.units+d.dep+e.dep<cLine):
  SeqAt.RcAt A s u u' (d.eq e)/\SeqAt.RcNeAt A s u u' (!d.eq e):=by
 have hu':A.units<cLine:=by omega
 match d,e,h,h',hu with
 | .fl x,.fl y,h,h',hu=>
  obtain⟨rfl,f⟩:=h
  obtain⟨rfl,f'⟩:=h'
  rw [D.eq]
  exact rcAt_V r r' f f'
 | .fl x,.tp m,h,h',hu=>
  obtain⟨rfl,f⟩:=h
  obtain⟨a,xs,rfl,hb,_⟩:=h'
  cases r'
  obtain⟨its2,r2,p2,_⟩:=I.tuple hb
  rw [show D.eq (.fl v) (.tp m)=false by simp [D.eq]]
  cases v with
  |non=>cases r;exact⟨.none_tuple p2 hu',.none_tuple p2 hu'⟩
  |bl c=>cases r;exact⟨.bool_tuple c p2 hu',.bool_tuple c p2 hu'⟩
  |int c=>obtain⟨t,rfl⟩:=r;exact⟨.int_tuple c t p2 hu',.int_tuple c t p2 hu'⟩
  |str c=>obtain⟨t,rfl⟩:=r;exact⟨.str_tuple c t p2 hu',.str_tuple c t p2 hu'⟩
  |_=>exact absurd (show false=true from f) Bool.false_ne_true
 | .fl x,.ls m,h,h',hu=>
  obtain⟨rfl,f⟩:=h
  obtain⟨a,xs,rfl,hb,_⟩:=h'
  cases r'
  obtain⟨its2,r2,p2,_⟩:=I.list hb
  rw [show D.eq (.fl v) (.ls m)=false by simp [D.eq]]
  have p2:=p2.isList
  cases v with
  |non=>cases r;exact⟨.none_list p2 hu',.none_list p2 hu'⟩
  |bl c=>cases r;exact⟨.bool_list c p2 hu',.bool_list c p2 hu'⟩
  |int c=>obtain⟨t,rfl⟩:=r;exact⟨.int_list c t p2 hu',.int_list c t p2 hu'⟩
  |str c=>obtain⟨t,rfl⟩:=r;exact⟨.str_list c t p2 hu',.str_list c t p2 hu'⟩
  |_=>exact absurd (show false=true from f) Bool.false_ne_true
 | .tp m,.fl x,h',h,hu=>
  obtain⟨rfl,f⟩:=h
  obtain⟨a,xs,rfl,hb,_⟩:=h'
  cases r
  obtain⟨its2,r2,p2,_⟩:=I.tuple hb
  rw [show D.eq (.tp m) (.fl v')=false by simp [D.eq]]
  cases v' with
  |non=>cases r';exact⟨.tuple_none p2 hu',.tuple_none p2 hu'⟩
  |bl c=>cases r';exact⟨.tuple_bool c p2 hu',.tuple_bool c p2 hu'⟩
  |int c=>obtain⟨t,rfl⟩:=r';exact⟨.tuple_int c t p2 hu',.tuple_int c t p2 hu'⟩
  |str c=>obtain⟨t,rfl⟩:=r';exact⟨.tuple_str c t p2 hu',.tuple_str c t p2 hu'⟩
  |_=>exact absurd (show false=true from f) Bool.false_ne_true
 | .ls m,.fl x,h',h,hu=>
  obtain⟨rfl,f⟩:=h
  obtain⟨a,xs,rfl,hb,_⟩:=h'
  cases r
  obtain⟨its2,r2,p2,_⟩:=I.list hb
  rw [show D.eq (.ls m) (.fl v')=false by simp [D.eq]]
  have p2:=p2.isList
  cases v' with
  |non=>cases r';exact⟨.list_none p2 hu',.list_none p2 hu'⟩
  |bl c=>cases r';exact⟨.list_bool c p2 hu',.list_bool c p2 hu'⟩
  |int c=>obtain⟨t,rfl⟩:=r';exact⟨.list_int c t p2 hu',.list_int c t p2 hu'⟩
  |str c=>obtain⟨t,rfl⟩:=r';exact⟨.list_str c t p2 hu',.list_str c t p2 hu'⟩
  |_=>exact absurd (show false=true from f) Bool.false_ne_true
 | .tp l,.ls m,h,h',hu=>
  obtain⟨a,xs,rfl,h1,_⟩:=h
  obtain⟨b,ys,rfl,h3,_⟩:=h'
  cases r
  cases r'
  obtain⟨its,r1,p1,_⟩:=I.tuple h1
  obtain⟨its2,r2,p2,_⟩:=I.list h3
  rw [show D.eq (.tp l) (.ls m)=false by simp [D.eq]]
  exact⟨.tuple_list p1 p2.isList hu',.tuple_list p1 p2.isList hu'⟩
 | .ls l,.tp m,h,h',hu=>
  obtain⟨a,xs,rfl,h1,_⟩:=h
  obtain⟨b,ys,rfl,h3,_⟩:=h'
  cases r
  cases r'
  obtain⟨its,r1,p1,_⟩:=I.list h1
  obtain⟨its2,r2,p2,_⟩:=I.tuple h3
  rw [show D.eq (.ls l) (.tp m)=false by simp [D.eq]]
  exact⟨.list_tuple p1.isList p2 hu',.list_tuple p1.isList p2 hu'⟩
 | .tp l,.tp m,h,h',hu=>
  obtain⟨a,xs,rfl,h1,h2⟩:=h
  obtain⟨b,ys,rfl,h3,h4⟩:=h'
  cases r
  cases r'
  obtain⟨its,r1,p1,_⟩:=I.tuple h1
  obtain⟨its2,r2,p2,_⟩:=I.tuple h3
  rw [D.dep,D.dep]at hu
  obtain⟨e,he,ee⟩:=eqsAt_D (A:=A.in1) I l m r1 r2 h2 h4 (by show A.units+1+_+_<_;omega)
  have hj:∀j (g1:j<its.toArray.size) (g2:j<its2.toArray.size),SeqAt.EqAt A.in1 s its.toArray[j] its2.toArray[j] (e j):=fun j g1 g2=>by
   have:=he j (by simpa using g1) (by simpa using g2)
   simpa using this
  have k1:=SeqAt.RcAt.tuples p1 p2 hu' hj
  have k2:=SeqAt.RcNeAt.tuples p1 p2 hu' hj
  rw [List.size_toArray,List.size_toArray,ee]at k1 k2
  rw [D.eq]
  exact⟨k1,k2⟩
 | .ls l,.ls m,h,h',hu=>
  obtain⟨a,xs,rfl,h1,h2⟩:=h
  obtain⟨b,ys,rfl,h3,h4⟩:=h'
  cases r
  cases r'
  obtain⟨its,r1,p1,_⟩:=I.list h1
  obtain⟨its2,r2,p2,_⟩:=I.list h3
  rw [D.dep,D.dep]at hu
  obtain⟨e,he,ee⟩:=eqsAt_D (A:=A.in1) I l m r1 r2 h2 h4 (by show A.units+1+_+_<_;omega)
  have hj:∀j (g1:j<its.toArray.size) (g2:j<its2.toArray.size),SeqAt.EqAt A.in1 s its.toArray[j] its2.toArray[j] (e j):=fun j g1 g2=>by
   have:=he j (by simpa using g1) (by simpa using g2)
   simpa using this
  rw [D.eq]
  by_cases hz:its.toArray.size=its2.toArray.size
  ·have k1:=SeqAt.RcAt.lists p1.isList p2.isList hz hu' hj
   have k2:=SeqAt.RcNeAt.lists p1.isList p2.isList hz hu' hj
   rw [List.size_toArray,List.size_toArray]at hz
   rw [<-hz,Nat.min_self,beq_self_eq_true,Bool.and_true]at ee
   rw [List.size_toArray,ee]at k1 k2
   exact⟨k1,k2⟩
  ·have hb':(its.length==its2.length)=false:=by simpa using hz
   rw [hb',Bool.and_false]at ee
   rw [<-ee]
   exact⟨.lists_lengths p1.isList p2.isList (by simpa using hz) hu',.lists_lengths p1.isList p2.isList (by simpa using hz) hu'⟩
def rEqD (K:PySem.W.Frag) (neg:Bool):R2:=fun x y H Q=>∃d e,Den K H d x/\Den K H e y/\d.dep+e.dep<=100/\Q (.bl (if neg then !d.eq e else d.eq e)) H
theorem op_eqD (hu:X.A.units+101<cLine):OpR X (compareOp .Eq) (rEqD X.K false):=by
 intro pins s σ H x y v u Q I rx ry h
 obtain⟨d,e,h1,h2,hd,q⟩:=h
 exact(rcAt_D (A:=X.A) I d e rx ry h1 h2 (by omega)).1 _ _ _ _ ⟨.bl _,H,I,rfl,q⟩
end
mutual
def DenN (Av:Addr->Prop) (H:Hp):D->V->Prop
 | .fl x,v=>v=x/\flatV x=true
 | .tp l,v=>∃p xs,v= .ref p/\H p=some (.tup xs)/\DensN Av H l xs
 | .ls l,v=>∃p xs,v= .ref p/\¬Av p/\H p=some (.lst xs)/\DensN Av H l xs
def DensN (Av:Addr->Prop) (H:Hp):List D->List V->Prop
 | [],xs=>xs=[]
 |d::l,xs=>∃x r,xs=x::r/\DenN Av H d x/\DensN Av H l r
end
section
variable {Av:Addr->Prop} {H H':Hp}
mutual
theorem DenN.mono (k1:∀b xs,H b=some (.tup xs)->H' b=some (.tup xs)) (k2:∀b xs,¬Av b->H b=some (.lst xs)->H' b=some (.lst xs)):∀(d:D) {v:V},DenN Av H d v->DenN Av H' d v
 | .fl x,v,h=>h
 | .tp l,v,h=>by
  obtain⟨p,xs,e,hp,t⟩:=h
  exact⟨p,xs,e,k1 _ _ hp,DensN.mono k1 k2 l t⟩
 | .ls l,v,h=>by
  obtain⟨p,xs,e,n,hp,t⟩:=h
  exact⟨p,xs,e,n,k2 _ _ n hp,DensN.mono k1 k2 l t⟩
theorem DensN.mono (k1:∀b xs,H b=some (.tup xs)->H' b=some (.tup xs)) (k2:∀b xs,¬Av b->H b=some (.lst xs)->H' b=some (.lst xs)):∀(l:List D) {xs:List V},DensN Av H l xs->DensN Av H' l xs
 | [],xs,h=>h
 |d::l,xs,h=>by
  obtain⟨x,r,e,h1,h2⟩:=h
  exact⟨x,r,e,DenN.mono k1 k2 d h1,DensN.mono k1 k2 l h2⟩
end
mutual
theorem DenN.den (K:PySem.W.Frag):∀(d:D) {v:V},DenN Av H d v->Den K H d v
 | .fl x,v,h=>h
 | .tp l,v,h=>by
  obtain⟨p,xs,e,hp,t⟩:=h
  exact⟨p,xs,e,SqT.of hp,DensN.dens K l t⟩
 | .ls l,v,h=>by
  obtain⟨p,xs,e,n,hp,t⟩:=h
  exact⟨p,xs,e,SqL.of hp,DensN.dens K l t⟩
theorem DensN.dens (K:PySem.W.Frag):∀(l:List D) {xs:List V},DensN Av H l xs->Dens K H l xs
 | [],xs,h=>h
 |d::l,xs,h=>by
  obtain⟨x,r,e,h1,h2⟩:=h
  exact⟨x,r,e,DenN.den K d h1,DensN.dens K l h2⟩
end
mutual
theorem DenN.weak {Bv:Addr->Prop} (k:∀b,Bv b->Av b):∀(d:D) {v:V},DenN Av H d v->DenN Bv H d v
 | .fl x,v,h=>h
 | .tp l,v,h=>by
  obtain⟨p,xs,e,hp,t⟩:=h
  exact⟨p,xs,e,hp,DensN.weak k l t⟩
 | .ls l,v,h=>by
  obtain⟨p,xs,e,n,hp,t⟩:=h
  exact⟨p,xs,e,fun z=>n (k p z),hp,DensN.weak k l t⟩
theorem DensN.weak {Bv:Addr->Prop} (k:∀b,Bv b->Av b):∀(l:List D) {xs:List V},DensN Av H l xs->DensN Bv H l xs
 | [],xs,h=>h
 |d::l,xs,h=>by
  obtain⟨x,r,e,h1,h2⟩:=h
  exact⟨x,r,e,DenN.weak k d h1,DensN.weak k l h2⟩
end
theorem DenN.fl {x:V} (h:flatV x=true:=by rfl):DenN Av H (.fl x) x:=⟨rfl,h⟩
theorem DensN.cons {d:D} {x:V} {l:List D} {xs:List V} (h:DenN Av H d x) (t:DensN Av H l xs):DensN Av H (d::l) (x::xs):=⟨x,xs,rfl,h,t⟩
theorem DensN.nil:DensN Av H [] []:=rfl
mutual
theorem DenN.refl:∀(d:D) {v:V},DenN Av H d v->d.eq d=true
 | .fl x,v,h=>by
  rw [D.eq]
  exact eqV_refl h.2
 | .tp l,v,h=>by
  obtain⟨p,xs,e,hp,t⟩:=h
  rw [D.eq]
  exact DensN.refl l t
 | .ls l,v,h=>by
  obtain⟨p,xs,e,n,hp,t⟩:=h
  rw [D.eq]
  exact DensN.refl l t
theorem DensN.refl:∀(l:List D) {xs:List V},DensN Av H l xs->D.eqs l l=true
 | [],xs,h=>by rw [D.eqs]
 |d::l,xs,h=>by
  obtain⟨x,r,e,h1,h2⟩:=h
  rw [D.eqs,DenN.refl d h1,DensN.refl l h2]
  rfl
end
end
theorem new_of {H H1:Hp} {p:Addr} {o:HO} (h:H p=none) (e:upd H p o=H1):Same H H1/\H1 p=some o:=by
 subst e
 refine⟨fun b u q=>?_,upd_same⟩
 rw [upd_ne (ne_of_none q h)]
 exact q
section
variable {X:Cx} {Av:Addr->Prop}
end
structure Cal (P:Program) (w:World) (K:PySem.W.Frag) (mg:Str->Option Value) (base:Heap) (CX:CXT) (k:Nat) (x:Str) (ps:List Str) (sp:Sp):Prop where
 ex:∃f fd,FnOk P w K mg base CX k f fd ps sp/\mg x=some (.ref f)/\PySem.W.keepIn K (.ref f)=true/\Binds K fd ps []
theorem pe_c {X:Cx} {CX:CXT} {k:Nat} {x:Str} {ps:List Str} {sp:Sp} {E:XK} {e:Expr} {es:List Expr} {t:TA} {p pos:Pos} (C:Cal X.prog X.w X.K X.mg X.base CX k x ps sp) (hr:Room k X.A) (hg:Gl X x) (hx:Passes CX X E)
  (ha:PA X (e::es) t) (hdb:(x==("__debug__":Str))=false:=by decide) (he:starEach (e::es) X.env=(false,eval e X.env)::starEach es X.env:=by rfl) (hpl:(backTo pos (starEach es X.env)).any (·.1)=false:=by rfl):
  PE X (.Call (.Name x p) (e::es) [] pos) (tCall sp [] E t):=by
 obtain⟨f,fd,F,hm,hk,hb⟩:=C.ex
 exact pe_call F hr hg hm hk hb .nil hx ha hdb he hpl
abbrev CompOk (scope sc0:Scope) (cap:List (Str×Nat)) (N:List Str):Prop:=scope.kind= .function/\(∀y∈scope.names,y.2≠ .cell)/\(∀y∈scope.names,y.2= .local->scope.names.lookup y.1=some .local)/\
 (∀y∈scope.names,y.2= .free->sc0.names.lookup y.1=some .cell)/\(∀p∈cap,N[p.2]? =some p.1/\scope.names.lookup p.1=some .free/\sc0.names.lookup p.1=some .cell)
section
variable {X:Cx}
theorem cs_of {scope:Scope} {cap:List (Str×Nat)} {sc0:Scope} {N0:List Str} (hs:X.env.scope=sc0) (hN:X.N=N0) (hcell:∀x,X.env.scope.names.lookup x=some .cell->∃c,X.env.cells.lookup x=some c) (ok:CompOk scope sc0 cap N0):∃cl,CompScope X scope cap cl:=by
 subst hs hN
 exact comp_scope hcell ok.1 ok.2.1 ok.2.2.1 ok.2.2.2.1 ok.2.2.2.2
theorem pe_cp {elt iter tg:Expr} {scope:Scope} {own:List Str} {cap:List (Str×Nat)} {pos:Pos} {wi:TI} {g:TG} {te:TE} (sc0:Scope) (N0:List Str) (hsc:X.env.scope=sc0) (hN:X.N=N0) (hcell:∀x,X.env.scope.names.lookup x=some .cell->∃c,X.env.cells.lookup x=some c)
  (ok:CompOk scope sc0 cap N0) (hc:X.calm=true) (hi:PI X tg iter wi)
  (hg:∀cl C s2 H2 fp,PG (cxComp X (capN own cap) scope cl C s2 H2 fp) tg g) (he:∀cl C s2 H2 fp,PE (cxComp X (capN own cap) scope cl C s2 H2 fp) elt te)
  (hs:∀x,foldedSetIterable iter X.env x=pure x:=by intro _;rfl):PE X (.ListComp elt [⟨tg,iter,[],0⟩] scope pos) (tComp own.length cap wi g te):=by
 obtain⟨cl,S⟩:=cs_of hsc hN hcell ok
 exact pe_comp S hc hi (hg cl) (he cl) hs
theorem pe_cpF {elt iter tg ci:Expr} {scope:Scope} {own:List Str} {cap:List (Str×Nat)} {pos:Pos} {wi:TI} {g:TG} {tc:TT} {te:TE} (sc0:Scope) (N0:List Str) (hsc:X.env.scope=sc0) (hN:X.N=N0) (hcell:∀x,X.env.scope.names.lookup x=some .cell->∃c,X.env.cells.lookup x=some c)
  (ok:CompOk scope sc0 cap N0) (hc:X.calm=true) (hi:PI X tg iter wi)
  (hg:∀cl C s2 H2 fp,PG (cxComp X (capN own cap) scope cl C s2 H2 fp) tg g) (htc:∀cl C s2 H2 fp,PT (cxComp X (capN own cap) scope cl C s2 H2 fp) ci tc) (he:∀cl C s2 H2 fp,PE (cxComp X (capN own cap) scope cl C s2 H2 fp) elt te)
  (hs:∀x,foldedSetIterable iter X.env x=pure x:=by intro _;rfl):PE X (.ListComp elt [⟨tg,iter,[ci],0⟩] scope pos) (tCompF own.length cap wi g tc te):=by
 obtain⟨cl,S⟩:=cs_of hsc hN hcell ok
 exact pe_compF S hc hi (hg cl) (htc cl) (he cl) hs
theorem ps_cp {i:Nat} {x:Str} {elt iter tg:Expr} {scope:Scope} {own:List Str} {cap:List (Str×Nat)} {pos spos py:Pos} {wi:TI} {g:TG} {te:TE} (hnd:X.N.Nodup) (hi':X.N[i]? =some x) (hx:Loc X.env.scope x)
  (sc0:Scope) (N0:List Str) (hsc:X.env.scope=sc0) (hN:X.N=N0) (hcell:∀x,X.env.scope.names.lookup x=some .cell->∃c,X.env.cells.lookup x=some c)
  (ok:CompOk scope sc0 cap N0) (hc:X.calm=true) (hi:PI X tg iter wi)
  (hg:∀cl C s2 H2 fp,PG (cxComp X (capN own cap) scope cl C s2 H2 fp) tg g) (he:∀cl C s2 H2 fp,PE (cxComp X (capN own cap) scope cl C s2 H2 fp) elt te)
  (hsw:swapsWith (.ListComp elt [⟨tg,iter,[],0⟩] scope pos) (some (.Name x py)) spos.line X.env=pure true:=by rfl)
  (hs:∀x,foldedSetIterable iter X.env x=pure x:=by intro _;rfl) (hf:X.fn x=true∨X.env.scope.names.lookup x=some .local:=by first|exact .inl rfl|exact .inr rfl|assumption):
  PS X (.Assign [.Name x py] (.ListComp elt [⟨tg,iter,[],0⟩] scope pos) spos) (tAsg (tComp own.length cap wi g te) (gName i)):=by
 obtain⟨cl,S⟩:=cs_of hsc hN hcell ok
 exact ps_setComp hnd hi' hx S hc hi (hg cl) (he cl) hsw hs hf
end
structure CompScopeC (X:Cx) (scope:Scope) (cap:List (Str×Nat)) (cl:List (Str×Addr)):Prop where
 clos:closureFor scope X.env=pure cl
 kind:scope.kind= .function
 names:∀y∈scope.names,y.2= .local->scope.names.lookup y.1=some .local
 sub:∀x c,cl.lookup x=some c->X.env.cells.lookup x=some c
 has:∀x,scope.names.lookup x=some .free->∃c,cl.lookup x=some c
 capn:∀p∈cap,¬(p.1,NameKind.cell)∈scope.names
 cap:∀p∈cap,X.N[p.2]? =some p.1/\scope.names.lookup p.1=some .free/\X.env.scope.names.lookup p.1=some .cell
def CellsFor (X:Cx) (scope:Scope) (cs:List (Str×Addr)):Prop:=∀x,(scope.names.lookup x=some .cell∨(scope.names.lookup x=some .free/\X.env.scope.names.lookup x=some .cell))->∃c,cs.lookup x=some c
abbrev cxCompC (X:Cx) (Nc:List Str) (scope:Scope) (cs:List (Str×Addr)) (C:Addr) (s2:Shared) (H2:Hp) (fp:List Addr):Cx:=
 {prog:=X.prog,w:=X.w,K:=X.K,mg:=X.mg,base:=X.base,A:=X.A,N:=Nc,s₀:=s2,H₀:=H2,env:={compEnvC scope [] C X.env with cells:=cs},outer:=X.stack,stack:=X.stack,ex:=fp,fn:=fun x=>decide (scope.names.lookup x=some .cell),calm:=X.calm,pn:=[],xe:=fun _ _=>False}
theorem cellsFrom_app:∀(names:List (Str×NameKind)) (n:Nat) (acc:List (Str×Addr)),cellsFrom n names acc=cellsFrom n names []++acc
 | [],_,_=>rfl
 |(y,k)::r,n,acc=>by
  unfold cellsFrom
  split
  ·rw [cellsFrom_app r (n+1) ((y,n)::acc),cellsFrom_app r (n+1) [(y,n)],List.append_assoc]
   rfl
  ·exact cellsFrom_app r n acc
theorem cellsFrom_mem':∀(names:List (Str×NameKind)) (n:Nat) (acc:List (Str×Addr)) {x:Str} {c:Addr},(x,c)∈cellsFrom n names acc->(x,NameKind.cell)∈names∨(x,c)∈acc
 | [],_,_,_,_,h=> .inr h
 |(y,k)::r,n,acc,x,c,h=>by
  unfold cellsFrom at h
  split at h
  ·rename_i hk
   rcases cellsFrom_mem' r _ _ h with z|z
   ·exact .inl (List.mem_cons_of_mem _ z)
   ·rcases List.mem_cons.mp z with e|z
    ·cases e
     rw [show k= .cell from eq_of_beq hk]
     exact .inl List.mem_cons_self
    ·exact .inr z
  ·rcases cellsFrom_mem' r _ _ h with z|z
   ·exact .inl (List.mem_cons_of_mem _ z)
   ·exact .inr z
theorem cellsFrom_mem {names:List (Str×NameKind)} {n:Nat} {x:Str} {c:Addr} (h:(x,c)∈cellsFrom n names []):(x,NameKind.cell)∈names:=(cellsFrom_mem' names n [] h).elim id fun z=>nomatch z
section
variable {α:Type} {A B:List (Str×α)} {x:Str} {c:α}
theorem lookup_app_eq:(A++B).lookup x=(A.lookup x).or (B.lookup x):=List.lookup_append ..
theorem lookup_app (h:(A++B).lookup x=some c):A.lookup x=some c∨(A.lookup x=none/\B.lookup x=some c):=by
 rw [lookup_app_eq]at h
 cases q:A.lookup x with
 |none=>rw [q]at h;exact .inr ⟨rfl,h⟩
 |some d=>rw [q]at h;exact .inl h
theorem lookup_app_l (h:A.lookup x=some c):(A++B).lookup x=some c:=by rw [lookup_app_eq,h];rfl
theorem lookup_app_n (h:A.lookup x=none) (h':B.lookup x=some c):(A++B).lookup x=some c:=by rw [lookup_app_eq,h];exact h'
theorem lookup_app_r (h:B.lookup x=some c):∃d,(A++B).lookup x=some d:=by
 cases q:A.lookup x with
 |none=>exact⟨c,lookup_app_n q h⟩
 |some d=>exact⟨d,lookup_app_l q⟩
end
theorem newCompEnv {M:Model} {A:Around} {E:Value->Shared->Prop} {s:Shared} {scope:Scope} {globals:Addr} {cl:List (Str×Addr)} {qual:Str} {env0:Env} {Q:Env->Shared->Prop} (_hk:scope.kind= .function)
  (h:Q {scope:=scope,locals:=s.heap.objs.size,globals:=globals,cells:=cellsFrom (s.heap.objs.size+1) scope.names cl,qual:=qual,func:=none,code:=env0.code,frame:=env0.frame,builtins:=env0.builtins}
   {s with heap:=pushCells (s.heap.push {cls:= .type "dict",data:= .dict #[]}) scope.names}):
  wpAny M A (newFunctionEnv scope globals cl [] qual none .none (some env0)) Q E s:=by
 simp only [newFunctionEnv,Option.isSome_some,if_true]
 refine wpAny_bind (wpAny_alloc (wpAny_bind (wpAny_layCells _ (fun nm kd cs=>by cases hq:kd==NameKind.cell<;>simp [hq]) _ _ _ _ ?_)))
 have e:({s with heap:=s.heap.push {cls:= .type "dict",data:= .dict #[]}}:Shared).heap.objs.size=s.heap.objs.size+1:=Heap.size_push ..
 rw [e]
 exact wpAny_bind (wpAny_pure (wpAny_pure h))
section
variable {prog:Program} {w:World} {A:Around} {R:Result->Shared->Prop} {s:Shared}
def PTs (X:Cx) (cis:List Expr) (t:TT):Prop:=
 ∀(pins:List (Addr×Obj)) (s:Shared) (σ:St) (H:Hp) (Q:Bool->Hp->Prop),Inv X pins σ H s->t σ H Q->wpAny (model X.prog X.w) X.A (forIn cis true fun c r=>if r=true then do let ok<-isTrue c X.env (eval c X.env);pure (ForInStep.yield ok)else pure (ForInStep.yield r)) (TP X pins σ Q) X.xe s
theorem pts_one {X:Cx} {c:Expr} {t:TT} (h:PT X c t):PTs X [c] t:=fun pins s σ H Q I q=>wpAny_tests_one (h pins s σ H Q I q)
def tYes:TT:=fun _ H Q=>Q true H
theorem pts_nil {X:Cx}:PTs X [] tYes:=fun pins s σ H Q I q=>wpAny_tests_nil ⟨H,I,q⟩
theorem compLoopG_any {elt target iter:Expr} {cis:List Expr} {scope:Scope} {pos:Pos} {it acc:Value} {env:Env} (I:Nat->Shared->Prop)
  (turn:∀n s,I n s->wpAny (model prog w) A (pyNext it) (fun r s₁=>match r with
   |none=>R (.ok .next) s₁
   |some v=>wpAny (model prog w) A (letOwnedTupleGo target it v) (fun _ s₁'=>wpAny (model prog w) A (assign target env v) (fun _ s₂=>wpAny (model prog w) A (forIn cis true fun c r=>if r=true then do let ok<-isTrue c env (eval c env);pure (ForInStep.yield ok)else pure (ForInStep.yield r)) (fun ok s₂'=>if ok=true then wpAny (model prog w) A (eval elt env) (fun x s₃=>
     wpAny (model prog w) A (call (.builtin "list.append") [acc,x]) (fun _ s₄=>∃m,m<n/\I m s₄) (fun _ _=>False) s₃) (fun _ _=>False) s₂' else∃m,m<n/\I m s₂') (fun _ _=>False) s₂) (fun _ _=>False) s₁') (fun _ _=>False) s₁) (fun _ _=>False) s)
  (n:Nat) (h:I n s):
  codeAny (model prog w) A (.compLoop (.ListComp elt [⟨target,iter,cis,0⟩] scope pos) 0 it acc env) R s:=by
 refine codeAny_loop rfl I (fun n s hI=>?_) n h
 show wpAny _ _ ((compTurn (.ListComp elt [⟨target,iter,cis,0⟩] scope pos) 0 it acc env).onRaise (fun x=>do noteFrame x env;theTreesLotGoes x)) _ _ s
 refine wpAny_noted ?_
 rw [compTurn_list]
 refine wpAny_bind (wpAny_standAt (wpAny_bind (wpAny_mono (turn n s hI) (fun r s₁ h₁=>?_) fun _ _ h'=>h'.elim)))
 cases r with
 |none=>exact wpAny_pure h₁
 |some v=>
  refine wpAny_bind (wpAny_mono h₁ (fun _ s₁' h₁'=>?_) fun _ _ h'=>h'.elim)
  refine wpAny_bind (wpAny_mono h₁' (fun _ s₂ h₂=>?_) fun _ _ h'=>h'.elim)
  refine wpAny_bind (wpAny_mono h₂ (fun okb s₃ h₃=>?_) fun _ _ h'=>h'.elim)
  cases okb with
  |false=>exact wpAny_pure ⟨rfl,h₃⟩
  |true=>exact wpAny_bind (wpAny_bind (wpAny_mono h₃ (fun x s₄ h₄=>wpAny_bind (wpAny_mono h₄ (fun _ s₅ h₅=>wpAny_pure (wpAny_pure ⟨rfl,h₅⟩)) fun _ _ h'=>h'.elim)) fun _ _ h'=>h'.elim))
end
section
variable {X:Cx} {pins:List (Addr×Obj)} {σ:St} {s2:Shared} {H2:Hp}
theorem comp_blockG {elt iter tg:Expr} {cis:List Expr} {scope:Scope} {own:List Str} {cap:List (Str×Nat)} {cl:List (Str×Addr)} {pos:Pos} {J:It} {fp:List Addr} {it:Addr} {tn:Nat->Heap->Prop} {g:TG} {tc:TT} {te:TE} {Q:VK}
  (S:CompScopeC X scope cap cl) (hc:X.calm=true) (I:Inv X pins σ H2 s2) (T:Turn X.prog X.w X.K tg J fp it tn) (st:tn 0 s2.heap) (hf:∀b∈fp,FpOk X pins H2 b)
  (hg:∀cs,CellsFor X scope cs->∀C s2 H2 fp,PG (cxCompC X (capN own cap) scope cs C s2 H2 fp) tg g) (htc:∀cs,CellsFor X scope cs->∀C s2 H2 fp,PTs (cxCompC X (capN own cap) scope cs C s2 H2 fp) cis tc) (he:∀cs,CellsFor X scope cs->∀C s2 H2 fp,PE (cxCompC X (capN own cap) scope cs C s2 H2 fp) elt te)
  (W:Nat->Nat->St->Hp->Prop) (w0:∃m,W 0 m (capSt own.length cap σ) (upd H2 s2.heap.objs.size (.lst [])))
  (turn:∀i m σc H3,W i m σc H3->(J.stop i H3/\Q (.ref s2.heap.objs.size) H3)∨(J.go i H3/\∀x H4,J.yld i H3 x H4->g x σc H4 fun σ5 H5=>tc σ5 H5 fun ok H5'=>if ok=true then te σ5 H5' fun y H6=>∃ys,H6 s2.heap.objs.size=some (.lst ys)/\ys.length<sizeLine/\∃m',m'<m/\W (i+1) m' σ5 (upd H6 s2.heap.objs.size (.lst (ys++[y])))else∃m',m'<m/\W (i+1) m' σ5 H5'))
  {RR:Value->Addr->Result->Shared->Prop}
  (hRR:∀C H' s' m,s2.heap.objs.size<=C->s'.heap.Ns C m->H' C=none->Inv X pins σ H' s'->(∀h',Heap.SameBut C s'.heap h'->Inv X pins σ H' {s' with heap:=h'})->Q (.ref s2.heap.objs.size) H'->RR (.ref s2.heap.objs.size) C (.ok .next) s')
  {E:Value->Shared->Prop}:
  wpAny (model X.prog X.w) X.A (newList []) (fun acc s₃=>wpAny (model X.prog X.w) X.A (newFunctionEnv scope X.env.globals cl [] X.env.qual none .none (some X.env)) (fun cenv s₄=>
   codeAny (model X.prog X.w) X.A (.compStart (.ListComp elt [⟨tg,iter,cis,0⟩] scope pos) 0 (.ref it) acc {cenv with scope:=relabel scope X.env}) (RR acc cenv.locals) s₄) E s₃) E s2:=by
 refine wpAny_newObj_type (newCompEnv S.kind ?_)
 dsimp only
 generalize hH2:s2.heap.push {cls:= .type "list",dict:=none,data:= .seq ([]:List Value).toArray}=G2
 have hC:G2.objs.size=s2.heap.objs.size+1:=by rw [<-hH2,Heap.size_push]
 have hDC:s2.heap.objs.size≠G2.objs.size:=by rw [hC];exact Nat.ne_of_lt (Nat.lt_succ_self _)
 have hCle:s2.heap.objs.size<=G2.objs.size:=by rw [hC];exact Nat.le_succ _
 have below:∀b,b<s2.heap.objs.size->b≠G2.objs.size/\b≠s2.heap.objs.size:=fun b hb=>⟨by rw [hC];exact Nat.ne_of_lt (Nat.lt_succ_of_lt hb),Nat.ne_of_lt hb⟩
 have hG1:(G2.push {cls:= .type "dict",data:= .dict #[]}).objs.size=G2.objs.size+1:=Heap.size_push ..
 have okA:=cellsFrom_ok scope.names (G2.push {cls:= .type "dict",data:= .dict #[]}) (G2.objs.size+1) [] ⟨fun _ _ z=>(nomatch z),List.Pairwise.nil⟩ (by rw [hG1];exact Nat.le_refl _)
 rw [hG1]at okA
 have app:cellsFrom (G2.objs.size+1) scope.names cl=cellsFrom (G2.objs.size+1) scope.names []++cl:=cellsFrom_app _ _ _
 have kept:∀b o,G2.get? b=some o->(pushCells (G2.push {cls:= .type "dict",data:= .dict #[]}) scope.names).get? b=some o:=fun b o e=>pushCells_keeps _ _ b o (Heap.get?_push_of_some _ e)
 have hns₁:(pushCells (G2.push {cls:= .type "dict",data:= .dict #[]}) scope.names).Ns G2.objs.size (fun _=>none):=(Heap.Ns.new G2 (.type "dict")).keeps (pushCells_keeps _ _)
 have old:∀b o,s2.heap.get? b=some o->(pushCells (G2.push {cls:= .type "dict",data:= .dict #[]}) scope.names).get? b=some o:=fun b o e=>kept b o (hH2▸Heap.get?_push_of_some _ e)
 have hacc:(pushCells (G2.push {cls:= .type "dict",data:= .dict #[]}) scope.names).get? s2.heap.objs.size=some {cls:= .type "list",dict:=none,data:= .seq ([]:List Value).toArray}:=kept _ _ (hH2▸Heap.get?_push_size _ rfl)
 have newc:∀x c,(cellsFrom (G2.objs.size+1) scope.names []).lookup x=some c->(pushCells (G2.push {cls:= .type "dict",data:= .dict #[]}) scope.names).IsCell c none/\G2.objs.size+1<=c:=fun x c e=>okA.empty x c (PySem.mem_of_lookup e)
 have newinj:∀x y c,(cellsFrom (G2.objs.size+1) scope.names []).lookup x=some c->(cellsFrom (G2.objs.size+1) scope.names []).lookup y=some c->x=y:=fun x y c e1 e2=>name_of_addr okA.apart (PySem.mem_of_lookup e1) (PySem.mem_of_lookup e2)
 have ownc:∀x,scope.names.lookup x=some .cell->∃c,(cellsFrom (G2.objs.size+1) scope.names []).lookup x=some c:=fun x hx=>Option.isSome_iff_exists.mp (PySem.W.cellsFrom_some scope.names _ [] (.inl hx))
 generalize hh₁:pushCells (G2.push {cls:= .type "dict",data:= .dict #[]}) scope.names=h₁ at hns₁ old hacc newc⊢
 generalize hcA:cellsFrom (G2.objs.size+1) scope.names []=cA at app newc newinj ownc
 generalize hcs:cellsFrom (G2.objs.size+1) scope.names cl=cs at app⊢
 subst app
 have both:∀x c,(cA++cl).lookup x=some c->(cA.lookup x=some c∨(cA.lookup x=none/\cl.lookup x=some c)):=fun x c e=>lookup_app e
 have hfps:∀b∈fp,b<s2.heap.objs.size:=fun b hb=>by
  obtain⟨o,e,_⟩:=T.obj _ _ st b hb
  exact Heap.lt_size e
 have hfree:∀b,s2.heap.objs.size<=b->H2 b=none:=fun b hb=>I.hok.fresh hb
 have old2:∀x c,cl.lookup x=some c->c<s2.heap.objs.size:=fun x c e=>by
  obtain⟨v,o,ho,_⟩:=I.cell x c (S.sub x c e)
  exact Heap.lt_size ho
 have clash:∀c,G2.objs.size+1<=c->c<s2.heap.objs.size->False:=fun c h1 h2=>Nat.lt_irrefl _ (Nat.lt_of_lt_of_le h2 (Nat.le_trans hCle (Nat.le_of_succ_le h1)))
 have cfor:CellsFor X scope (cA++cl):=fun x hx=>by
  rcases hx with h|⟨h,_⟩
  ·obtain⟨c,e⟩:=ownc x h
   exact⟨c,lookup_app_l e⟩
  ·obtain⟨c,e⟩:=S.has x h
   exact lookup_app_r e
 generalize hX:cxCompC X (capN own cap) scope (cA++cl) G2.objs.size s2 H2 fp=X'
 have hOk:X'.Ok:=by
  subst hX
  refine⟨I.ok.mod,S.kind,I.ok.glob,I.ok.blt,hCle,fun x y c e1 e2=>?_,fun x hx=>?_,fun x c z e=>?_,I.ok.hd,I.ok.frames,.inl rfl,
   fun b hb=>⟨(below b (hfps b hb)).1,fun x c e=>?_⟩,I.bs,Nat.le_trans I.ok.bsz I.sz,fun b o e hb=>?_,fun b hb z=>?_,I.stack,I.stkFree⟩
  ·rcases both x c e1 with a1|⟨_,a1⟩
   ·rcases both y c e2 with a2|⟨_,a2⟩
    ·exact newinj x y c a1 a2
    ·exact(clash c (newc x c a1).2 (old2 y c a2)).elim
   ·rcases both y c e2 with a2|⟨_,a2⟩
    ·exact(clash c (newc y c a2).2 (old2 x c a1)).elim
    ·exact I.ok.inj x y c (S.sub x c a1) (S.sub y c a2)
  ·rcases lookup_relabel_inv (env:=X.env) (names:=scope.names) (x:=x) hx with h|h
   ·obtain⟨c,e⟩:=S.has x h
    exact lookup_app_r e
   ·obtain⟨c,e⟩:=ownc x h
    exact⟨c,lookup_app_l e⟩
  ·obtain⟨c',e'⟩:=ownc x (of_decide_eq_true z)
   have q:(cA++cl).lookup x=some c':=lookup_app_l e'
   have q2:some c'=some c:=q.symm.trans e
   cases q2
   exact Nat.le_trans hCle (Nat.le_trans (Nat.le_succ _) (newc x c e').2)
  ·rcases both x c e with a1|⟨_,a1⟩
   ·exact fun z=>clash c (newc x c a1).2 (z.symm▸hfps b hb)
   ·exact(hf b hb).2.2.2.2.1 x c (S.sub x c a1)
  ·rcases (hf b hb).2.2.2.1 with z|z
   ·exact I.ok.noex b o e z
   ·exact absurd (Nat.lt_of_lt_of_le (Heap.lt_size e) (Nat.le_trans I.ok.bsz z)) (Nat.lt_irrefl _)
  ·rcases List.mem_cons.mp (I.stkSub b z)with z|z
   ·exact(hf b hb).2.1 z
   ·exact(hf b hb).2.2.1 z
 have hI0:Inv X' [] (capSt own.length cap σ) (upd H2 s2.heap.objs.size (.lst [])) {s2 with heap:=h₁}:=by
  subst hX
  refine⟨hOk,rfl,I.bare,Un.laid old (Nat.le_refl _) (hfree _ (Nat.le_refl _)),⟨_,hns₁,fun i x v e1 e2 e3=>?_⟩,fun x c e=>?_,?_,fun x c e=>?_,fun p hp=>absurd (show p∈([]:List (Addr×Obj))from hp) (by simp),?_,?_⟩
  ·obtain⟨p,hp,rfl,hσ⟩:=capSt_get rfl e1 e2
   obtain⟨c1,c2,c3⟩:=S.cap p hp
   obtain⟨m,hn,hl⟩:=I.loc
   obtain⟨u,r,l⟩:=hl p.2 p.1 v c1 hσ (.inr (.inl c3))
   refine⟨u,r,.inr ⟨.inl (lookup_relabel_free I.ok.kind c2 c3),?_⟩⟩
   obtain⟨c,hcl⟩:=S.has _ c2
   have nA:cA.lookup p.1=none:=by
    cases q:cA.lookup p.1 with
    |none=>rfl
    |some c0=>
     have z:=PySem.mem_of_lookup q
     rw [<-hcA]at z
     exact absurd (cellsFrom_mem z) (S.capn p hp)
   refine⟨c,lookup_app_n nA hcl,?_⟩
   rcases l with ⟨k,_⟩|⟨_,c',e,z⟩
   ·have k':X.env.scope.names.lookup p.1=some .local:=k
    rw [c3]at k';cases k'
   ·have:=S.sub _ _ hcl
    rw [e]at this;cases this
    obtain⟨o,ho,hd⟩:=z
    exact⟨o,old _ _ ho,hd⟩
  ·rcases both x c e with a1|⟨_,a1⟩
   ·exact⟨none,(newc x c a1).1⟩
   ·obtain⟨v,o,ho,hd⟩:=I.cell x c (S.sub x c a1)
    exact⟨v,o,old _ _ ho,hd⟩
  ·show upd H2 s2.heap.objs.size (.lst []) G2.objs.size=none
   rw [upd_ne (Ne.symm hDC)]
   exact hfree _ hCle
  ·rcases both x c e with a1|⟨_,a1⟩
   ·have h1:=(newc x c a1).2
    have h2:s2.heap.objs.size<=c:=Nat.le_trans hCle (Nat.le_of_succ_le h1)
    have h3:c≠s2.heap.objs.size:=fun z=>by
     rw [z]at h1
     exact hDC (Nat.le_antisymm hCle (Nat.le_of_succ_le h1))
    rw [upd_ne h3]
    exact hfree c h2
   ·have e':=S.sub x c a1
    obtain⟨v,o,ho,hd⟩:=I.cell x c e'
    rw [upd_ne (below c (Heap.lt_size ho)).2]
    exact I.freeC x c e'
  ·exact I.hok.laid old (Nat.le_refl _) ⟨Nat.zero_le _,[],_,.nil,hacc⟩
  ·show(capSt own.length cap σ).length=(capN own cap).length
   unfold capSt capN
   simp
 have hP:X'.prog=X.prog:=by subst hX;rfl
 have hw:X'.w=X.w:=by subst hX;rfl
 have hK:X'.K=X.K:=by subst hX;rfl
 have hA:X'.A=X.A:=by subst hX;rfl
 have hcalm:X'.calm=true:=by subst hX;exact hc
 have hxe:X'.xe=fun _ _=>False:=by subst hX;rfl
 have henv:X'.env={compEnvC scope cl G2.objs.size X.env with cells:=cA++cl}:=by subst hX;rfl
 have hbase:∀{σ' H' s'},Inv X' [] σ' H' s'->Un (frs X.stack) fp H2 H' s2.heap s'.heap/\s'.os=s2.os:=fun{σ' H' s'} J=>by subst hX;exact⟨J.base,J.os⟩
 have hg':PG X' tg g:=by subst hX;exact hg _ cfor _ _ _ _
 have he':PE X' elt te:=by subst hX;exact he _ cfor _ _ _ _
 have htc':PTs X' cis tc:=by subst hX;exact htc _ cfor _ _ _ _
 have stat:∀{H':Hp},(∀b∈fp,H' b=none)->∀b∈fp,FpOk X' [] H' b:=fun{H'} hn b hb=>by
  subst hX
  refine⟨hn b hb,(below b (hfps b hb)).1,fun z=>?_,.inl hb,fun x c e=>?_,fun p hp=>absurd (show p∈([]:List (Addr×Obj))from hp) (by simp)⟩
  rcases List.mem_cons.mp (I.stkSub b z)with z|z
  ·exact(hf b hb).2.1 z
  ·exact(hf b hb).2.2.1 z
  rcases both x c e with a1|⟨_,a1⟩
  ·exact fun z=>clash c (newc x c a1).2 (z.symm▸hfps b hb)
  ·exact(hf b hb).2.2.2.2.1 x c (S.sub x c a1)
 have back:∀{σ' H' s'},Inv X' [] σ' H' s'->Q (.ref s2.heap.objs.size) H'->RR (.ref s2.heap.objs.size) G2.objs.size (.ok .next) s':=fun{σ' H' s'} J q=>by
  obtain⟨u,ho⟩:=hbase J
  have hcf:∀b∈fp,(b∈X.ex∨X.s₀.heap.objs.size<=b)/\b≠X.env.locals/\(∀x c,X.env.cells.lookup x=some c->c≠b)/\∀p∈X.pn++pins,p.1≠b:=fun b hb=>by
   obtain⟨f0,f1,f2,f3,f4,f5⟩:=hf b hb
   exact⟨f3,f1,f4,f5⟩
  have hCn:H' G2.objs.size=none:=by have:=J.free;rw [henv]at this;exact this
  have hok':HOk X.prog X.w H' s'.heap:=by have:=J.hok;rw [hP,hw]at this;exact this
  obtain⟨m,hm,_⟩:=J.loc
  rw [henv]at hm
  refine hRR _ H' s' m hCle hm hCn (I.call' ho u hok' J.bare hcf) (fun h' hs=>?_) q
  have kn:∀b o,s2.heap.get? b=some o->h'.get? b=s'.heap.get? b:=fun b o e=>hs.2 b (below b (Heap.lt_size e)).1
  refine I.call' (s':={s' with heap:=h'}) ho ⟨fun b o e n hb hx=>(kn b o e).trans (u.keep b o e n hb hx),fun b o e n hb hx=>?_,u.free,fun b o e hx=>?_,u.tups,u.frzs,u.tbls⟩ (fun b ob e=>?_) J.bare hcf
  ·obtain⟨sl,e1⟩:=u.slot b o e n hb hx
   exact⟨sl,(kn b o e).trans e1⟩
  ·obtain⟨o',e1⟩:=u.there b o e hx
   exact⟨o',(kn b o e).trans e1⟩
  ·refine(hok' b ob e).stay (fun c w' hc q=>(hs.2 c ?_).trans q) (fun _ q=>q) fun _ _ q=>q
   rintro rfl
   rcases hc with rfl|hc
   ·rw [hCn]at e;cases e
   ·rw [hCn]at hc;cases hc
 have loop:∀s₃:Shared,s₃={s2 with heap:=h₁}->
   codeAny (model X.prog X.w) X.A (.compLoop (.ListComp elt [⟨tg,iter,cis,0⟩] scope pos) 0 (.ref it) (.ref s2.heap.objs.size) {compEnvC scope cl G2.objs.size X.env with cells:=cA++cl})
    (RR (.ref s2.heap.objs.size) G2.objs.size) s₃:=by
  rintro s₃ rfl
  obtain⟨m0,w0⟩:=w0
  refine compLoopG_any (fun n s'=>∃i σ' H',Inv X' [] σ' H' s'/\tn i s'.heap/\(∀b∈fp,H' b=none)/\W i n σ' H') ?_ m0
   ⟨0,_,_,hI0,T.keep _ _ _ st fun b hb o e=>old b o e,fun b hb=>?_,w0⟩
  ·rintro n s3 ⟨i,σ3,H3,I3,st3,fr3,w3⟩
   rcases turn i n σ3 H3 w3 with ⟨stop,qn⟩|⟨go,step⟩
   ·have d:=T.done X' hP hw hK hcalm i [] s3 σ3 H3 (fun _ _=>False) I3 (stat fr3) st3 stop
    rw [hA]at d
    refine thn d fun r s4 ⟨hr,I4⟩=>?_
    subst hr
    exact back I4 qn
   ·have d:=T.item X' hP hw hK hcalm i [] s3 σ3 H3 (fun _ _=>False) I3 (stat fr3) st3 go
    rw [hA]at d
    refine thn d fun r s4 ⟨u,hr,h4⟩=>?_
    subst hr
    refine thn h4 fun _ s5 ⟨x,H5,I5,r5,y5,st5,fr5⟩=>?_
    have I5':=I5.pinned (stat fr5) (T.obj _ _ st5)
    have d2:=hg' _ s5 σ3 H5 x u _ I5' r5 (step x H5 y5)
    rw [hP,hw,hA,hxe,henv]at d2
    refine thn d2 fun _ s6 ⟨σ6,H6,I6,q6⟩=>?_
    have dt:=htc' _ s6 σ6 H6 _ I6 q6
    rw [hP,hw,hA,hxe,henv]at dt
    refine thn dt fun okb s6' ⟨H6',I6',q6'⟩=>?_
    cases okb with
    |false=>
     obtain⟨m',hm,w7⟩:=q6'
     refine⟨m',hm,i+1,σ6,H6',I6'.unpinned,T.keep _ _ _ st5 fun b hb o e=>(I6'.pin (b,o) (List.mem_append_right _ (List.mem_append_right _ (mem_pinsAt hb e)))).1,fun b hb=>?_,w7⟩
     obtain⟨o,e,d⟩:=T.obj _ _ st5 b hb
     exact(I6'.pin (b,o) (List.mem_append_right _ (List.mem_append_right _ (mem_pinsAt hb e)))).2.1
    |true=>
    have d3:=he' _ s6' σ6 H6' _ I6' q6'
    rw [hP,hw,hA,hxe,henv]at d3
    refine thn d3 fun y7 s7 ⟨v7,H7,I7,r7,ys,e7,l7,m',hm,w7⟩=>?_
    have d4:=mt_append (X:=X') _ s7 σ6 H7 (.ref s2.heap.objs.size) [v7] (.ref s2.heap.objs.size) [y7] (fun _ H8=>W (i+1) m' σ6 H8) I7 rfl (.cons r7 .nil) ⟨_,ys,v7,rfl,rfl,e7,l7,w7⟩
    rw [hP,hw,hA,hxe]at d4
    refine thn d4 fun _ s8 ⟨v8,H8,I8,_,w8⟩=>?_
    refine⟨m',hm,i+1,σ6,H8,I8.unpinned,T.keep _ _ _ st5 fun b hb o e=>(I8.pin (b,o) (List.mem_append_right _ (List.mem_append_right _ (mem_pinsAt hb e)))).1,fun b hb=>?_,w8⟩
    obtain⟨o,e,d⟩:=T.obj _ _ st5 b hb
    exact(I8.pin (b,o) (List.mem_append_right _ (List.mem_append_right _ (mem_pinsAt hb e)))).2.1
  ·rw [upd_ne (below b (hfps b hb)).2]
   exact(hf b hb).1
 exact codeAny_compStart_list (loop _ rfl) (T.self _ 0 _ _ _ (T.keep _ _ _ st fun b hb o e=>old b o e) (loop _ rfl))
theorem pe_compFC {elt iter tg ci:Expr} {scope:Scope} {own:List Str} {cap:List (Str×Nat)} {cl:List (Str×Addr)} {pos:Pos} {wi:TI} {g:TG} {tc:TT} {te:TE}
  (S:CompScopeC X scope cap cl) (hc:X.calm=true) (hi:PI X tg iter wi)
  (hg:∀cs,CellsFor X scope cs->∀C s2 H2 fp,PG (cxCompC X (capN own cap) scope cs C s2 H2 fp) tg g) (htc:∀cs,CellsFor X scope cs->∀C s2 H2 fp,PT (cxCompC X (capN own cap) scope cs C s2 H2 fp) ci tc) (he:∀cs,CellsFor X scope cs->∀C s2 H2 fp,PE (cxCompC X (capN own cap) scope cs C s2 H2 fp) elt te)
  (hs:∀x,foldedSetIterable iter X.env x=pure x:=by intro _;rfl):PE X (.ListComp elt [⟨tg,iter,[ci],0⟩] scope pos) (tCompF own.length cap wi g tc te):=by
 intro pins s σ H Q I h
 rw [eval_ListComp]
 refine wpAny_comprehension_free (use:=none) rfl hs S.clos S.kind S.names (thn (hi pins s σ H _ I h) fun v s1 h1=>thn h1 fun itv s2 h2=>?_)
 obtain⟨it,fp,tn,J,H2,e,I2,T,st2,f2,rd⟩:=h2
 subst e
 obtain⟨W,w0,turn⟩:=rd _ (I2.hok.fresh (Nat.le_refl _))
 exact comp_blockG (RR:=fun acc C=>compPost (model X.prog X.w) X.A X.xe none (EP X pins σ Q) acc C) S hc I2 T st2 f2 hg (fun cs cf C s2 H2 fp=>pts_one (htc cs cf C s2 H2 fp)) he W w0 turn
  fun C H' s' m _ hm _ _ hback q=>⟨m,hm,fun h' hs'=>⟨.ref s2.heap.objs.size,H',hback h' hs',rfl,q⟩⟩
theorem pe_compC {elt iter tg:Expr} {scope:Scope} {own:List Str} {cap:List (Str×Nat)} {cl:List (Str×Addr)} {pos:Pos} {wi:TI} {g:TG} {te:TE}
  (S:CompScopeC X scope cap cl) (hc:X.calm=true) (hi:PI X tg iter wi) (gm:∀x σ H (Q Q':St->Hp->Prop),(∀σ H,Q σ H->Q' σ H)->g x σ H Q->g x σ H Q')
  (hg:∀cs,CellsFor X scope cs->∀C s2 H2 fp,PG (cxCompC X (capN own cap) scope cs C s2 H2 fp) tg g) (he:∀cs,CellsFor X scope cs->∀C s2 H2 fp,PE (cxCompC X (capN own cap) scope cs C s2 H2 fp) elt te)
  (hs:∀x,foldedSetIterable iter X.env x=pure x:=by intro _;rfl):PE X (.ListComp elt [⟨tg,iter,[],0⟩] scope pos) (tComp own.length cap wi g te):=by
 intro pins s σ H Q I h
 rw [eval_ListComp]
 refine wpAny_comprehension_free (use:=none) rfl hs S.clos S.kind S.names (thn (hi pins s σ H _ I h) fun v s1 h1=>thn h1 fun itv s2 h2=>?_)
 obtain⟨it,fp,tn,J,H2,e,I2,T,st2,f2,rd⟩:=h2
 subst e
 obtain⟨W,w0,turn⟩:=rd _ (I2.hok.fresh (Nat.le_refl _))
 exact comp_blockG (RR:=fun acc C=>compPost (model X.prog X.w) X.A X.xe none (EP X pins σ Q) acc C) S hc I2 T st2 f2 hg (fun _ _ _ _ _ _=>pts_nil) he W w0 (fun i m σc H3 h3=>(turn i m σc H3 h3).imp id fun⟨go,step⟩=>⟨go,fun x H4 y=>gm _ _ _ _ _ (fun σ5 H5 q=>by unfold tYes;dsimp only;rw [if_pos rfl];exact q) (step x H4 y)⟩)
  fun C H' s' m _ hm _ _ hback q=>⟨m,hm,fun h' hs'=>⟨.ref s2.heap.objs.size,H',hback h' hs',rfl,q⟩⟩
end
abbrev CompOkC (scope sc0:Scope) (cap:List (Str×Nat)) (N:List Str):Prop:=scope.kind= .function/\(∀y∈scope.names,y.2= .local->scope.names.lookup y.1=some .local)/\
 (∀y∈scope.names,y.2= .free->sc0.names.lookup y.1=some .cell)/\(∀p∈cap,¬(p.1,NameKind.cell)∈scope.names)/\(∀p∈cap,N[p.2]? =some p.1/\scope.names.lookup p.1=some .free/\sc0.names.lookup p.1=some .cell)
abbrev OutC (scope fsc:Scope) (x:Str):Prop:=scope.names.lookup x=some .cell∨(scope.names.lookup x=some .free/\fsc.names.lookup x=some .cell)
abbrev NestOk (isc scope fsc:Scope) (icap:List (Str×Nat)) (N:List Str):Prop:=isc.kind= .function/\(∀y∈isc.names,y.2≠ .cell)/\(∀y∈isc.names,y.2= .local->isc.names.lookup y.1=some .local)/\
 (∀y∈isc.names,y.2= .free->OutC scope fsc y.1)/\(∀p∈icap,N[p.2]? =some p.1/\isc.names.lookup p.1=some .free/\OutC scope fsc p.1)
theorem relabel_cell {env:Env}:∀{names:List (Str×NameKind)} {x:Str},names.lookup x=some .cell->
  (names.map fun(n,k)=>if(k==NameKind.free && env.scope.kind== .function && env.kindOf n==some .cell)then(n,NameKind.cell)else(n,k)).lookup x=some .cell
 | [],_,h=>by simp at h
 |(n,k)::r,x,h=>by
  have ih:=@relabel_cell env r x
  show List.lookup x ((if(k==NameKind.free && env.scope.kind== .function && env.kindOf n==some .cell)=true then(n,NameKind.cell)else(n,k))::_)=_
  cases hx:x==n with
  |true=>
   simp only [List.lookup_cons,hx]at h
   cases h
   rw [if_neg (by simp)]
   simp [List.lookup_cons,hx]
  |false=>
   simp only [List.lookup_cons,hx]at h
   by_cases hcc:(k==NameKind.free && env.scope.kind== .function && env.kindOf n==some .cell)=true
   ·rw [if_pos hcc];simp only [List.lookup_cons,hx];exact ih h
   ·rw [if_neg hcc];simp only [List.lookup_cons,hx];exact ih h
section
variable {X:Cx}
theorem cs_ofC {scope:Scope} {cap:List (Str×Nat)} {sc0:Scope} {N0:List Str} (hs:X.env.scope=sc0) (hN:X.N=N0) (hcell:∀x,X.env.scope.names.lookup x=some .cell->∃c,X.env.cells.lookup x=some c) (ok:CompOkC scope sc0 cap N0):∃cl,CompScopeC X scope cap cl:=by
 subst hs hN
 obtain⟨k,nm,fr,cn,cp⟩:=ok
 obtain⟨cl,e,a,b⟩:=clos_loop X.env scope.names [] (fun y hy hf=>hcell _ (fr y hy hf)) (fun x c h=>by simp at h)
 refine⟨cl,?_,k,nm,a,fun x hx=>b x (.inr (PySem.mem_of_lookup hx)),cn,cp⟩
 unfold closureFor
 refine Eq.trans ?_ e
 simp only [bind_pure]
theorem cs_nest {Nc:List Str} {scope isc fsc:Scope} {cs:List (Str×Addr)} {C:Addr} {s2:Shared} {H2:Hp} {fp:List Addr} {icap:List (Str×Nat)} (cf:CellsFor X scope cs) (hfs:X.env.scope=fsc) (hk:fsc.kind= .function) (ok:NestOk isc scope fsc icap Nc):
  ∃cl,CompScope (cxCompC X Nc scope cs C s2 H2 fp) isc icap cl:=by
 subst hfs
 obtain⟨k,nc,nm,fr,cp⟩:=ok
 have up:∀x,OutC scope X.env.scope x->(relabel scope X.env).names.lookup x=some .cell:=fun x h=>by
  rcases h with h|⟨h,h'⟩
  ·exact relabel_cell h
  ·exact lookup_relabel_free hk h h'
 obtain⟨cl,e,a,b⟩:=clos_loop (cxCompC X Nc scope cs C s2 H2 fp).env isc.names [] (fun y hy hf=>cf _ (fr y hy hf)) (fun x c h=>by simp at h)
 refine⟨cl,?_,k,nc,nm,a,fun x hx=>b x (.inr (PySem.mem_of_lookup hx)),fun p hp=>⟨(cp p hp).1,(cp p hp).2.1,up _ (cp p hp).2.2⟩⟩
 unfold closureFor
 refine Eq.trans ?_ e
 simp only [bind_pure]
theorem pe_cpFC {elt iter tg ci:Expr} {scope:Scope} {own:List Str} {cap:List (Str×Nat)} {pos:Pos} {wi:TI} {g:TG} {tc:TT} {te:TE} (sc0:Scope) (N0:List Str) (hsc:X.env.scope=sc0) (hN:X.N=N0) (hcell:∀x,X.env.scope.names.lookup x=some .cell->∃c,X.env.cells.lookup x=some c)
  (ok:CompOkC scope sc0 cap N0) (hc:X.calm=true) (hi:PI X tg iter wi)
  (hg:∀cs,CellsFor X scope cs->∀C s2 H2 fp,PG (cxCompC X (capN own cap) scope cs C s2 H2 fp) tg g) (htc:∀cs,CellsFor X scope cs->∀C s2 H2 fp,PT (cxCompC X (capN own cap) scope cs C s2 H2 fp) ci tc) (he:∀cs,CellsFor X scope cs->∀C s2 H2 fp,PE (cxCompC X (capN own cap) scope cs C s2 H2 fp) elt te)
  (hs:∀x,foldedSetIterable iter X.env x=pure x:=by intro _;rfl):PE X (.ListComp elt [⟨tg,iter,[ci],0⟩] scope pos) (tCompF own.length cap wi g tc te):=by
 obtain⟨cl,S⟩:=cs_ofC hsc hN hcell ok
 exact pe_compFC S hc hi hg htc he hs
theorem pe_cpC {elt iter tg:Expr} {scope:Scope} {own:List Str} {cap:List (Str×Nat)} {pos:Pos} {wi:TI} {n:Nat} {te:TE} (sc0:Scope) (N0:List Str) (hsc:X.env.scope=sc0) (hN:X.N=N0) (hcell:∀x,X.env.scope.names.lookup x=some .cell->∃c,X.env.cells.lookup x=some c)
  (ok:CompOkC scope sc0 cap N0) (hc:X.calm=true) (hi:PI X tg iter wi)
  (hg:∀cs,CellsFor X scope cs->∀C s2 H2 fp,PG (cxCompC X (capN own cap) scope cs C s2 H2 fp) tg (gName n)) (he:∀cs,CellsFor X scope cs->∀C s2 H2 fp,PE (cxCompC X (capN own cap) scope cs C s2 H2 fp) elt te)
  (hs:∀x,foldedSetIterable iter X.env x=pure x:=by intro _;rfl):PE X (.ListComp elt [⟨tg,iter,[],0⟩] scope pos) (tComp own.length cap wi (gName n) te):=by
 obtain⟨cl,S⟩:=cs_ofC hsc hN hcell ok
 exact pe_compC S hc hi (fun _ _ _ _ _ m h=>m _ _ h) hg he hs
theorem pe_cpFN {elt iter tg ci:Expr} {Nc:List Str} {scope isc:Scope} {cs:List (Str×Addr)} {C:Addr} {s2:Shared} {H2:Hp} {fp:List Addr} {own:List Str} {icap:List (Str×Nat)} {pos:Pos} {wi:TI} {g:TG} {tc:TT} {te:TE} (fsc:Scope) (cf:CellsFor X scope cs) (hfs:X.env.scope=fsc) (hk:fsc.kind= .function)
  (ok:NestOk isc scope fsc icap Nc) (hc:X.calm=true) (hi:PI (cxCompC X Nc scope cs C s2 H2 fp) tg iter wi)
  (hg:∀cl C' s3 H3 fp',PG (cxComp (cxCompC X Nc scope cs C s2 H2 fp) (capN own icap) isc cl C' s3 H3 fp') tg g) (htc:∀cl C' s3 H3 fp',PT (cxComp (cxCompC X Nc scope cs C s2 H2 fp) (capN own icap) isc cl C' s3 H3 fp') ci tc)
  (he:∀cl C' s3 H3 fp',PE (cxComp (cxCompC X Nc scope cs C s2 H2 fp) (capN own icap) isc cl C' s3 H3 fp') elt te)
  (hs:∀x,foldedSetIterable iter (cxCompC X Nc scope cs C s2 H2 fp).env x=pure x:=by intro _;rfl):PE (cxCompC X Nc scope cs C s2 H2 fp) (.ListComp elt [⟨tg,iter,[ci],0⟩] isc pos) (tCompF own.length icap wi g tc te):=by
 obtain⟨cl,S⟩:=cs_nest (C:=C) (s2:=s2) (H2:=H2) (fp:=fp) cf hfs hk ok
 exact pe_compF S hc hi (hg cl) (htc cl) (he cl) hs
end
section
variable {X:Cx}
end
section
variable {X:Cx} {B:St->Hp->Prop} {R:Hp->V->Prop}
end
theorem pi_listK {X:Cx} {tg:Expr} {K:PySem.W.Frag} (h:X.K=K) {l:Expr} {tl:TE} (hl:PE X l tl):PI X tg l (iList K tl):=by
 subst h
 exact pi_list hl
section
variable {X:Cx}
def CDivM (_ j:Int):Prop:=0<j/\j<2 ^ 62
theorem op_fdivM:OpR X (binaryOp .FloorDiv) (rI CDivM fun i j=> .int (i / j)):=opI fun i j _ _ _ _ _ hc q=>by
 have h1:(0:Int)<j:=hc.1
 have h2:j<2 ^ 62:=hc.2
 refine floordiv_int (by omega) (by rw [Int.fdiv_eq_ediv_of_nonneg i (by omega)];exact q) (.inl (PyProof.noPylong_of_log2 ?_))
 have h3:j.natAbs<2 ^ 62:=by omega
 have:=(Nat.log2_lt (by omega)).mpr h3
 omega
end
section
variable {X:Cx} {K:PySem.W.Frag}
theorem op_eq2K (h:X.K=K) (hu:X.A.units+1<cLine):OpR X (compareOp .Eq) (rEq2 K false):=by
 subst h
 exact op_eq2 hu
theorem op_inK (h:X.K=K):OpR X (compareOp .In) (rIn K false):=by
 subst h
 exact op_in_seq
theorem op_notInK (h:X.K=K):OpR X (compareOp .NotIn) (rIn K true):=by
 subst h
 exact op_notIn_seq
end
end L2
namespace L2
open PySem PySem.Spec PyProof.Rows
def SObj (P:Program) (w:World) (a:Addr) (xs:List (List Int×Addr)) (h:Heap):Prop:=∃o es ep t,h.get? a=some o/\o.ExactSet/\o.data= .set es ep t/\es.toList=xs.map (fun x=>((tupleKind (intKind P w)).hash x.1,Value.ref x.2))/\t.Good/\t.place.size=es.size/\(xs.map (·.1)).Nodup/\
 (∀(i j:Nat) (x:List Int×Addr),t.place[i]? =some j->xs[i]? =some x->SetTable.OnWay t ((tupleKind (intKind P w)).hash x.1) j)/\t.Small/\t.plain=true/\t.led= !w.params.followText "set-order"
def TKy (H:Hp) (x:List Int×Addr):Prop:=H x.2=some (.tup (x.1.map V.int))
section
variable {P:Program} {w:World} {H:Hp} {h:Heap} {a:Addr} {s:Shared} {xs:List (List Int×Addr)}
theorem SObj.stay (h1 h2:Heap) (p:SObj P w a xs h1) (k:∀o,h1.get? a=some o->h2.get? a=some o):SObj P w a xs h2:=let⟨o,es,ep,t,e,c⟩:=p;⟨o,es,ep,t,k _ e,c⟩
theorem SObj.of (I:SetIs (tupleKind (intKind P w)) s a (!w.params.followText "set-order") xs):SObj P w a xs s.heap:=by
 obtain⟨o,es,ep,t,S,r1,r2,r3⟩:=I
 exact⟨o,es,ep,t,S.ho,S.hex,S.hd,S.he,S.good,S.size,S.nd,S.way,r1,r2,r3⟩
theorem SObj.is (I:SObj P w a xs s.heap) (keys:∀x∈xs,IsTupleKey (intKind P w) s.heap x.1 x.2):SetIs (tupleKind (intKind P w)) s a (!w.params.followText "set-order") xs:=by
 obtain⟨o,es,ep,t,a1,a2,a3,a4,a5,a6,a7,a8,r1,r2,r3⟩:=I
 exact⟨o,es,ep,t,⟨a1,a2,a3,a4,a5,a6,keys,a7,a8⟩,r1,r2,r3⟩
theorem titems_of {ns:List Int}:∀{us:List Value},Vals (ns.map V.int) us->ItemsAre (intKind P w) ns us:=by
 induction ns with
 |nil=>intro us r;rw [List.map_nil]at r;cases r;exact .nil
 |cons n ns ih=>
  intro us r
  rw [List.map_cons]at r
  cases r with
  |@cons _ v _ _ r1 t=>
   obtain⟨tk,rfl⟩:=r1
   exact .cons (by show Value.isInt n (.int n tk)=true;simp [Value.isInt]) (ih t)
theorem tkey_of {x:List Int×Addr} (ok:HOk P w H h) (e:TKy H x):IsTupleKey (intKind P w) h x.1 x.2:=by
 obtain⟨_,its,r,o,h1,h2,n,h3⟩:=(show ObjOk P w H h x.2 (.tup (x.1.map V.int))from ok _ _ e)
 exact⟨o,its.toArray,n,h1,h2,h3,titems_of r⟩
end
theorem tvals_refs:∀{ps:List (List Int×Addr)} {us:List Value},Vals (ps.map fun x=>V.ref x.2) us->us=ps.map fun x=>Value.ref x.2
 | [],_,.nil=>rfl
 |_::_,_,.cons (r1:_=Value.ref _) t=>by subst r1;rw [List.map_cons,tvals_refs t]
theorem trefs_vals:∀{ps:List (List Int×Addr)},Vals (ps.map fun x=>V.ref x.2) (ps.map fun x=>Value.ref x.2)
 | []=> .nil
 |_::_=> .cons rfl trefs_vals
def rSetT (P:Program) (w:World) (K:PySem.W.Frag):List V->Hp->VK->Prop:=fun xs H Q=>∃(p:Addr) (ps:List (List Int×Addr)),xs=[.ref p]/\SqL K H p (ps.map fun x=>V.ref x.2)/\(∀x∈ps,TKy H x)/\ps.length<18/\
 ∀(l:Addr) (zs:List (List Int×Addr)),H l=none->(zs.map (·.1)).Nodup->(∀x∈zs,x∈ps)->(∀x∈ps,∃z∈zs,z.1=x.1)->zs.length<=ps.length->Q (.ref l) (upd H l (.ext (SObj P w l zs)))
def rSortedT (P:Program) (w:World):List V->Hp->VK->Prop:=fun xs H Q=>∃(p:Addr) (ps:List (List Int×Addr)),xs=[.ref p]/\H p=some (.ext (SObj P w p ps))/\(∀x∈ps,TKy H x/\x.1≠[])/\ps.length<64/\
 ∀(l:Addr) (ys:List (List Int×Addr)),H l=none->ys.Perm ps->ys.Pairwise (fun x y=>lexB x.1 y.1=true)->Q (.ref l) (upd H l (.lst (ys.map fun x=>V.ref x.2)))
section
variable {X:Cx}
theorem call_setT (hu:X.A.units+20<cLine) (hc:X.calm=true):CallR X (.type "set") (rSetT X.prog X.w X.K):=by
 intro pins s σ H xs us Q I r h
 obtain⟨p,ps,rfl,hq,hk,hln,q⟩:=h
 obtain⟨u,rfl,ru⟩:=vals1 r
 cases ru
 obtain⟨its,rv,pl,hz⟩:=I.list hq
 have ei:=tvals_refs rv
 have hlen:its.length=ps.length:=by rw [ei,List.length_map]
 have at_:∀i,i<ps.length->ps.getD i ([],0)∈ps:=fun i hi=>by simp [List.getD,hi]
 refine call_set_listH (knd:=tupleKind (intKind X.prog X.w)) (items:=its.toArray) (val:=fun i=>(ps.getD i ([],0)).1) (adr:=fun i=>(ps.getD i ([],0)).2) (tupleKd fun k v hv=>?_) (fun A' hA=>?_) (I.ok.hd hc) pl.isList (fun i v hv=>?_) (fun j hj=>?_) (by rw [List.size_toArray];omega) fun h' tk zs S M hk'=>?_
 ·obtain⟨t,rfl⟩:=Value.isInt_shape hv
  exact⟨_,_,rfl⟩
 ·show A'.units<cLine
  omega
 ·have hi:i<its.toArray.size:=(Array.getElem?_eq_some_iff.mp hv).1
  rw [List.size_toArray,hlen]at hi
  rw [List.getElem?_toArray,ei]at hv
  simp [hi]at hv
  rw [<-hv]
  simp [List.getD,hi]
 ·rw [List.size_toArray,hlen]at hj
  exact tkey_of I.hok (hk _ (at_ j hj))
 ·have kp:∀b o,s.heap.get? b=some o->h'.get? b=some o:=fun b o e=>hk' b o (Heap.lt_size e) e
  have so:=SObj.of S
  have nd:(zs.map (·.1)).Nodup:=by obtain⟨_,_,_,_,S,_⟩:=S;exact S.nd
  refine⟨.ref s.heap.objs.size,_,I.laid (t':=tk) (o:= .ext (SObj X.prog X.w s.heap.objs.size zs)) kp (Nat.le_refl _) ⟨so,?_,fun h1 h2 p k=>SObj.stay h1 h2 p k⟩,rfl,q _ zs (I.hok.fresh (Nat.le_refl _)) nd (fun x hx=>?_) (fun x hx=>?_) ?_⟩
  ·obtain⟨o,_,_,_,e,_⟩:=so
   exact⟨o,e⟩
  ·obtain⟨j,hj,e⟩:=M.from' x hx
   rw [List.size_toArray,hlen]at hj
   rw [e]
   exact at_ j hj
  ·obtain⟨j,hj,e⟩:=List.getElem_of_mem hx
   obtain⟨z,hz,ez⟩:=M.all j (by rw [List.size_toArray,hlen];exact hj)
   refine⟨z,hz,?_⟩
   rw [ez, <-e]
   simp [List.getD,hj]
  ·have:=M.len
   rw [List.size_toArray,hlen]at this
   exact this
theorem call_sortedT (hc:X.calm=true):CallR X (.builtin "sorted") (rSortedT X.prog X.w):=by
 intro pins s σ H xs us Q I r h
 obtain⟨p,ps,rfl,hp,hk,h64,q⟩:=h
 obtain⟨u,rfl,ru⟩:=vals1 r
 cases ru
 obtain⟨so,_,_⟩:=(show ObjOk X.prog X.w H s.heap p (.ext (SObj X.prog X.w p ps))from I.hok p _ hp)
 refine sorted_set (I.ok.hd hc) (so.is fun x hx=>tkey_of I.hok (hk x hx).1) (fun x hx=>(hk x hx).2) h64 fun h' tk l e ys py hy hl hg kp=>?_
 refine⟨.ref l,_,I.laid (t':=tk) (o:= .lst (ys.map fun x=>V.ref x.2)) kp hl ⟨?_,_,e,trefs_vals,hg⟩,rfl,q l ys (I.hok.fresh hl) py hy⟩
 rw [List.length_map,py.length_eq,sizeLine_eq]
 omega
end
section
variable {X:Cx}
def rMaxL (K:PySem.W.Frag):List V->Hp->VK->Prop:=fun xs H Q=>∃(p:Addr) (ns:List Int),xs=[.ref p]/\SqL K H p (ns.map V.int)/\ns≠[]/\∀m:Int,m∈ns->(∀a∈ns,a<=m)->Q (.int m) H
theorem call_maxL (hc:X.calm=true):CallR X (.builtin "max") (rMaxL X.K):=by
 intro pins s σ H xs us Q I r h
 obtain⟨p,ns,rfl,hq,hne,q⟩:=h
 obtain⟨u,rfl,ru⟩:=vals1 r
 cases ru
 obtain⟨its,rv,pl,hz⟩:=I.list hq
 have hi:IntsAre its ns:=intsAre_of rv
 obtain⟨ys,e⟩:=hi.allInts.items
 have hns:ns=ys.toList.map (·.1):=by
  rw [<-hi.numsOf, <-nums_intItems, <-e]
 have hsz:0<ys.size:=by
  have h3:0<ns.length:=List.length_pos_iff.mpr hne
  rw [hns,List.length_map,Array.length_toList]at h3;exact h3
 have hl:=pl.isList
 rw [e]at hl
 refine max_intList (I.ok.hd hc) hl hsz fun v h' tk hv hk=>?_
 obtain⟨t,rfl⟩:=intItems_at hv
 obtain⟨h1,h2⟩:=argBest_gt (numAt ys) (ys.size-1)
 refine⟨.int _,H,I.kept (t':=tk) hk,⟨t,rfl⟩,q _ ?_ fun a ha=>?_⟩
 ·rw [hns,numAt_eq];exact getD_mem (by rw [List.length_map,Array.length_toList];omega)
 ·rw [hns]at ha
  obtain⟨j,hj,rfl⟩:=mem_getD ha
  rw [List.length_map,Array.length_toList]at hj
  rw [<-numAt_eq];exact h2 j (by omega)
def Sh:Nat->D->Prop
 |0,d=>∃i,d= .fl (.int i)
 |k+1,d=>∃l,d= .ls l/\∀x∈l,Sh k x
theorem Sh.dep:∀{k:Nat} {d:D},Sh k d->d.dep<=k
 |0,_,⟨i,rfl⟩=>by simp [D.dep]
 |k+1,_,⟨l,rfl,h⟩=>by
  have:∀m:List D,(∀x∈m,Sh k x)->D.deps m<=k:=by
   intro m
   induction m with
   |nil=>intro _;simp [D.deps]
   |cons a m ih=>
    intro hm
    have h1:=Sh.dep (hm a List.mem_cons_self)
    have h2:=ih fun x hx=>hm x (List.mem_cons_of_mem _ hx)
    simp only [D.deps]
    omega
  have:=this l h
  simp only [D.dep]
  omega
theorem eqN_D {pins:List (Addr×Obj)} {σ:St} {H:Hp} {s:Shared} (I:Inv X pins σ H s) {d e:D} {v v':V} {u u':Value} {n:Nat} (r:RelV v u) (r':RelV v' u') (h:Den X.K H d v) (h':Den X.K H e v') (hu:n+d.dep+e.dep<cLine):EqN n s u u' (d.eq e):=fun A hA=>eqAt_D I d e r r' h h' (by omega)
def ltK:Nat->D->D->Bool
 |0,.fl (.int i),.fl (.int j)=>decide (i<j)
 |k+1,.ls l,.ls m=>lexI (fun j=>(l.getD j (.fl .non)).eq (m.getD j (.fl .non))) (fun j=>ltK k (l.getD j (.fl .non)) (m.getD j (.fl .non))) l.length m.length (min l.length m.length) 0
 |_,_,_=>false
theorem lt_Sh {pins:List (Addr×Obj)} {σ:St} {H:Hp} {s:Shared} (I:Inv X pins σ H s):∀(k n:Nat) (d e:D) {v v':V} {u u':Value},Sh k d->Sh k e->RelV v u->RelV v' u'->Den X.K H d v->Den X.K H e v'->n+10*k+10<cLine->LtN n s u u' (ltK k d e)
 |0,n,_,_,v,v',u,u',⟨i,rfl⟩,⟨j,rfl⟩,r,r',h,h',_=>by
  obtain⟨rfl,_⟩:=h
  obtain⟨rfl,_⟩:=h'
  obtain⟨t,rfl⟩:=r
  obtain⟨t',rfl⟩:=r'
  exact LtN.ints n s i j t t'
 |k+1,n,_,_,v,v',u,u',⟨l,rfl,hl⟩,⟨m,rfl,hm⟩,r,r',h,h',hu=>by
  obtain⟨a,xs,rfl,h1,h2⟩:=h
  obtain⟨b,ys,rfl,h3,h4⟩:=h'
  obtain rfl:u=Value.ref a:=r
  obtain rfl:u'=Value.ref b:=r'
  obtain⟨is,rv,pl,_⟩:=I.list h1
  obtain⟨js,rw',pl',_⟩:=I.list h3
  have l1:=Dens.length h2
  have l2:=Dens.length h4
  have l3:=Paired.length rv
  have l4:=Paired.length rw'
  have z1:is.toArray.size=l.length:=by rw [List.size_toArray];omega
  have z2:js.toArray.size=m.length:=by rw [List.size_toArray];omega
  have at_:∀j (g1:j<is.toArray.size) (g2:j<js.toArray.size),∃(x y:V),l.getD j (.fl .non)∈l/\m.getD j (.fl .non)∈m/\Den X.K H (l.getD j (.fl .non)) x/\Den X.K H (m.getD j (.fl .non)) y/\RelV x is.toArray[j]/\RelV y js.toArray[j]:=fun j g1 g2=>by
   have p1:j<l.length:=by omega
   have p2:j<m.length:=by omega
   have e1:l.getD j (.fl .non)=l[j]:=by simp [List.getD,p1]
   have e2:m.getD j (.fl .non)=m[j]:=by simp [List.getD,p2]
   rw [e1,e2]
   refine⟨xs[j]'(by omega),ys[j]'(by omega),List.getElem_mem p1,List.getElem_mem p2,Dens.at h2 j p1 (by omega),Dens.at h4 j p2 (by omega),?_,?_⟩
   ·obtain⟨x,e1,e2⟩:=Paired.get2 rv (i:=j) (y:=is.toArray[j]) (by rw [<-List.getElem?_toArray];exact Array.getElem?_eq_getElem g1)
    rw [List.getElem?_eq_getElem (by omega)]at e1
    cases e1
    exact e2
   ·obtain⟨x,e1,e2⟩:=Paired.get2 rw' (i:=j) (y:=js.toArray[j]) (by rw [<-List.getElem?_toArray];exact Array.getElem?_eq_getElem g2)
    rw [List.getElem?_eq_getElem (by omega)]at e1
    cases e1
    exact e2
  have:=LtN.lists (n:=n) (e:=fun j=>(l.getD j (.fl .non)).eq (m.getD j (.fl .non))) (lt:=fun j=>ltK k (l.getD j (.fl .non)) (m.getD j (.fl .non))) pl.isList pl'.isList (by omega) (fun j g1 g2=>?_) fun j g1 g2=>?_
  ·rw [z1,z2]at this
   exact this
  ·obtain⟨x,y,p1,p2,d1,d2,r1,r2⟩:=at_ j g1 g2
   have q1:=(hl _ p1).dep
   have q2:=(hm _ p2).dep
   exact eqN_D I r1 r2 d1 d2 (by omega)
  ·obtain⟨x,y,p1,p2,d1,d2,r1,r2⟩:=at_ j g1 g2
   exact lt_Sh I k (n+3) _ _ (hl _ p1) (hm _ p2) r1 r2 d1 d2 (by omega)
def PD2 (K:PySem.W.Frag) (H:Hp) (k:Nat) (p:Int×D) (x:V):Prop:=∃a y,x= .ref a/\SqT K H a [.int p.1,y]/\Den K H p.2 y/\Sh k p.2
def rMinP (k:Nat) (K:PySem.W.Frag):List V->Hp->VK->Prop:=fun xs H Q=>∃(p:Addr) (vs:List V) (ns:List (Int×D)),xs=[.ref p]/\SqL K H p vs/\Paired (fun i x=>PD2 K H k i x) ns vs/\vs≠[]/\∀(j:Nat) (x:V) (i:Int×D),vs[j]? =some x->ns[j]? =some i->(∀a∈ns,i.1<=a.1)->Q x H
def btP (k:Nat) (ns:List (Int×D)) (i j:Nat):Bool:=if(ns.getD i (0,.fl .non)).1=(ns.getD j (0,.fl .non)).1 then(if((ns.getD i (0,.fl .non)).2.eq (ns.getD j (0,.fl .non)).2)=true then false else ltK k (ns.getD i (0,.fl .non)).2 (ns.getD j (0,.fl .non)).2)else decide ((ns.getD i (0,.fl .non)).1<(ns.getD j (0,.fl .non)).1)
theorem call_minP {k:Nat} (hu:X.A.units+10*k+30<cLine) (hc:X.calm=true):CallR X (.builtin "min") (rMinP k X.K):=by
 intro pins s σ H xs us Q I r h
 obtain⟨p,vs,ns,rfl,hq,hp,hne,q⟩:=h
 obtain⟨u,rfl,ru⟩:=vals1 r
 cases ru
 obtain⟨its,rv,pl,hz⟩:=I.list hq
 have l1:=Paired.length hp
 have l2:=Paired.length rv
 have hv0:0<vs.length:=List.length_pos_iff.mpr hne
 refine call_min_heap (bt:=btP k ns) (I.ok.hd hc) pl.isList (by rw [List.size_toArray];omega) (fun i j vi vj h tk old hi hj=>?_) fun v h' tk hv old=>?_
 ·have I':Inv X pins σ H {s with heap:=h,toks:=tk}:=I.kept (t':=tk) old
  have hi:its[i]? =some vi:=by rw [<-List.getElem?_toArray];exact hi
  have hj:its[j]? =some vj:=by rw [<-List.getElem?_toArray];exact hj
  obtain⟨x,ex,rx⟩:=Paired.get2 rv hi
  obtain⟨y,ey,ry⟩:=Paired.get2 rv hj
  obtain⟨m,em,a,x1,rfl,sx,dx,shx⟩:=Paired.get2 hp ex
  obtain⟨m',em',b,y1,rfl,sy,dy,shy⟩:=Paired.get2 hp ey
  obtain rfl:vi=Value.ref a:=rx
  obtain rfl:vj=Value.ref b:=ry
  obtain⟨ia,ra,pa,_⟩:=I'.tuple sx
  obtain⟨ib,rb,pb,_⟩:=I'.tuple sy
  cases ra with
  |@cons _ u1 _ _ r1 t1=>
   cases t1 with
   |@cons _ u2 _ _ r2 t2=>
    cases t2
    cases rb with
    |@cons _ w1 _ _ q1 t1=>
     cases t1 with
     |@cons _ w2 _ _ q2 t2=>
      cases t2
      obtain⟨tk1,rfl⟩:=r1
      obtain⟨tk2,rfl⟩:=q1
      have d1:=shx.dep
      have d2:=shy.dep
      have e1:ns.getD i (0,.fl .non)=m:=by rw [List.getD,em];rfl
      have e2:ns.getD j (0,.fl .non)=m':=by rw [List.getD,em'];rfl
      have:=LtN.pairs (n:=X.A.units+1) pa pb (by omega) (eqN_D I' r2 q2 dx dy (by omega)) (lt_Sh I' k (X.A.units+1+3) _ _ shx shy r2 q2 dx dy (by omega))
      unfold btP
      rw [e1,e2]
      exact this X.A.in1 (Nat.le_refl _)
 ·rw [List.size_toArray, <-l2,List.getElem?_toArray]at hv
  obtain⟨x,ex,rx⟩:=Paired.get2 rv hv
  obtain⟨m,em,pm⟩:=Paired.get2 hp ex
  obtain⟨b1,b2⟩:=argBest_le (btP k ns) (fun i=>(ns.getD i (0,.fl .non)).1) (vs.length-1) fun i j _ _=>by
   unfold btP
   constructor
   ·intro z
    rw [if_neg (by omega)]
    exact decide_eq_true z
   ·intro z
    rw [if_neg (by omega)]
    exact decide_eq_false (by omega)
  refine⟨x,H,I.kept (t':=tk) old,rx,q _ x m ex em fun c hc=>?_⟩
  obtain⟨j,hj,e⟩:=List.getElem_of_mem hc
  have:=b2 j (by omega)
  have e1:ns.getD (argBest (btP k ns) (vs.length-1)) (0,.fl .non)=m:=by rw [List.getD,em];rfl
  have e2:ns.getD j (0,.fl .non)=c:=by rw [List.getD,List.getElem?_eq_getElem hj,e];rfl
  rw [e1,e2]at this
  exact this
end
section
variable {X:Cx}
end
end L2
namespace G4
abbrev Pr:=Nat×Nat
inductive Reach (ps:List Pr):Nat->Nat->Prop
 |one {u v:Nat}:(u,v)∈ps->Reach ps u v
 |step {u v w:Nat}:Reach ps u v->(v,w)∈ps->Reach ps u w
def Below (n:Nat) (ps:List Pr):Prop:=∀p∈ps,p.1<n/\p.2<n
theorem nodup_len:∀(n:Nat) (l:List Nat),l.Nodup->(∀v∈l,v<n)->l.length<=n
 |0,l,_,h=>by
  cases l with
  |nil=>simp
  |cons a l=>exact absurd (h a List.mem_cons_self) (Nat.not_lt_zero a)
 |n+1,l,hn,h=>by
  by_cases hm:n∈l
  ·have ih:=nodup_len n (l.erase n) (hn.erase n) fun v hv=>by
    have h1:=h v (List.mem_of_mem_erase hv)
    have h2:v≠n:=fun e=>by
     subst e
     exact(List.Nodup.not_mem_erase hn) hv
    omega
   rw [List.length_erase_of_mem hm]at ih
   have:=List.length_pos_of_mem hm
   omega
  ·have ih:=nodup_len n l hn fun v hv=>by
    have h1:=h v hv
    have h2:v≠n:=fun e=>hm (e▸hv)
    omega
   omega
def cntP (ps:List Pr) (D:List Nat) (v:Nat):Nat:=ps.countP fun p=>decide (p.1=v/\p.2∉D)
def rdOf (ps:List Pr) (m:Nat):List Nat:=(ps.filter fun p=>decide (p.2=m)).map (·.1)
theorem cntP_zero {ps:List Pr} {D:List Nat} {v:Nat}:cntP ps D v=0↔ ∀m,(v,m)∈ps->m∈D:=by
 unfold cntP
 rw [List.countP_eq_zero]
 constructor
 ·intro h m hm
  have:=h (v,m) hm
  simp at this
  exact this
 ·intro h p hp hd
  have hd':=of_decide_eq_true hd
  exact hd'.2 (h p.2 (by rw [<-hd'.1];exact hp))
theorem cntP_split {D:List Nat} {m:Nat} (hm:m∉D) (v:Nat):∀ps:List Pr,cntP ps D v=cntP ps (D++[m]) v+(rdOf ps m).count v
 | []=>rfl
 |p::ps=>by
  have ih:=cntP_split hm v ps
  unfold cntP rdOf at ih⊢
  rw [List.countP_cons,List.countP_cons,List.filter_cons]
  by_cases h1:p.1=v
  ·by_cases h2:p.2=m
   ·have e1:decide (p.1=v/\p.2∉D)=true:=decide_eq_true ⟨h1,h2▸hm⟩
    have e2:decide (p.1=v/\p.2∉D++[m])=false:=decide_eq_false (fun z=>z.2 (by simp [h2]))
    rw [e1,e2,if_pos (decide_eq_true h2),List.map_cons,List.count_cons,ih]
    simp [h1]
    omega
   ·have e2:decide (p.1=v/\p.2∉D++[m])=decide (p.1=v/\p.2∉D):=by simp [h2]
    have e3:¬decide (p.2=m)=true:=by simpa using h2
    rw [e2,if_neg e3,ih]
    omega
  ·have e1:decide (p.1=v/\p.2∉D)=false:=decide_eq_false (fun z=>h1 z.1)
   have e2:decide (p.1=v/\p.2∉D++[m])=false:=decide_eq_false (fun z=>h1 z.1)
   rw [e1,e2]
   by_cases h2:p.2=m
   ·rw [if_pos (decide_eq_true h2),List.map_cons,List.count_cons,ih]
    simp [h1]
   ·have e3:¬decide (p.2=m)=true:=by simpa using h2
    rw [if_neg e3,ih]
    simp
theorem take_count {l:List Nat} {j r:Nat} (h:l[j]? =some r) (v:Nat):(l.take (j+1)).count v=(l.take j).count v+if v=r then 1 else 0:=by
 rw [List.take_succ,h,List.count_append]
 show _+List.count v [r]=_
 rw [List.count_singleton]
 congr 1
 by_cases e:v=r
 ·subst e;simp
 ·have e':¬r=v:=fun z=>e z.symm
  simp [e,e']
theorem take_count_le (l:List Nat) (j v:Nat):(l.take j).count v<=l.count v:=(List.take_sublist j l).count_le v
structure Dec (n:Nat) (L0 L:Nat->Nat) (F:List Nat):Prop where
 le:∀v,L v<=L0 v
 nd:F.Nodup
 mem:∀v,v∈F↔v<n/\L v=0/\0<L0 v
theorem Dec.start {n:Nat} {L0:Nat->Nat}:Dec n L0 L0 []:=⟨fun _=>Nat.le_refl _,List.nodup_nil,fun v=>⟨fun h=>(by cases h),fun h=>(by omega)⟩⟩
def less (L:Nat->Nat) (r:Nat):Nat->Nat:=fun v=>if v=r then L r-1 else L v
theorem Dec.step0 {n:Nat} {L0 L:Nat->Nat} {F:List Nat} {r:Nat} (d:Dec n L0 L F) (hr:r<n) (h1:L r=1):Dec n L0 (less L r) (F++[r]):=by
 refine⟨fun v=>?_,?_,fun v=>?_⟩
 ·unfold less
  split
  ·rename_i e;subst e;have:=d.le v;omega
  ·exact d.le v
 ·rw [List.nodup_append]
  refine⟨d.nd,by simp,fun a ha b hb=>?_⟩
  rw [List.mem_singleton]at hb
  subst hb
  rintro rfl
  have:=((d.mem a).mp ha).2.1
  omega
 ·rw [List.mem_append,List.mem_singleton,d.mem]
  unfold less
  by_cases e:v=r
  ·subst e
   have:=d.le v
   simp [h1]
   omega
  ·simp [e]
theorem Dec.step1 {n:Nat} {L0 L:Nat->Nat} {F:List Nat} {r:Nat} (d:Dec n L0 L F) (h1:2<=L r):Dec n L0 (less L r) F:=by
 refine⟨fun v=>?_,d.nd,fun v=>?_⟩
 ·unfold less
  split
  ·rename_i e;subst e;have:=d.le v;omega
  ·exact d.le v
 ·rw [d.mem]
  unfold less
  by_cases e:v=r
  ·subst e
   simp
   omega
  ·simp [e]
theorem turn_less {ps:List Pr} {D:List Nat} {m j r:Nat} {L:Nat->Nat} (hm:m∉D) (hL:∀v,L v+((rdOf ps m).take j).count v=cntP ps D v) (hj:(rdOf ps m)[j]? =some r):
  0<L r/\∀v,less L r v+((rdOf ps m).take (j+1)).count v=cntP ps D v:=by
 have h0:0<L r:=by
  have h1:=hL r
  have h2:=cntP_split hm r ps
  have h3:=take_count hj r
  have h4:=take_count_le (rdOf ps m) (j+1) r
  rw [if_pos rfl]at h3
  omega
 refine⟨h0,fun v=>?_⟩
 have h1:=hL v
 have h3:=take_count hj v
 unfold less
 by_cases e:v=r
 ·subst e
  rw [if_pos rfl]at h3⊢
  omega
 ·rw [if_neg e]at h3⊢
  omega
structure WavesOk (ps:List Pr) (n:Nat) (ws:List (List Nat)):Prop where
 below:∀v∈ws.flatten,v<n
 nodup:ws.flatten.Nodup
 full:∀w∈ws,w≠[]
 rise:∀w∈ws,w.Pairwise (·<·)
 lean:∀(i:Nat) w,ws[i]? =some w->∀v∈w,∀m,(v,m)∈ps->m∈(ws.take i).flatten
 last:∀(i:Nat) w w',ws[i]? =some w->ws[i+1]? =some w'->∀v∈w',∃m∈w,(v,m)∈ps
def Stuck (ps:List Pr) (n:Nat) (ws:List (List Nat)):Prop:=∀v,v<n->v∉ws.flatten->∃m,(v,m)∈ps/\m∉ws.flatten
structure Kahn (ps:List Pr) (n:Nat) (ws:List (List Nat)) (w:List Nat):Prop where
 ok:WavesOk ps n ws
 wave:∀v,v∈w↔v<n/\v∉ws.flatten/\cntP ps ws.flatten v=0
 wrise:w.Pairwise (·<·)
 wlast:∀(i:Nat) u,ws[i]? =some u->i+1=ws.length->∀v∈w,∃m∈u,(v,m)∈ps
theorem Kahn.start {ps:List Pr} {n:Nat} {w:List Nat} (h:w=(List.range n).filter fun v=>decide (cntP ps [] v=0)):Kahn ps n [] w:=by
 subst h
 refine⟨⟨by simp,by simp,by simp,by simp,by simp,by simp⟩,fun v=>?_,?_,by simp⟩
 ·simp [List.mem_filter]
 ·exact List.Pairwise.filter _ List.pairwise_lt_range
theorem Kahn.done {ps:List Pr} {n:Nat} {ws:List (List Nat)} (k:Kahn ps n ws []):Stuck ps n ws:=by
 intro v hv hn
 by_cases h:cntP ps ws.flatten v=0
 ·have:=(k.wave v).mpr ⟨hv,hn,h⟩
  cases this
 ·refine Classical.byContradiction fun hc=>h (cntP_zero.mpr fun m hm=>?_)
  exact Classical.byContradiction fun hmd=>hc ⟨m,hm,hmd⟩
theorem Kahn.nd {ps:List Pr} {n:Nat} {ws:List (List Nat)} {w:List Nat} (k:Kahn ps n ws w):(ws++[w]).flatten.Nodup/\(∀v∈(ws++[w]).flatten,v<n)/\w.Nodup:=by
 have hw:w.Nodup:=k.wrise.imp fun h=>Nat.ne_of_lt h
 have e:(ws++[w]).flatten=ws.flatten++w:=by simp
 rw [e]
 refine⟨List.nodup_append.mpr ⟨k.ok.nodup,hw,fun a ha b hb=>?_⟩,fun v hv=>?_,hw⟩
 ·rintro rfl
  exact((k.wave a).mp hb).2.1 ha
 ·rcases List.mem_append.mp hv with h|h
  ·exact k.ok.below v h
  ·exact((k.wave v).mp h).1
theorem Kahn.step {ps:List Pr} {n:Nat} {ws:List (List Nat)} {w F ms:List Nat} (hb:Below n ps) (k:Kahn ps n ws w) (hw:w≠[]) (d:Dec n (cntP ps ws.flatten) (cntP ps (ws++[w]).flatten) F)
  (hp:ms.Perm F) (ho:ms.Pairwise (·<=·)):Kahn ps n (ws++[w]) ms:=by
 have e:(ws++[w]).flatten=ws.flatten++w:=by simp
 have hnd:ms.Nodup:=hp.nodup_iff.mpr d.nd
 have hz:∀v∈ws.flatten++w,cntP ps ws.flatten v=0:=fun v hv=>by
  rcases List.mem_append.mp hv with h|h
  ·rw [cntP_zero]
   intro m hm
   obtain⟨u,hu,hvu⟩:=List.mem_flatten.mp h
   obtain⟨i,hi,rfl⟩:=List.getElem_of_mem hu
   have:=k.ok.lean i ws[i] (by simp [hi]) v hvu m hm
   obtain⟨t,ht,hmt⟩:=List.mem_flatten.mp this
   exact List.mem_flatten.mpr ⟨t,List.mem_of_mem_take ht,hmt⟩
  ·exact((k.wave v).mp h).2.2
 refine⟨⟨k.nd.2.1,k.nd.1,fun u hu=>?_,fun u hu=>?_,fun i u hu v hv m hm=>?_,fun i u u' hu hu' v hv=>?_⟩,fun v=>?_,?_,fun i u hu hi v hv=>?_⟩
 ·rcases List.mem_append.mp hu with h|h
  ·exact k.ok.full u h
  ·rw [List.mem_singleton]at h;subst h;exact hw
 ·rcases List.mem_append.mp hu with h|h
  ·exact k.ok.rise u h
  ·rw [List.mem_singleton]at h;subst h;exact k.wrise
 ·by_cases hi:i<ws.length
  ·rw [List.getElem?_append_left hi]at hu
   have:=k.ok.lean i u hu v hv m hm
   rw [List.take_append_of_le_length (by omega)]
   exact this
  ·have hil:i=ws.length:=by
    have:=(List.getElem?_eq_some_iff.mp hu).1
    simp at this
    omega
   subst hil
   rw [List.getElem?_append_right (Nat.le_refl _)]at hu
   simp at hu
   subst hu
   rw [List.take_append_of_le_length (Nat.le_refl _),List.take_length]
   exact cntP_zero.mp ((k.wave v).mp hv).2.2 m hm
 ·by_cases hi:i+1<ws.length
  ·rw [List.getElem?_append_left hi]at hu'
   rw [List.getElem?_append_left (by omega)]at hu
   exact k.ok.last i u u' hu hu' v hv
  ·have hil:i+1=ws.length:=by
    have:=(List.getElem?_eq_some_iff.mp hu').1
    simp at this
    omega
   rw [hil,List.getElem?_append_right (Nat.le_refl _)]at hu'
   simp at hu'
   subst hu'
   rw [List.getElem?_append_left (by omega)]at hu
   exact k.wlast i u hu hil v hv
 ·rw [hp.mem_iff,d.mem]
  constructor
  ·rintro⟨h1,h2,h3⟩
   refine⟨h1,fun hv=>?_,h2⟩
   rw [e]at hv
   have:=hz v hv
   omega
  ·rintro⟨h1,h2,h3⟩
   refine⟨h1,h3,Nat.pos_of_ne_zero fun h0=>h2 ?_⟩
   rw [e]at h2⊢
   exact List.mem_append_right _ ((k.wave v).mpr ⟨h1,fun z=>h2 (List.mem_append_left _ z),h0⟩)
 ·have:=List.pairwise_and_iff.mpr ⟨ho,hnd⟩
  exact this.imp fun h=>Nat.lt_of_le_of_ne h.1 h.2
 ·have hil:i=ws.length:=by simp at hi;omega
  subst hil
  rw [List.getElem?_append_right (Nat.le_refl _)]at hu
  simp at hu
  subst hu
  have h1:=(d.mem v).mp (hp.mem_iff.mp hv)
  have h2:∀m,(v,m)∈ps->m∈ws.flatten++w:=by rw [<-e];exact cntP_zero.mp h1.2.1
  refine Classical.byContradiction fun hc=>?_
  have:cntP ps ws.flatten v=0:=cntP_zero.mpr fun m hm=>by
   rcases List.mem_append.mp (h2 m hm)with z|z
   ·exact z
   ·exact absurd ⟨m,z,hm⟩ hc
  omega
structure IsRing (ps:List Pr) (n:Nat) (rs:List Nat):Prop where
 full:rs≠[]
 nodup:rs.Nodup
 below:∀v∈rs,v<n
 next:∀(i:Nat) (h:i<rs.length),(rs[i],rs[(i+1) % rs.length]'(Nat.mod_lt _ (by omega)))∈ps
theorem IsRing.reach {ps:List Pr} {n:Nat} {rs:List Nat} (r:IsRing ps n rs):∃v,Reach ps v v:=by
 have h0:0<rs.length:=List.length_pos_iff.mpr r.full
 have key:∀i (h:i<rs.length),Reach ps rs[0] (rs[(i+1) % rs.length]'(Nat.mod_lt _ h0)):=by
  intro i
  induction i with
  |zero=>intro h;exact .one (r.next 0 h)
  |succ i ih=>
   intro h
   have h1:=ih (by omega)
   have e:(i+1) % rs.length=i+1:=Nat.mod_eq_of_lt h
   have h2:=r.next (i+1) h
   refine .step (v:=rs[i+1]) ?_ h2
   simpa [e]using h1
 have h1:=key (rs.length-1) (by omega)
 have e:(rs.length-1+1) % rs.length=0:=by rw [Nat.sub_add_cancel h0,Nat.mod_self]
 refine⟨rs[0],?_⟩
 simpa [e]using h1
theorem WavesOk.noRing {ps:List Pr} {n:Nat} {ws:List (List Nat)} (hb:Below n ps) (k:WavesOk ps n ws) (hall:∀p∈ps,p.2∈ws.flatten):∀v,¬Reach ps v v:=by
 have key:∀i u v,Reach ps u v->(∃w,ws[i]? =some w/\u∈w)->v∈(ws.take i).flatten:=by
  intro i u v h
  induction h with
  |one h=>rintro⟨w,hw,hu⟩;exact k.lean i w hw _ hu _ h
  |step h1 h2 ih=>
   intro hw
   have h3:=ih hw
   obtain⟨t,ht,hvt⟩:=List.mem_flatten.mp h3
   obtain⟨j,hj,rfl⟩:=List.getElem_of_mem ht
   rw [List.length_take]at hj
   have h4:ws[j]? =some ((ws.take i)[j]'(by rw [List.length_take];exact hj)):=by
    rw [List.getElem_take]
    simp
   have h5:=k.lean j _ h4 _ hvt _ h2
   obtain⟨t',ht',hvt'⟩:=List.mem_flatten.mp h5
   refine List.mem_flatten.mpr ⟨t',?_,hvt'⟩
   have:ws.take j=(ws.take i).take j:=by rw [List.take_take];congr 1;omega
   rw [this]at ht'
   exact List.mem_of_mem_take ht'
 intro v h
 have hv:v∈ws.flatten:=by
  cases h with
  |one h=>exact hall _ h
  |step _ h=>exact hall _ h
 obtain⟨w,hw,hvw⟩:=List.mem_flatten.mp hv
 obtain⟨i,hi,rfl⟩:=List.getElem_of_mem hw
 have h1:=key i v v h ⟨ws[i],by simp [hi],hvw⟩
 have h2:=k.nodup
 have e:ws=ws.take i++ws[i]::ws.drop (i+1):=by
  rw [List.getElem_cons_drop,List.take_append_drop]
 rw [e,List.flatten_append,List.flatten_cons,List.nodup_append]at h2
 exact h2.2.2 v h1 v (List.mem_append_left _ hvw) rfl
structure Gone (ps:List Pr) (n:Nat) (on:Nat->Option Nat) (gone:List Nat) (x:Nat):Prop where
 nodup:gone.Nodup
 keys:∀v∈gone++[x],v<n/\∃m,on v=some m
 chain:∀(i:Nat) u v,(gone++[x])[i]? =some u->(gone++[x])[i+1]? =some v->on u=some v
theorem Gone.start {ps:List Pr} {n:Nat} {on:Nat->Option Nat} {x:Nat} (h:x<n/\∃m,on x=some m):Gone ps n on [] x:=
 ⟨by simp,by simpa using h,fun i u v h1 h2=>by simp at h2⟩
theorem Gone.step {ps:List Pr} {n:Nat} {on:Nat->Option Nat} {gone:List Nat} {x y:Nat} (g:Gone ps n on gone x) (hx:x∉gone) (hy:on x=some y) (hk:y<n/\∃m,on y=some m):Gone ps n on (gone++[x]) y:=by
 refine⟨List.nodup_append.mpr ⟨g.nodup,by simp,fun a ha b hb=>?_⟩,fun v hv=>?_,fun i u v h1 h2=>?_⟩
 ·rw [List.mem_singleton]at hb;subst hb;rintro rfl;exact hx ha
 ·rcases List.mem_append.mp hv with h|h
  ·exact g.keys v h
  ·rw [List.mem_singleton]at h;subst h;exact hk
 ·by_cases hi:i+1<(gone++[x]).length
  ·rw [List.getElem?_append_left hi]at h2
   rw [List.getElem?_append_left (by omega)]at h1
   exact g.chain i u v h1 h2
  ·have hil:i+1=(gone++[x]).length:=by
    have:=(List.getElem?_eq_some_iff.mp h2).1
    simp at this hi⊢
    omega
   rw [hil,List.getElem?_append_right (Nat.le_refl _)]at h2
   simp at h2
   subst h2
   have:i=gone.length:=by simp at hil;omega
   subst this
   rw [List.getElem?_append_left (by simp),List.getElem?_append_right (Nat.le_refl _)]at h1
   simp at h1
   subst h1
   exact hy
theorem Gone.ring {ps:List Pr} {n:Nat} {on:Nat->Option Nat} {gone:List Nat} {x:Nat} (g:Gone ps n on gone x) (hon:∀u v,on u=some v->(u,v)∈ps) (hx:x∈gone):IsRing ps n (gone.drop (gone.idxOf x)):=by
 have hj:gone.idxOf x<gone.length:=List.idxOf_lt_length_iff.mpr hx
 have hjx:gone[gone.idxOf x]=x:=List.getElem_idxOf hj
 refine⟨?_,g.nodup.sublist (List.drop_sublist _ _),fun v hv=>(g.keys v (List.mem_append_left _ (List.mem_of_mem_drop hv))).1,fun i h=>?_⟩
 ·intro z
  have:=congrArg List.length z
  rw [List.length_drop]at this
  simp at this
  omega
 ·apply hon
  have hl:(gone.drop (gone.idxOf x)).length=gone.length-gone.idxOf x:=List.length_drop
  have h':=h
  rw [hl]at h'
  refine g.chain (gone.idxOf x+i) _ _ ?_ ?_
  ·rw [List.getElem?_append_left (by omega),List.getElem_drop]
   simp
  ·by_cases hlast:i+1<(gone.drop (gone.idxOf x)).length
   ·have e:(i+1) % (gone.drop (gone.idxOf x)).length=i+1:=Nat.mod_eq_of_lt hlast
    rw [hl]at hlast
    rw [List.getElem?_append_left (by omega),List.getElem_drop]
    rw [List.getElem?_eq_getElem (by omega)]
    congr 2
    rw [e]
    omega
   ·have hil:i+1=gone.length-gone.idxOf x:=by omega
    have e:(i+1) % (gone.drop (gone.idxOf x)).length=0:=by rw [hl,hil,Nat.mod_self]
    have e2:gone.idxOf x+i+1=gone.length:=by omega
    rw [e2,List.getElem?_append_right (Nat.le_refl _)]
    simp only [Nat.sub_self,List.getElem?_cons_zero,Option.some.injEq]
    rw [List.getElem_drop]
    simp only [e,Nat.add_zero]
    exact hjx.symm
end G4
namespace G4
theorem nodup_sub:∀(l m:List Nat),l.Nodup->(∀v∈l,v∈m)->l.length<=m.length
 | [],m,_,_=>Nat.zero_le _
 |a::l,m,hn,h=>by
  obtain⟨h1,h2⟩:=List.nodup_cons.mp hn
  have ha:=h a List.mem_cons_self
  have ih:=nodup_sub l (m.erase a) h2 fun v hv=>by
   have hv':=h v (List.mem_cons_of_mem _ hv)
   have hne:v≠a:=fun e=>h1 (e▸hv)
   exact(List.mem_erase_of_ne hne).mpr hv'
  rw [List.length_erase_of_mem ha]at ih
  have:=List.length_pos_of_mem ha
  rw [List.length_cons]
  omega
theorem cover {n:Nat} {W:List Nat} (hn:W.Nodup) (hb:∀v∈W,v<n) (hl:n<=W.length):∀v,v<n->v∈W:=by
 intro v hv
 refine Classical.byContradiction fun hc=>?_
 have:=nodup_len n (v::W) (List.nodup_cons.mpr ⟨hc,hn⟩) fun u hu=>by
  rcases List.mem_cons.mp hu with e|e
  ·rw [e];exact hv
  ·exact hb u e
 rw [List.length_cons]at this
 omega
theorem missing {n:Nat} {W:List Nat} (hl:W.length<n):∃v,v<n/\v∉W:=by
 refine Classical.byContradiction fun hc=>?_
 have:=nodup_sub (List.range n) W List.nodup_range fun v hv=>Classical.byContradiction fun hz=>hc ⟨v,List.mem_range.mp hv,hz⟩
 rw [List.length_range]at this
 omega
theorem Gone.exists {ps:List Pr} {n:Nat} {on:Nat->Option Nat} (hon:∀u v,on u=some v->(u,v)∈ps) (hk:∀u v,on u=some v->v<n/\∃m,on v=some m):
  ∀(k:Nat) (gone:List Nat) (x:Nat),n-gone.length<=k->Gone ps n on gone x->∃rs,IsRing ps n rs:=by
 intro k
 induction k with
 |zero=>
  intro gone x hle g
  by_cases hx:x∈gone
  ·exact⟨_,g.ring hon hx⟩
  ·obtain⟨hxn,m,hm⟩:=g.keys x (by simp)
   have g':=g.step hx hm (hk x m hm)
   have hl:=nodup_len n _ g'.nodup fun v hv=>(g'.keys v (List.mem_append_left _ hv)).1
   rw [List.length_append]at hl
   simp at hl
   omega
 |succ k ih=>
  intro gone x hle g
  by_cases hx:x∈gone
  ·exact⟨_,g.ring hon hx⟩
  ·obtain⟨hxn,m,hm⟩:=g.keys x (by simp)
   exact ih (gone++[x]) m (by rw [List.length_append];simp;omega) (g.step hx hm (hk x m hm))
open Classical in
theorem Stuck.ring {ps:List Pr} {n:Nat} {ws:List (List Nat)} (hb:Below n ps) (st:Stuck ps n ws) {v:Nat} (hv:v<n) (hn:v∉ws.flatten):∃rs,IsRing ps n rs:=by
 let on:Nat->Option Nat:=fun u=>if h:u<n/\u∉ws.flatten then some (Classical.choose (st u h.1 h.2))else none
 have hon:∀u m,on u=some m->(u,m)∈ps/\m∉ws.flatten:=fun u m e=>by
  by_cases h:u<n/\u∉ws.flatten
  ·have e':on u=some (Classical.choose (st u h.1 h.2)):=dif_pos h
   rw [e']at e
   cases e
   exact Classical.choose_spec (st u h.1 h.2)
  ·have e':on u=none:=dif_neg h
   rw [e']at e
   cases e
 have hkey:∀u,u<n->u∉ws.flatten->u<n/\∃m,on u=some m:=fun u h1 h2=>⟨h1,_,dif_pos ⟨h1,h2⟩⟩
 refine Gone.exists (on:=on) (fun u m e=>(hon u m e).1) (fun u m e=>?_) _ [] v (Nat.le_refl _) (Gone.start (hkey v hv hn))
 obtain⟨h1,h2⟩:=hon u m e
 exact hkey m (hb _ h1).2 h2
end G4
namespace L2
section
abbrev Pq:=Nat×Nat
def Rdy (G:List Pq) (E:Nat->Option Nat) (t p:Nat):Prop:=∀q,(p,q)∈G->∃e,E q=some e/\e<=t
def IsB (G:List Pq) (E:Nat->Option Nat) (p b:Nat):Prop:=Rdy G E b p/\(b=0∨∃q,(p,q)∈G/\E q=some b)
structure CInv (n:Nat) (G:List Pq) (L:Nat->Nat) (E:Nat->Option Nat) (t:Nat):Prop where
 dom:∀p e,E p=some e->p<n
 sys:∀p e,E p=some e->∃b,e=b+L p/\IsB G E p b
 late:∀p,p<n->E p=none->0<t->∃q,(p,q)∈G/\∀e,E q=some e->t<=e
 zero:t=0->∀p,E p=none
def begun (L:Nat->Nat) (E:Nat->Option Nat) (t:Nat) (A:List Nat):Nat->Option Nat:=fun p=>match E p with|some e=>some e|none=>if p∈A then some (t+L p)else none
theorem begun_old {L:Nat->Nat} {E:Nat->Option Nat} {t:Nat} {A:List Nat} {p e:Nat} (h:E p=some e):begun L E t A p=some e:=by simp [begun,h]
theorem begun_new {L:Nat->Nat} {E:Nat->Option Nat} {t:Nat} {A:List Nat} {p:Nat} (h:E p=none) (m:p∈A):begun L E t A p=some (t+L p):=by simp [begun,h,m]
theorem begun_not {L:Nat->Nat} {E:Nat->Option Nat} {t:Nat} {A:List Nat} {p:Nat} (h:E p=none) (m:p∉A):begun L E t A p=none:=by simp [begun,h,m]
theorem begun_cases {L:Nat->Nat} {E:Nat->Option Nat} {t:Nat} {A:List Nat} {p e:Nat} (h:begun L E t A p=some e):E p=some e∨(E p=none/\p∈A/\e=t+L p):=by
 cases g:E p with
 |some x=>rw [begun_old g]at h;exact .inl h
 |none=>
  by_cases m:p∈A
  ·rw [begun_new g m]at h;exact .inr ⟨rfl,m,by cases h;rfl⟩
  ·rw [begun_not g m]at h;cases h
theorem begun_le {L:Nat->Nat} (hL:∀p,0<L p) {E:Nat->Option Nat} {t:Nat} {A:List Nat} {q e:Nat} (h:begun L E t A q=some e) (l:e<=t):E q=some e:=by
 rcases begun_cases h with h|⟨_,_,rfl⟩
 ·exact h
 ·have:=hL q;omega
theorem rdy_begun {G:List Pq} {L:Nat->Nat} (hL:∀p,0<L p) {E:Nat->Option Nat} {t:Nat} {A:List Nat} {p:Nat}:Rdy G (begun L E t A) t p↔Rdy G E t p:=
 ⟨fun h q m=>let⟨e,h1,h2⟩:=h q m;⟨e,begun_le hL h1 h2,h2⟩,fun h q m=>let⟨e,h1,h2⟩:=h q m;⟨e,begun_old h1,h2⟩⟩
theorem cinv_start {n:Nat} {G:List Pq} {L:Nat->Nat}:CInv n G L (fun _=>none) 0:=⟨(fun _ _ h=>nomatch h),(fun _ _ h=>nomatch h),(fun _ _ _ h=>absurd h (Nat.lt_irrefl _)),(fun _ _=>rfl)⟩
section
variable {n:Nat} {G:List Pq} {L:Nat->Nat} {E:Nat->Option Nat} {t:Nat} {A:List Nat}
theorem begins_at (hL:∀p,0<L p) (C:CInv n G L E t) {p:Nat} (hp:p<n) (h:E p=none) (r:Rdy G E t p):IsB G E p t:=by
 refine⟨r,?_⟩
 by_cases ht:0<t
 ·obtain⟨q,m,hq⟩:=C.late p hp h ht
  obtain⟨e,h1,h2⟩:=r q m
  have:=hq e h1
  exact .inr ⟨q,m,by rw [h1];congr 1;omega⟩
 ·exact .inl (by omega)
theorem sys_begun (hL:∀p,0<L p) (C:CInv n G L E t) (hA:∀p∈A,p<n/\Rdy G E t p):∀p e,begun L E t A p=some e->∃b,e=b+L p/\IsB G (begun L E t A) p b:=by
 intro p e h
 have up:∀{b},IsB G E p b->IsB G (begun L E t A) p b:=fun⟨r,x⟩=>⟨fun q m=>let⟨e,h1,h2⟩:=r q m;⟨e,begun_old h1,h2⟩,x.imp id fun⟨q,m,z⟩=>⟨q,m,begun_old z⟩⟩
 rcases begun_cases h with h'|⟨h',m,e0⟩
 ·obtain⟨b,e1,e2⟩:=C.sys p e h'
  exact⟨b,e1,up e2⟩
 ·exact⟨t,e0,up (begins_at hL C (hA p m).1 h' (hA p m).2)⟩
theorem cinv_next (hL:∀p,0<L p) (C:CInv n G L E t) (hA:∀p∈A,p<n/\Rdy G E t p) (all:∀p,p<n->E p=none->Rdy G E t p->p∈A) {t2:Nat} (l:t<t2) (nx:∀p e,begun L E t A p=some e->t<e->t2<=e):CInv n G L (begun L E t A) t2:=by
 refine⟨fun p e h=>?_,sys_begun hL C hA,fun p hp h _=>?_,fun z=>by omega⟩
 ·rcases begun_cases h with h|⟨_,m,_⟩
  ·exact C.dom p e h
  ·exact(hA p m).1
 ·have h0:E p=none:=by
   cases g:E p with
   |none=>rfl
   |some e=>rw [begun_old g]at h;cases h
  have nm:p∉A:=fun m=>by rw [begun_new h0 m]at h;cases h
  have nr:¬Rdy G E t p:=fun r=>nm (all p hp h0 r)
  apply Classical.byContradiction
  intro no
  refine nr fun q m=>?_
  apply Classical.byContradiction
  intro nq
  refine no ⟨q,m,fun e he=>?_⟩
  by_cases le:e<=t
  ·exact absurd ⟨e,begun_le hL he le,le⟩ nq
  ·exact nx q e he (by omega)
theorem cinv_exit (hL:∀p,0<L p) (C:CInv n G L E t) (all:∀p,p<n->E p=none->Rdy G E t p->p∈A) (done:∀p e,begun L E t A p=some e->e<=t) (hG:∀p q,(p,q)∈G->q<n) {p:Nat} (hp:p<n) (h:begun L E t A p=none):∃q,(p,q)∈G/\q<n/\begun L E t A q=none:=by
 have h0:E p=none:=by
  cases g:E p with
  |none=>rfl
  |some e=>rw [begun_old g]at h;cases h
 have nm:p∉A:=fun m=>by rw [begun_new h0 m]at h;cases h
 apply Classical.byContradiction
 intro no
 refine nm (all p hp h0 fun q m=>?_)
 cases g:begun L E t A q with
 |none=>exact absurd ⟨q,m,hG p q m,g⟩ no
 |some e=>exact⟨e,begun_le hL g (done q e g),done q e g⟩
end
end
end L2
namespace KB
open PySem PyProof.Rows L2 G4
section
variable {P:Program} {w:World} {K:W.Frag} {mg:Str->Option Value} {base:Heap}
def top (i:Nat):Stmt:=PySem.Challenge.pw_slanttiles_k76_least_walks.main.body.getD i (.Pass ⟨0,0,0,0⟩)
abbrev sWhole:Stmt:=top 9
abbrev sWithin:Stmt:=top 10
abbrev sOf:Stmt:=top 5
abbrev sAhead:Stmt:=top 6
abbrev sRing:Stmt:=top 7
abbrev sTimes:Stmt:=top 12
abbrev sLast:Stmt:=top 13
abbrev sChain:Stmt:=top 17
abbrev sWork:Stmt:=top 18
abbrev sLeast:Stmt:=top 19
abbrev sOrders:Stmt:=top 20
abbrev sNext:Stmt:=top 21
abbrev sBy:Stmt:=top 22
abbrev sCell:Stmt:=top 24
abbrev sTape:Stmt:=top 25
abbrev sDraw:Stmt:=top 26
abbrev sClock:Stmt:=top 29
abbrev sRound:Stmt:=top 30
abbrev sEnd:Stmt:=top 31
abbrev sAre:Stmt:=top 32
abbrev sTask:Stmt:=top 27
abbrev sRows:Stmt:=top 28
abbrev sGood:Stmt:=top 33
abbrev sBeats:Stmt:=top 34
abbrev sRight:Stmt:=top 35
abbrev sEven:Stmt:=top 36
abbrev sLaw:Stmt:=top 37
theorem Paired.get {α β:Type} {F:α->β->Prop}:∀{l₁:List α} {l₂:List β},Paired F l₁ l₂->∀{i:Nat} {x:α},l₁[i]? =some x->∃y,l₂[i]? =some y/\F x y
 |_,_,.nil,i,_,h=>by simp at h
 |_,_,.cons h _,0,_,e=>by simp at e;subst e;exact⟨_,rfl,h⟩
 |_,_,.cons _ t,i+1,x,e=>by
  obtain⟨y,h1,h2⟩:=Paired.get t (i:=i) (x:=x) (by simpa using e)
  exact⟨y,by simpa using h1,h2⟩
theorem Paired.snoc' {α β:Type} {F:α->β->Prop}:∀{l₁:List α} {l₂:List β} {x:α} {y:β},Paired F l₁ l₂->F x y->Paired F (l₁++[x]) (l₂++[y])
 |_,_,_,_,.nil,h=> .cons h .nil
 |_,_,_,_,.cons a t,h=> .cons a (Paired.snoc' t h)
theorem Paired.app {α β:Type} {F:α->β->Prop}:∀{l₁ m₁:List α} {l₂ m₂:List β},Paired F l₁ l₂->Paired F m₁ m₂->Paired F (l₁++m₁) (l₂++m₂)
 |_,_,_,_,.nil,h=>h
 |_,_,_,_,.cons a t,h=> .cons a (Paired.app t h)
theorem Paired.drop' {α β:Type} {F:α->β->Prop}:∀{l₁:List α} {l₂:List β},Paired F l₁ l₂->∀i:Nat,Paired F (l₁.drop i) (l₂.drop i)
 |_,_,h,0=>h
 |_,_,.nil,_+1=> .nil
 |_,_,.cons _ t,i+1=>Paired.drop' t i
abbrev natV (n:Nat):V:=V.int (n:Int)
abbrev nats (l:List Nat):List V:=l.map natV
def PrAt (H:Hp) (v:V) (p:Pr):Prop:=∃a,v= .ref a/\H a=some (.tup [natV p.1,natV p.2])
abbrev PrsAt (H:Hp):List V->List Pr->Prop:=Paired (PrAt H)
def WellAt (H:Hp) (a:Addr):Prop:=∃x y z:Int,H a=some (.lst [.int x,.int y,.int z])
def Kp (a:Addr) (H H':Hp):Prop:=∀b o,H b=some o->b≠a->H' b=some o
theorem Kp.trans {a:Addr} {H H1 H2:Hp} (x:Kp a H H1) (y:Kp a H1 H2):Kp a H H2:=fun b o h n=>y b o (x b o h n) n
theorem Kp.same {a:Addr} {H H1 H2:Hp} (x:Kp a H H1) (y:Same H1 H2):Kp a H H2:=fun b o h n=>y b o (x b o h n)
theorem Kp.of {a:Addr} {H H':Hp} (x:Same H H'):Kp a H H':=fun b o h _=>x b o h
theorem sameNew {H:Hp} {p:Addr} {o:HO} (h:H p=none):Same H (upd H p o):=fun b u e=>by
 rw [upd_ne (ne_of_none e h)]
 exact e
theorem sameUpd {H H1:Hp} {p:Addr} {o:HO} (h:H p=none) (s:Same H H1):Same H (upd H1 p o):=fun b u e=>by
 rw [upd_ne (ne_of_none e h)]
 exact s b u e
theorem kpUpd {H:Hp} {p:Addr} {o:HO}:Kp p H (upd H p o):=fun b u e n=>by
 rw [upd_ne n]
 exact e
theorem Kp.tup {a b:Addr} {H H':Hp} {xs:List V} (k:Kp a H H') (w:WellAt H a) (h:H b=some (.tup xs)):H' b=some (.tup xs):=by
 obtain⟨x,y,z,e⟩:=w
 exact k b _ h (ne_of h e (by intro q;cases q))
theorem WellAt.new {H:Hp} {a p:Addr} {o:HO} (h:WellAt H a) (hp:H p=none):WellAt (upd H p o) a:=by
 obtain⟨x,y,z,e⟩:=h
 exact⟨x,y,z,by rw [upd_ne (ne_of_none e hp)];exact e⟩
theorem WellAt.ne {H:Hp} {a p:Addr} (h:WellAt H a) (hp:H p=none):p≠a:=by
 obtain⟨x,y,z,e⟩:=h
 exact Ne.symm (ne_of_none e hp)
theorem PrsAt.mono {H H':Hp} (k:∀b xs,H b=some (.tup xs)->H' b=some (.tup xs)) {xs:List V} {ps:List Pr} (h:PrsAt H xs ps):PrsAt H' xs ps:=
 Paired.mapP h fun _ _ ⟨a,e,q⟩=>⟨a,e,k _ _ q⟩
theorem small {n:Nat} (h:n<=10000):n<sizeLine:=by
 have:(10000:Nat)<sizeLine:=by decide
 omega
theorem pe_ty {X:Cx} {x:Str} {n:String} {pos:Pos} (hg:Gl X x) (hm:X.mg x=none) (hv:bootBuiltins x=some (.type n)) (hn:x≠"__name__":=by decide) (hd:(x==("__debug__":Str))=false:=by decide):PE X (.Name x pos) (tC (.ty n)):=pe_bltn (v:= .ty n) hg hm hv rfl hn hd
structure Txt (K:W.Frag) (mg:Str->Option Value):Prop where
 isinstance:mg "isinstance"=none
 int:mg "int"=none
 bool:mg "bool"=none
 list:mg "list"=none
 tuple:mg "tuple"=none
 dict:mg "dict"=none
 str:mg "str"=none
 len:mg "len"=none
 range:mg "range"=none
 min:mg "min"=none
 max:mg "max"=none
 sorted:mg "sorted"=none
 sum:mg "sum"=none
 set:mg "set"=none
 enumerate:mg "enumerate"=none
def loopBody (s:Stmt):List Stmt:=match s with
 | .For _ _ b _ _=>b
 | .While _ b _ _=>b
 | .If _ b _ _=>b
 |_=>[]
theorem ifT {c:Bool} {a b:Prop} (h:c=true) (x:a):if c=true then a else b:=by rw [if_pos h];exact x
theorem ifF {c:Bool} {a b:Prop} (h:c=false) (x:b):if c=true then a else b:=by rw [if_neg (by rw [h];exact Bool.false_ne_true)];exact x
structure DNat (n:Nat) (kvs:List (Key×V)) (ks:List Nat) (f:Nat->Option V):Prop where
 keys:kvs.map (·.1)=ks.map fun k:Nat=>(Sum.inl (k:Int):Key)
 nd:ks.Nodup
 below:∀k∈ks,k<n
 val:∀k:Nat,valV kvs (Sum.inl (k:Int))=f k
theorem keyNat {i j:Nat} (h:(Sum.inl (i:Int):Key)=Sum.inl (j:Int)):i=j:=by
 have:=Sum.inl.inj h
 omega
section
variable {n:Nat} {kvs:List (Key×V)} {ks:List Nat} {f:Nat->Option V}
theorem DNat.nil:DNat n [] [] fun _=>none:=⟨rfl,List.nodup_nil,fun k h=>(by cases h),fun _=>rfl⟩
theorem DNat.len (h:DNat n kvs ks f):kvs.length=ks.length/\ks.length<=n:=by
 have e:=congrArg List.length h.keys
 simp at e
 exact⟨e,nodup_len n ks h.nd h.below⟩
theorem DNat.mem (h:DNat n kvs ks f) (k:Nat):k∈ks↔f k≠none:=by
 rw [<-h.val]
 constructor
 ·intro hk hn
  have:=valV_not hn
  rw [h.keys]at this
  exact this (List.mem_map.mpr ⟨k,hk,rfl⟩)
 ·intro hn
  cases e:valV kvs (Sum.inl (k:Int))with
  |none=>exact absurd e hn
  |some v=>
   have:=valV_in e
   rw [h.keys]at this
   obtain⟨j,hj,e2⟩:=List.mem_map.mp this
   rw [<-keyNat e2]
   exact hj
theorem DNat.put (h:DNat n kvs ks f) {r:Nat} (hr:r<n) (v:V):∃ks',DNat n (putK kvs (Sum.inl (r:Int)) v) ks' fun k=>if k=r then some v else f k:=by
 have hval:∀k:Nat,valV (putK kvs (Sum.inl (r:Int)) v) (Sum.inl (k:Int))=if k=r then some v else f k:=fun k=>by
  rw [valV_put]
  by_cases e:k=r
  ·subst e;rw [if_pos rfl,if_pos rfl]
  ·rw [if_neg (fun z=>e (keyNat z)),if_neg e,h.val]
 by_cases hk:(kvs.any fun kv=>decide (kv.1=(Sum.inl (r:Int):Key)))=true
 ·refine⟨ks,?_,h.nd,h.below,hval⟩
  unfold putK
  rw [if_pos hk,List.map_map, <-h.keys]
  refine List.map_congr_left fun kv _=>?_
  show(if kv.1=_ then(kv.1,v)else kv).1=kv.1
  split<;>rfl
 ·have hn:r∉ks:=fun z=>by
   apply hk
   have:(Sum.inl (r:Int):Key)∈kvs.map (·.1):=by rw [h.keys];exact List.mem_map.mpr ⟨r,z,rfl⟩
   obtain⟨kv,hkv,e⟩:=List.mem_map.mp this
   exact List.any_eq_true.mpr ⟨kv,hkv,decide_eq_true e⟩
  refine⟨ks++[r],?_,?_,fun k hk'=>?_,hval⟩
  ·unfold putK
   rw [if_neg hk,List.map_append,List.map_append,h.keys]
   rfl
  ·rw [List.nodup_append]
   refine⟨h.nd,by simp,fun a ha b hb=>?_⟩
   rw [List.mem_singleton]at hb
   subst hb
   rintro rfl
   exact hn ha
  ·rcases List.mem_append.mp hk' with z|z
   ·exact h.below k z
   ·rw [List.mem_singleton]at z;subst z;exact hr
theorem DNat.new (h:DNat n kvs ks f) {r:Nat} (hr:r<n) (v:V) (hf:f r=none):∃ks',DNat n (putK kvs (Sum.inl (r:Int)) v) ks' (fun k=>if k=r then some v else f k)/\ks'.length=ks.length+1:=by
 obtain⟨ks',h'⟩:=h.put hr v
 refine⟨ks',h',?_⟩
 have e:=putK_new v ((h.val r).trans hf)
 have l1:=h'.len.1
 have l2:=h.len.1
 rw [e,List.length_append]at l1
 simp at l1
 omega
end
def ListsAt (H:Hp) (as:List Addr) (ls:List (List Nat)):Prop:=Paired (fun b l=>H b=some (.lst (nats l))) as ls
theorem nx_mem {ps:List Pr} {u v:Nat}:v∈(ps.filter fun p=>decide (p.1=u)).map (·.2)↔(u,v)∈ps:=by
 rw [List.mem_map]
 constructor
 ·rintro⟨p,hp,rfl⟩
  obtain⟨h1,h2⟩:=List.mem_filter.mp hp
  have e:p.1=u:=of_decide_eq_true h2
  subst e
  exact h1
 ·intro h
  exact⟨(u,v),List.mem_filter.mpr ⟨h,decide_eq_true rfl⟩,rfl⟩
theorem nats_ints (l:List Nat):nats l=(l.map fun k:Nat=>(k:Int)).map V.int:=by
 unfold nats
 rw [List.map_map]
 rfl
theorem get_nats {l:List Nat} {i:Nat} {x:V} (h:(nats l)[i]? =some x):∃k,x=natV k/\l[i]? =some k:=by
 rw [List.getElem?_map]at h
 cases e:l[i]? with
 |none=>rw [e]at h;cases h
 |some n=>rw [e]at h;exact⟨n,(Option.some.inj h).symm,rfl⟩
theorem eqFs_nats (l m:List Nat):eqFs ((l.map fun k:Nat=>(k:Int)).map fun n=>F1.fl (.int n)) ((m.map fun k:Nat=>(k:Int)).map fun n=>F1.fl (.int n))=decide (l=m):=by
 rw [eqFs_ints]
 by_cases h:l=m
 ·subst h;simp
 ·rw [decide_eq_false h]
  refine decide_eq_false fun z=>h ?_
  have:∀l m:List Nat,(l.map fun k:Nat=>(k:Int))=m.map (fun k:Nat=>(k:Int))->l=m:=by
   intro l
   induction l with
   |nil=>intro m h;cases m with|nil=>rfl|cons _ _=>cases h
   |cons a l ih=>
    intro m h
    cases m with
    |nil=>cases h
    |cons b m=>
     rw [List.map_cons,List.map_cons]at h
     obtain⟨h1,h2⟩:=List.cons.inj h
     rw [ih m h2,show a=b by omega]
  exact this l m z
theorem den_nats {K:W.Frag} {H:Hp} (l:List Nat):Den1s K H (nats l) ((l.map fun k:Nat=>(k:Int)).map fun n=>F1.fl (.int n)):=by
 rw [nats_ints]
 exact den_ints _
structure NewLL (H H3:Hp) (D:Addr) (as:List Addr) (ls:List (List Nat)):Prop where
 top:H3 D=some (.lst (as.map V.ref))
 nd:as.Nodup
 new:∀b∈as,H b=none/\b≠D
 at_:ListsAt H3 as ls
theorem listsAt_get {H:Hp} {as:List Addr} {ls:List (List Nat)} (h:ListsAt H as ls) {i:Nat} {l:List Nat} (e:ls[i]? =some l):∃b,as[i]? =some b/\H b=some (.lst (nats l)):=L2.Paired.get2 h e
theorem listsAt_of {H:Hp}:∀{as:List Addr} {ls:List (List Nat)},as.length=ls.length->(∀(i:Nat) b l,as[i]? =some b->ls[i]? =some l->H b=some (.lst (nats l)))->ListsAt H as ls
 | [],[],_,_=> .nil
 | [],_::_,h,_=>by simp at h
 |_::_,[],h,_=>by simp at h
 |a::as,l::ls,h,f=> .cons (f 0 a l rfl rfl) (listsAt_of (by simpa using h) fun i b m h1 h2=>f (i+1) b m (by simpa using h1) (by simpa using h2))
section
variable {H H3:Hp} {D p b:Addr} {as:List Addr} {ls:List (List Nat)}
theorem NewLL.len (h:NewLL H H3 D as ls):as.length=ls.length:=Paired.length h.at_
theorem NewLL.keep {H4:Hp} (h:NewLL H H3 D as ls) (k:∀b o,(b=D∨b∈as)->H3 b=some o->H4 b=some o):NewLL H H4 D as ls:=by
 refine⟨k _ _ (.inl rfl) h.top,h.nd,h.new,listsAt_of h.len fun i b l h1 h2=>k _ _ (.inr (List.mem_of_getElem? h1)) ?_⟩
 obtain⟨b',e1,e2⟩:=listsAt_get h.at_ h2
 rw [h1]at e1
 cases e1
 exact e2
theorem NewLL.app (h:NewLL H H3 D as ls) {i:Nat} {l:List Nat} (e:ls[i]? =some l) (eb:as[i]? =some b) (x:Nat):NewLL H (upd H3 b (.lst (nats l++[natV x]))) D as (ls.set i (l++[x])):=by
 have hbD:=(h.new b (List.mem_of_getElem? eb)).2
 refine⟨by rw [upd_ne (Ne.symm hbD)];exact h.top,h.nd,h.new,listsAt_of (by rw [List.length_set];exact h.len) fun j c m h1 h2=>?_⟩
 by_cases hij:i=j
 ·subst hij
  rw [eb]at h1
  cases h1
  have:(ls.set i (l++[x]))[i]? =some (l++[x]):=by
   have:=(List.getElem?_eq_some_iff.mp e).1
   simp [this]
  rw [this]at h2
  cases h2
  rw [upd_same]
  unfold nats
  rw [List.map_append]
  rfl
 ·rw [List.getElem?_set_ne hij]at h2
  have hcb:c≠b:=by
   rintro rfl
   obtain⟨hi,ei⟩:=List.getElem?_eq_some_iff.mp eb
   obtain⟨hj,ej⟩:=List.getElem?_eq_some_iff.mp h1
   rcases Nat.lt_or_gt_of_ne hij with hlt|hlt
   ·exact List.pairwise_iff_getElem.mp h.nd i j hi hj hlt (ei.trans ej.symm)
   ·exact List.pairwise_iff_getElem.mp h.nd j i hj hi hlt (ej.trans ei.symm)
  rw [upd_ne hcb]
  obtain⟨c',e1,e2⟩:=listsAt_get h.at_ h2
  rw [h1]at e1
  cases e1
  exact e2
end
theorem comp_news {n:Nat} {D:Addr} {Q:VK} {H:Hp} {σ:L2.St} (hn:n<=1000) (hσ:∃v0,σ=[v0]) (hD:H D=none)
  (k:∀(as:List Addr) (H3:Hp),Same H H3->NewLL H H3 D as (List.replicate n [])->Q (.ref D) H3):
  CompW (Itr 0 n) D (gName 0) (tLst tNil) Q σ (upd H D (.lst [])):=by
 refine comp_range (fun i acc σc H3=>(∃v0,σc=[v0])/\i<=n/\Same H H3/\H3 D=some (.lst acc)/\∃as:List Addr,acc=as.map V.ref/\NewLL H H3 D as (List.replicate i []))
  ⟨hσ,Nat.zero_le _,sameNew hD,upd_same,[],rfl,upd_same,List.nodup_nil,fun b hb=>(by cases hb),.nil⟩ ?_ ?_
 ·rintro i acc σc H3 hi ⟨⟨v0,rfl⟩,hin,s3,hD3,as,rfl,ll⟩
  refine⟨Nat.zero_le _,fun b hb=>?_⟩
  have s4:Same H3 (upd H3 b (.lst [])):=sameNew hb
  have hlen:=ll.len
  rw [List.length_replicate]at hlen
  refine cturn (s4 _ _ hD3) (small (by rw [List.length_map];omega)) hi ⟨⟨_,rfl⟩,hi,sameUpd hD (s3.trans s4),upd_same,as++[b],by rw [List.map_append];rfl,?_⟩
  have hbD:b≠D:=Ne.symm (ne_of_none hD3 hb)
  have hba:b∉as:=fun z=>by
   obtain⟨j,hj,e⟩:=List.getElem_of_mem z
   obtain⟨c,e1,e2⟩:=Paired.get ll.at_ (i:=j) (x:=b) (by rw [List.getElem?_eq_getElem hj,e])
   rw [e2]at hb
   cases hb
  refine⟨by rw [upd_same,List.map_append];rfl,List.nodup_append.mpr ⟨ll.nd,by simp,fun x hx y hy=>?_⟩,fun c hc=>?_,?_⟩
  ·rw [List.mem_singleton]at hy;subst hy;rintro rfl;exact hba hx
  ·rcases List.mem_append.mp hc with z|z
   ·exact ll.new c z
   ·rw [List.mem_singleton]at z;subst z;exact⟨s3.free hb,hbD⟩
  ·rw [List.replicate_succ']
   refine Paired.snoc' (Paired.mapP ?_ fun _ _ e=>e) ?_
   ·refine listsAt_of ll.len fun j c m h1 h2=>?_
    obtain⟨c',e1,e2⟩:=listsAt_get ll.at_ h2
    rw [h1]at e1
    cases e1
    rw [upd_ne (ll.new c (List.mem_of_getElem? h1)).2]
    exact s4 _ _ e2
   ·rw [upd_ne hbD]
    exact upd_same
 ·rintro acc σc H3 ⟨_,_,s3,hD3,as,rfl,ll⟩
  exact k as H3 s3 ll
def nxG (key val:Pr->Nat) (ps:List Pr) (n:Nat):List (List Nat):=(List.range n).map fun u=>(ps.filter fun p=>decide (key p=u)).map val
theorem nxG_nil (key val:Pr->Nat) (n:Nat):nxG key val [] n=List.replicate n []:=by
 unfold nxG
 show(List.range n).map (fun _=>([]:List Nat))=_
 rw [List.map_const',List.length_range]
theorem nxG_get {key val:Pr->Nat} {ps:List Pr} {n u:Nat} (h:u<n):(nxG key val ps n)[u]? =some ((ps.filter fun p=>decide (key p=u)).map val):=by
 unfold nxG
 rw [List.getElem?_map,List.getElem?_range h]
 rfl
theorem nxG_snoc {key val:Pr->Nat} {ps:List Pr} {n:Nat} {p:Pr} (h:key p<n):(nxG key val ps n).set (key p) ((ps.filter fun q=>decide (key q=key p)).map val++[val p])=nxG key val (ps++[p]) n:=by
 apply List.ext_getElem?
 intro i
 by_cases hi:i<n
 ·rw [nxG_get hi]
  by_cases e:key p=i
  ·subst e
   have hl:key p<(nxG key val ps n).length:=by unfold nxG;simpa using hi
   rw [List.getElem?_set_self hl,List.filter_append,List.map_append]
   simp
  ·rw [List.getElem?_set_ne e,nxG_get hi,List.filter_append,List.map_append]
   simp [e]
 ·rw [List.getElem?_eq_none (by unfold nxG;simp;omega),List.getElem?_eq_none (by unfold nxG;simp;omega)]
def cnts (n:Nat) (L:Nat->Nat):List V:=(List.range n).map fun v=>natV (L v)
theorem cnts_len (n:Nat) (L:Nat->Nat):(cnts n L).length=n:=by unfold cnts;simp
theorem cnts_get {n:Nat} {L:Nat->Nat} {r:Nat} (h:r<n):(cnts n L)[r]? =some (natV (L r)):=by
 unfold cnts
 rw [List.getElem?_map,List.getElem?_range h]
 rfl
theorem cnts_set {n:Nat} {L:Nat->Nat} {r x:Nat} (h:r<n):(cnts n L).set r (natV x)=cnts n fun v=>if v=r then x else L v:=by
 apply List.ext_getElem?
 intro i
 by_cases hi:i<n
 ·rw [cnts_get hi]
  by_cases e:r=i
  ·subst e
   rw [List.getElem?_set_self (by rw [cnts_len];exact hi),if_pos rfl]
  ·rw [List.getElem?_set_ne e,cnts_get hi,if_neg (fun z=>e z.symm)]
 ·rw [List.getElem?_eq_none (by rw [List.length_set,cnts_len];omega),List.getElem?_eq_none (by rw [cnts_len];omega)]
theorem cnts_congr {n:Nat} {L L':Nat->Nat} (h:∀v,v<n->L v=L' v):cnts n L=cnts n L':=by
 unfold cnts
 refine List.map_congr_left fun v hv=>?_
 rw [h v (List.mem_range.mp hv)]
theorem ix_nat {n j:Nat} (h:j<n):ixN n (j:Int)=some j:=by
 unfold ixN
 rw [if_pos (by omega),if_pos (by omega)]
 simp
theorem cnts_zero (n:Nat):(List.replicate n [V.int 0]).flatten=cnts n fun v=>([]:List Pr).countP fun p=>decide (p.1=v):=by
 induction n with
 |zero=>rfl
 |succ n ih=>
  rw [List.replicate_succ',List.flatten_append,ih]
  unfold cnts
  rw [List.range_succ,List.map_append]
  rfl
theorem cnt_snoc (ps:List Pr) (p:Pr) (v:Nat):(ps++[p]).countP (fun q=>decide (q.1=v))=(if v=p.1 then ps.countP (fun q=>decide (q.1=p.1))+1 else ps.countP fun q=>decide (q.1=v)):=by
 rw [List.countP_append]
 by_cases e:v=p.1
 ·subst e;simp
 ·rw [if_neg e]
  simp
  exact fun z=>e z.symm
theorem cntP_nil (ps:List Pr) (v:Nat):cntP ps [] v=ps.countP fun q=>decide (q.1=v):=by
 unfold cntP
 congr 1
 funext p
 simp
theorem rds_get {ps:List Pr} {n m:Nat} (h:m<n):(nxG (·.2) (·.1) ps n)[m]? =some (rdOf ps m):=nxG_get h
def Kp2 (a b:Addr) (H H':Hp):Prop:=∀c o,H c=some o->c≠a->c≠b->H' c=some o
def spAhead:Sp:=fun vs H Q _=>∃(p:Addr) (xs:List V) (n:Nat) (ps:List Pr),vs=[.ref p,natV n]/\H p=some (.lst xs)/\PrsAt H xs ps/\Below n ps/\n<=60/\ps.length<=1000/\
 ∀(q:Addr) (as:List Addr) (ws:List (List Nat)) (H':Hp),Same H H'->H q=none->NewLL H H' q as ws->WavesOk ps n ws->Stuck ps n ws->Q (.ref q) H'
abbrev scA1:Scope:={kind:= .function,names:=[(PySem.Str.ofString ".0",.local),(PySem.Str.ofString "number",.local)],isGenerator:=false,isCoroutine:=false,more:=[]}
abbrev scA2:Scope:={kind:= .function,names:=[(PySem.Str.ofString ".0",.local),(PySem.Str.ofString "number",.local),(PySem.Str.ofString "lacking",.free)],isGenerator:=false,isCoroutine:=false,more:=[]}
theorem ndA1:(["number"]:List Str).Nodup:=by decide+kernel
theorem ndA2:(["number","lacking"]:List Str).Nodup:=by decide+kernel
abbrev NA:List Str:=["pairs","many","lacking","readers","reader","made","waves","wave","freed"]
theorem scA:FnScope NA ["pairs","many"] (defScope sAhead):=⟨rfl,rfl,rfl,by decide+kernel,rfl,by decide+kernel,by decide+kernel⟩
abbrev XA (P:Program) (w:World) (K:W.Frag) (mg:Str->Option Value) (base:Heap) (f:Addr) (cdv:Value) (A:Around) (outer:List Env) (s:Shared) (H:Hp) (E:XK):Cx:=(cxOf CX0 P w K mg base NA "waves_ahead" (defScope sAhead) f cdv A outer s H E).nox
theorem csA1 {f:Addr} {cdv:Value} {A:Around} {outer:List Env} {s:Shared} {H:Hp} {E:XK}:∃cl,CompScope (XA P w K mg base f cdv A outer s H E) scA1 [] cl:=
 comp_scope (fun x h=>cell_has h) rfl (by decide+kernel) (by decide+kernel) (show∀y∈scA1.names,y.2= .free->(defScope sAhead).names.lookup y.1=some .cell by decide+kernel) (fun p hp=>by cases hp)
theorem csA2 {f:Addr} {cdv:Value} {A:Around} {outer:List Env} {s:Shared} {H:Hp} {E:XK}:∃cl,CompScope (XA P w K mg base f cdv A outer s H E) scA2 [("lacking",2)] cl:=
 comp_scope (fun x h=>cell_has h) rfl (by decide+kernel) (by decide+kernel) (show∀y∈scA2.names,y.2= .free->(defScope sAhead).names.lookup y.1=some .cell by decide+kernel) (fun p hp=>by
  have e:p=((PySem.Str.ofString "lacking"),2):=by simpa using hp
  subst e
  exact⟨rfl,rfl,rfl⟩)
theorem ahead_turn {f:Addr} {cdv:Value} {A:Around} {outer:List Env} {s:Shared} {H:Hp} {E:XK}:
  ∃t,PS (XA P w K mg base f cdv A outer s H E) ((loopBody ((defBody sAhead).getD 5 (.Pass ⟨0,0,0,0⟩))).getD 2 (.Pass ⟨0,0,0,0⟩)) t/\∀(D:Ends) (H3:Hp) (v0 v1:Option V) (pl pr pw c fr:Addr) (as:List Addr) (n:Nat) (ps:List Pr) (ds w:List Nat) (L0:Nat->Nat) (v4 v5:Option V),
   Below n ps->n<=60->NewLL H H3 pr as (nxG (·.2) (·.1) ps n)->pl≠pr->pl∉as->H3 pl=some (.lst (cnts n L0))->H3 c=some (.lst (nats w))->c≠pl->H3 fr=some (.lst (nats []))->fr≠pl->fr≠c->fr≠pr->fr∉as->
   (∀v,L0 v=cntP ps ds v)->(ds++w).Nodup->(∀v∈w,v<n)->
   (∀(F:List Nat) (H':Hp) (v4 v5:Option V),Kp2 pl fr H3 H'->H' pl=some (.lst (cnts n (cntP ps (ds++w))))->H' fr=some (.lst (nats F))->Dec n (cntP ps ds) (cntP ps (ds++w)) F->D.nx [v0,v1,some (.ref pl),some (.ref pr),v4,v5,some (.ref pw),some (.ref c),some (.ref fr)] H')->
   t D [v0,v1,some (.ref pl),some (.ref pr),v4,v5,some (.ref pw),some (.ref c),some (.ref fr)] H3:=by
 refine⟨_,ps_for PassesOwn.never rfl (pi_list (pv 7)) (pg_name (i:=5) scA.nd rfl (Or.inl rfl))
  (pss_one (ps_for PassesOwn.never rfl (pi_list (pe_ix ix_list (pv 3) (pv 5) (fun _ _=>rfl))) (pg_name (i:=4) scA.nd rfl (Or.inl rfl))
   (pss_cons (ps_asg (pe_op op_sub (pe_ix ix_list (pv 2) (pv 4) (fun _ _=>rfl)) pe_int) (pg_sub (pv 2) (pv 4) set_list))
   (pss_one (ps_if (pt_cmpR op_eq (pe_ix ix_list (pv 2) (pv 4) (fun _ _=>rfl)) pe_int (nomark _))
    (pss_one (ps_expr (pe_bm PySem.F.plainAttrs_list PySem.F.slot_list_append PySem.F.type_list_append mt_append (pv 8) (pa_cons (pv 4) pa_nil)))) pss_nil))))),?_⟩
 intro D H3 v0 v1 pl pr pw c fr as n ps ds w L0 v4 v5 hb hn ll hplr hpla hpl hc hcl hf hfl hfc hfr hfa hL0 hnd hwn k
 refine⟨_,rfl,c,rfl,⟨_,SqL.of hc⟩,?_⟩
 refine for_list (K:=K) (a:=c) (xs:=nats w) (fun i σ H4=>∃(F:List Nat) (L:Nat->Nat) (v4 v5:Option V),σ=[v0,v1,some (.ref pl),some (.ref pr),v4,v5,some (.ref pw),some (.ref c),some (.ref fr)]/\Kp2 pl fr H3 H4/\H4 pl=some (.lst (cnts n L))/\H4 fr=some (.lst (nats F))/\
   (∀v,L v=cntP ps (ds++w.take i) v)/\Dec n (cntP ps ds) L F) ?_ (fun i σ H4 _ ⟨_,_,_,_,_,kp,_⟩=>SqL.of (kp _ _ hc hcl (Ne.symm hfc))) ?_ ?_
 ·have e0:L0=cntP ps ds:=funext hL0
  refine⟨[],L0,v4,v5,rfl,fun _ _ e _ _=>e,hpl,hf,fun v=>by rw [List.take_zero,List.append_nil];exact hL0 v,?_⟩
  rw [e0]
  exact Dec.start
 ·rintro i x σ H4 hi ⟨F,L,u4,u5,rfl,kp,hpl4,hf4,hL,dc⟩
  obtain⟨m,rfl,hm⟩:=get_nats hi
  have hmw:m∈w:=List.mem_of_getElem? hm
  have hmn:m<n:=hwn m hmw
  obtain⟨b,e1,e2⟩:=listsAt_get ll.at_ (rds_get (ps:=ps) hmn)
  have hba:=List.mem_of_getElem? e1
  have hbl:b≠pl:=fun z=>hpla (z▸hba)
  have hbf:b≠fr:=fun z=>hfa (z▸hba)
  have hpr4:=kp _ _ ll.top (Ne.symm hplr) (Ne.symm hfr)
  have hb4:∀{H5:Hp},Kp2 pl fr H3 H5->SqL K H5 b (nats (rdOf ps m)):=fun k5=>SqL.of (k5 _ _ e2 hbl hbf)
  have hmd:m∉ds++w.take i:=by
   intro z
   have hsp:w=w.take i++m::w.drop (i+1):=by
    have hil:=(List.getElem?_eq_some_iff.mp hm)
    obtain⟨h1,h2⟩:=hil
    rw [<-h2,List.getElem_cons_drop,List.take_append_drop]
   rw [hsp, <-List.append_assoc,List.nodup_append]at hnd
   exact hnd.2.2 m z m (by simp) rfl
  refine⟨_,rfl,_,rfl,pr,_,_,_,rfl,rfl,SqL.of hpr4,atI_nat (show(as.map V.ref)[m]? =some (.ref b) by rw [List.getElem?_map,e1];rfl),b,rfl,⟨_,hb4 kp⟩,?_⟩
  refine for_list (K:=K) (a:=b) (xs:=nats (rdOf ps m)) (fun j σ H5=>∃(F:List Nat) (L:Nat->Nat) (v4:Option V),σ=[v0,v1,some (.ref pl),some (.ref pr),v4,some (natV m),some (.ref pw),some (.ref c),some (.ref fr)]/\Kp2 pl fr H3 H5/\H5 pl=some (.lst (cnts n L))/\H5 fr=some (.lst (nats F))/\
    (∀v,L v+((rdOf ps m).take j).count v=cntP ps (ds++w.take i) v)/\Dec n (cntP ps ds) L F) ?_ (fun j σ H5 _ ⟨_,_,_,_,k5,_⟩=>hb4 k5) ?_ ?_
  ·exact⟨F,L,u4,rfl,kp,hpl4,hf4,fun v=>by rw [List.take_zero];exact hL v,dc⟩
  ·rintro j x σ H5 hj ⟨F5,L5,w4,rfl,kp5,hpl5,hf5,hL5,dc5⟩
   obtain⟨r,rfl,hr⟩:=get_nats hj
   obtain⟨hpos,hless⟩:=turn_less hmd hL5 hr
   have hrn:r<n:=by
    have:r∈rdOf ps m:=List.mem_of_getElem? hr
    unfold rdOf at this
    obtain⟨q,hq,rfl⟩:=List.mem_map.mp this
    exact(hb q (List.mem_filter.mp hq).1).1
   refine⟨_,rfl,_,rfl,pl,_,_,_,rfl,rfl,SqL.of hpl5,atI_nat (cnts_get hrn),_,_,rfl,rfl,?_⟩
   have e3:V.int ((L5 r:Int)-1)=natV (L5 r-1):=by show V.int _=V.int _;congr 1;omega
   refine⟨_,rfl,_,rfl,pl,_,_,r,rfl,rfl,hpl5,by rw [cnts_len];exact ix_nat hrn,?_⟩
   have hp6:(upd H5 pl (.lst ((cnts n L5).set r (V.int ((L5 r:Int)-1))))) pl=some (.lst (cnts n (less L5 r))):=by
    rw [upd_same,e3,cnts_set hrn]
    rfl
   have kp6:Kp2 pl fr H3 (upd H5 pl (.lst ((cnts n L5).set r (V.int ((L5 r:Int)-1))))):=fun cc o e h1 h2=>by rw [upd_ne h1];exact kp5 cc o e h1 h2
   have hf6:(upd H5 pl (.lst ((cnts n L5).set r (V.int ((L5 r:Int)-1))))) fr=some (.lst (nats F5)):=by rw [upd_ne hfl];exact hf5
   refine⟨_,rfl,_,rfl,pl,_,_,_,rfl,rfl,SqL.of hp6,atI_nat (cnts_get hrn),rfl,_,rfl,?_⟩
   have e4:less L5 r r=L5 r-1:=by unfold less;rw [if_pos rfl]
   by_cases hz:L5 r=1
   ·have e5:less L5 r r=0:=by omega
    refine ifT (by rw [e5];rfl) ?_
    have hF5:F5.length<=n:=nodup_len n F5 dc5.nd fun v hv=>((dc5.mem v).mp hv).1
    refine⟨_,rfl,.inl ⟨rfl,_,SqL.of hf6⟩,_,rfl,fr,_,_,rfl,rfl,hf6,small (by unfold nats;rw [List.length_map];omega),?_⟩
    refine⟨F5++[r],_,_,rfl,fun cc o e h1 h2=>by rw [upd_ne h2];exact kp6 cc o e h1 h2,by rw [upd_ne (Ne.symm hfl)];exact hp6,?_,hless,dc5.step0 hrn hz⟩
    rw [upd_same]
    unfold nats
    rw [List.map_append]
    rfl
   ·refine ifF (decide_eq_false fun z=>?_) ⟨F5,_,_,rfl,kp6,hp6,hf6,hless,dc5.step1 (by omega)⟩
    have:((less L5 r r:Nat):Int)=0:=V.int.inj z
    omega
  ·rintro σ H5 ⟨F5,L5,w4,rfl,kp5,hpl5,hf5,hL5,dc5⟩
   refine⟨F5,L5,_,_,rfl,kp5,hpl5,hf5,fun v=>?_,dc5⟩
   have h1:=hL5 v
   unfold nats at h1
   rw [List.length_map,List.take_length]at h1
   have h2:=cntP_split hmd v ps
   have e:ds++w.take (i+1)=ds++w.take i++[m]:=by rw [List.take_succ,hm,List.append_assoc];rfl
   rw [e]
   omega
 ·rintro σ H4 ⟨F,L,u4,u5,rfl,kp,hpl4,hf4,hL,dc⟩
  have el:(nats w).length=w.length:=by unfold nats;rw [List.length_map]
  rw [el,List.take_length]at hL
  have eL:L=cntP ps (ds++w):=funext hL
  subst eL
  exact k F H4 u4 u5 kp hpl4 hf4 dc
structure WSt (ps:List Pr) (n:Nat) (H H3:Hp) (pl pr pw c:Addr) (as aw:List Addr) (ws:List (List Nat)) (w:List Nat):Prop where
 same:Same H H3
 lack:H3 pl=some (.lst (cnts n (cntP ps ws.flatten)))
 rds:NewLL H H3 pr as (nxG (·.2) (·.1) ps n)
 wvs:NewLL H H3 pw aw ws
 cur:H3 c=some (.lst (nats w))
 newc:H c=none
 plr:pl≠pr/\pl∉as/\pl≠pw/\pl∉aw/\pl≠c
 pwr:pw≠pr/\pw∉as/\pw≠c/\c∉aw
 kahn:Kahn ps n ws w
theorem ahead_while {f:Addr} {cdv:Value} {A:Around} {outer:List Env} {s:Shared} {H:Hp} {E:XK} (T:Txt K mg):
  ∃t,PSs (XA P w K mg base f cdv A outer s H E) ((defBody sAhead).drop 5) t/\∀(nx:L2.St->Hp->Prop) (Q:VK) (H3:Hp) (v0 v1:Option V) (pl pr pw c:Addr) (as aw:List Addr) (n:Nat) (ps:List Pr) (ws:List (List Nat)) (w:List Nat) (v4 v5:Option V),
   Below n ps->n<=60->H pl=none->H pw=none->WSt ps n H H3 pl pr pw c as aw ws w->
   (∀(as:List Addr) (ws:List (List Nat)) (H':Hp),Same H H'->NewLL H H' pw as ws->WavesOk ps n ws->Stuck ps n ws->Q (.ref pw) H')->
   t {nx:=nx,rt:=Q} [v0,v1,some (.ref pl),some (.ref pr),v4,v5,some (.ref pw),some (.ref c),none] H3:=by
 obtain⟨t1,h1,r1⟩:=ahead_turn (P:=P) (w:=w) (K:=K) (mg:=mg) (base:=base) (f:=f) (cdv:=cdv) (A:=A) (outer:=outer) (s:=s) (H:=H) (E:=E)
 refine⟨_,pss_cons (ps_while PassesOwn.never (pt_cmpR op_gt (pe_callB call_len_seq (by rfl) T.len PySem.boot_len (pa_cons (pv 7) pa_nil)) pe_int (nomark _))
  (pss_cons (ps_expr (pe_bm PySem.F.plainAttrs_list PySem.F.slot_list_append PySem.F.type_list_append mt_append (pv 6) (pa_cons (pv 7) pa_nil)))
  (pss_cons (ps_set (i:=8) scA.nd rfl (Or.inl rfl) (pe_lst pa_nil))
  (pss_cons h1
  (pss_one (ps_set (i:=7) scA.nd rfl (Or.inl rfl) (pe_callB call_sorted rfl T.sorted boot_sorted (pa_cons (pv 8) pa_nil))))))))
  (pss_one (ps_ret (pv 6))),?_⟩
 intro nx Q H3 v0 v1 pl pr pw c as aw n ps ws w v4 v5 hb hn hpl0 hpw0 S0 q
 refine⟨fun m σ H4=>∃(c:Addr) (aw:List Addr) (ws:List (List Nat)) (w:List Nat) (v4 v5 v8:Option V),σ=[v0,v1,some (.ref pl),some (.ref pr),v4,v5,some (.ref pw),some (.ref c),v8]/\WSt ps n H H4 pl pr pw c as aw ws w/\m=n-ws.flatten.length,⟨_,c,aw,ws,w,v4,v5,none,rfl,S0,rfl⟩,?_⟩
 rintro m σ H4 ⟨c,aw,ws,w,v4,v5,v8,rfl,S,rfl⟩
 refine⟨_,rfl,c,_,rfl,.inl (SqL.of S.cur),_,_,rfl,rfl,_,rfl,?_⟩
 have hlw:(nats w).length=w.length:=by unfold nats;rw [List.length_map]
 by_cases he:w=[]
 ·subst he
  refine ifF (by rw [hlw];rfl) ?_
  exact⟨_,rfl,q aw ws H4 S.same S.wvs S.kahn.ok S.kahn.done⟩
 ·have hwl:0<w.length:=List.length_pos_iff.mpr he
  refine ifT (by rw [hlw];exact decide_eq_true (by omega)) ?_
  refine⟨fun σ' H'=>∃m',m'<n-ws.flatten.length/\_,fun _ _ z=>z,?_⟩
  obtain⟨p1,p2,p3,p4,p5⟩:=S.plr
  obtain⟨w1,w2,w3,w4⟩:=S.pwr
  have hkn:=S.kahn.nd
  have e:(ws++[w]).flatten=ws.flatten++w:=by simp
  have hlen:=nodup_len n _ hkn.1 hkn.2.1
  rw [e,List.length_append]at hlen
  have hwsl:ws.length<=n:=by
   have:∀l:List (List Nat),(∀x∈l,x≠[])->l.length<=l.flatten.length:=by
    intro l
    induction l with
    |nil=>intro _;simp
    |cons a l ih=>
     intro h
     have h1:=ih fun x hx=>h x (List.mem_cons_of_mem _ hx)
     have h2:=List.length_pos_iff.mpr (h a List.mem_cons_self)
     rw [List.flatten_cons,List.length_append,List.length_cons]
     omega
   have:=this ws S.kahn.ok.full
   omega
  have hawl:=S.wvs.len
  refine⟨_,rfl,.inl ⟨rfl,_,SqL.of S.wvs.top⟩,_,rfl,pw,_,_,rfl,rfl,S.wvs.top,small (by rw [List.length_map];omega),?_⟩
  have s5:Same H (upd H4 pw (.lst (aw.map V.ref++[.ref c]))):=sameUpd hpw0 S.same
  have k5:∀b o,b≠pw->H4 b=some o->(upd H4 pw (.lst (aw.map V.ref++[.ref c]))) b=some o:=fun b o hne e=>by rw [upd_ne hne];exact e
  refine⟨Nat.zero_le _,fun fr hfr=>?_⟩
  have s6:Same (upd H4 pw (.lst (aw.map V.ref++[.ref c]))) (upd (upd H4 pw (.lst (aw.map V.ref++[.ref c]))) fr (.lst [])):=sameNew hfr
  generalize hH6:upd (upd H4 pw (.lst (aw.map V.ref++[.ref c]))) fr (.lst [])=H6 at s6
  have hf6:H6 fr=some (.lst (nats [])):=by rw [<-hH6];exact upd_same
  have old6:∀b o,b≠pw->H4 b=some o->H6 b=some o:=fun b o hne e=>s6 _ _ (k5 b o hne e)
  have fne:∀b o,b≠pw->H4 b=some o->fr≠b:=fun b o hne e=>Ne.symm (ne_of_none (k5 b o hne e) hfr)
  have hfpw:fr≠pw:=Ne.symm (ne_of_none (H:=upd H4 pw (.lst (aw.map V.ref++[.ref c]))) upd_same hfr)
  have hfpl:fr≠pl:=fne pl _ p3 S.lack
  have hfc:fr≠c:=fne c _ (Ne.symm w3) S.cur
  have hfpr:fr≠pr:=fne pr _ (Ne.symm w1) S.rds.top
  have hfas:fr∉as:=fun z=>by
   obtain⟨j,hj,ej⟩:=List.getElem_of_mem z
   obtain⟨l,e1,e2⟩:=Paired.get S.rds.at_ (i:=j) (x:=fr) (by rw [List.getElem?_eq_getElem hj,ej])
   exact fne fr _ hfpw e2 rfl
  have hfaw:fr∉aw:=fun z=>by
   obtain⟨j,hj,ej⟩:=List.getElem_of_mem z
   obtain⟨l,e1,e2⟩:=Paired.get S.wvs.at_ (i:=j) (x:=fr) (by rw [List.getElem?_eq_getElem hj,ej])
   exact fne fr _ hfpw e2 rfl
  have ll6:NewLL H H6 pr as (nxG (·.2) (·.1) ps n):=S.rds.keep fun b o hbb eb=>old6 b o (by
   rcases hbb with rfl|z
   ·exact Ne.symm w1
   ·exact fun z'=>w2 (z'▸z)) eb
  refine r1 _ H6 v0 v1 pl pr pw c fr as n ps ws.flatten w (cntP ps ws.flatten) v4 v5 hb hn ll6 p1 p2 (old6 _ _ p3 S.lack) (old6 _ _ (Ne.symm w3) S.cur) (Ne.symm p5) hf6 hfpl hfc hfpr hfas (fun _=>rfl) (by rw [<-e];exact hkn.1) (fun v hv=>((S.kahn.wave v).mp hv).1) ?_
  intro F H7 u4 u5 kp7 hpl7 hf7 dc
  have hF:F.length<=n:=nodup_len n F dc.nd fun v hv=>((dc.mem v).mp hv).1
  refine⟨_,rfl,fr,F.map fun k:Nat=>(k:Int),rfl,SqL.of (by rw [hf7,nats_ints]),by rw [List.length_map];omega,fun ms hperm hsort c2 hc2=>?_⟩
  obtain⟨msN,ems⟩:∃msN:List Nat,ms=msN.map fun k:Nat=>(k:Int):=by
   refine⟨ms.map Int.toNat,?_⟩
   rw [List.map_map]
   have:∀x∈ms,((fun k:Nat=>(k:Int))∘Int.toNat) x=x:=fun x hx=>by
    have:=hperm.mem_iff.mp hx
    obtain⟨k,_,rfl⟩:=List.mem_map.mp this
    rfl
   rw [List.map_congr_left this,List.map_id']
  subst ems
  have hp2:msN.Perm F:=by
   have:=hperm.map Int.toNat
   rw [List.map_map,List.map_map]at this
   have e1:(Int.toNat∘fun k:Nat=>(k:Int))=id:=by funext k;rfl
   rw [e1,List.map_id,List.map_id]at this
   exact this
  have hs2:msN.Pairwise (·<=·):=by
   have:=List.pairwise_map.mp hsort
   exact this.imp fun h=>by omega
  have kn:=S.kahn.step hb he (by rw [e];exact dc) hp2 hs2
  have s8:Same H7 (upd H7 c2 (.lst ((msN.map fun k:Nat=>(k:Int)).map V.int))):=sameNew hc2
  have new7:∀b o,H7 b=some o->c2≠b:=fun b o eb=>Ne.symm (ne_of_none eb hc2)
  have old8:∀b o,b≠pl->b≠fr->b≠pw->H4 b=some o->H7 b=some o:=fun b o h1 h2 h3 eb=>kp7 b o (old6 b o h3 eb) h1 h2
  have hpw6:H6 pw=some (.lst (aw.map V.ref++[.ref c])):=by rw [<-hH6,upd_ne (Ne.symm hfpw)];exact upd_same
  have hpw7:=kp7 pw _ hpw6 (Ne.symm p3) (Ne.symm hfpw)
  have hc7:=old8 c _ (Ne.symm p5) (Ne.symm hfc) (Ne.symm w3) S.cur
  have s7:Same H H7:=fun b o eb=>kp7 b o (s6 _ _ (s5 _ _ eb)) (ne_of_none eb hpl0) (fun z=>by
   subst z
   have:=s5 _ _ eb
   rw [this]at hfr
   cases hfr)
  have asH4:∀b,b∈as->∃o,H4 b=some o:=fun b hbm=>by
   obtain⟨j,hj,ej⟩:=List.getElem_of_mem hbm
   obtain⟨l,e1,e2⟩:=Paired.get S.rds.at_ (i:=j) (x:=b) (by rw [List.getElem?_eq_getElem hj,ej])
   exact⟨_,e2⟩
  have awH4:∀b,b∈aw->∃o,H4 b=some o:=fun b hbm=>by
   obtain⟨j,hj,ej⟩:=List.getElem_of_mem hbm
   obtain⟨l,e1,e2⟩:=Paired.get S.wvs.at_ (i:=j) (x:=b) (by rw [List.getElem?_eq_getElem hj,ej])
   exact⟨_,e2⟩
  have rd8:NewLL H (upd H7 c2 (.lst ((msN.map fun k:Nat=>(k:Int)).map V.int))) pr as (nxG (·.2) (·.1) ps n):=S.rds.keep fun b o hbb eb=>s8 _ _ (old8 b o (by
    rcases hbb with rfl|z
    ·exact Ne.symm p1
    ·exact fun z'=>p2 (z'▸z)) (by
    rcases hbb with rfl|z
    ·exact Ne.symm hfpr
    ·exact fun z'=>hfas (z'▸z)) (by
    rcases hbb with rfl|z
    ·exact Ne.symm w1
    ·exact fun z'=>w2 (z'▸z)) eb)
  have wv8:NewLL H (upd H7 c2 (.lst ((msN.map fun k:Nat=>(k:Int)).map V.int))) pw (aw++[c]) (ws++[w]):=by
   refine⟨?_,List.nodup_append.mpr ⟨S.wvs.nd,by simp,fun x hx y hy=>?_⟩,fun b hbm=>?_,Paired.snoc' (listsAt_of hawl fun i b l h1 h2=>?_) (s8 _ _ hc7)⟩
   ·rw [List.map_append]
    exact s8 _ _ hpw7
   ·rw [List.mem_singleton]at hy;subst hy;rintro rfl;exact w4 hx
   ·rcases List.mem_append.mp hbm with z|z
    ·exact S.wvs.new b z
    ·rw [List.mem_singleton]at z;subst z;exact⟨S.newc,Ne.symm w3⟩
   ·obtain⟨b',e1,e2⟩:=listsAt_get S.wvs.at_ h2
    rw [h1]at e1
    cases e1
    have hbm:=List.mem_of_getElem? h1
    exact s8 _ _ (old8 b _ (fun z=>p4 (z▸hbm)) (fun z=>hfaw (z▸hbm)) (S.wvs.new b hbm).2 e2)
  refine⟨n-(ws++[w]).flatten.length,by rw [e,List.length_append];omega,c2,aw++[c],ws++[w],msN,_,_,_,rfl,?_,rfl⟩
  refine⟨s7.trans s8,?_,rd8,wv8,by rw [upd_same,nats_ints],s7.free hc2,⟨p1,p2,p3,?_,Ne.symm (new7 pl _ hpl7)⟩,⟨w1,w2,Ne.symm (new7 pw _ hpw7),?_⟩,kn⟩
  ·rw [e]
   exact s8 _ _ hpl7
  ·intro z
   rcases List.mem_append.mp z with z|z
   ·exact p4 z
   ·rw [List.mem_singleton]at z;exact p5 z
  ·intro z
   rcases List.mem_append.mp z with z|z
   ·obtain⟨o,eo⟩:=awH4 c2 z
    exact new7 c2 o (old8 c2 o (fun z'=>p4 (z'▸z)) (fun z'=>hfaw (z'▸z)) (S.wvs.new c2 z).2 eo) rfl
   ·rw [List.mem_singleton]at z
    exact new7 c _ hc7 z
theorem ok_ahead {f:Addr} {fd:FuncData} (F:Fun K "waves_ahead" "waves_ahead" sAhead f fd) (T:Txt K mg):FnOk P w K mg base CX0 1 f fd ["pairs","many"] spAhead:=by
 refine F.ok scA (fun vs H Q E h=>?_) (fun cdv A outer s H vs Q E hr h=>?_)
 ·obtain⟨p,xs,n,ps,rfl,_⟩:=h
  rfl
 ·obtain⟨p,xs,n,ps,rfl,hp,hps,hb,hn,hl,q⟩:=h
  obtain⟨cl1,S1⟩:=csA1 (P:=P) (w:=w) (K:=K) (mg:=mg) (base:=base) (f:=f) (cdv:=cdv) (A:=A) (outer:=outer) (s:=s) (H:=H) (E:=E)
  obtain⟨cl2,S2⟩:=csA2 (P:=P) (w:=w) (K:=K) (mg:=mg) (base:=base) (f:=f) (cdv:=cdv) (A:=A) (outer:=outer) (s:=s) (H:=H) (E:=E)
  obtain⟨t5,h5,r5⟩:=ahead_while (P:=P) (w:=w) (K:=K) (mg:=mg) (base:=base) (f:=f) (cdv:=cdv) (A:=A) (outer:=outer) (s:=s) (H:=H) (E:=E) T
  refine⟨_,pss_cons (ps_set (i:=2) scA.nd rfl (Or.inr rfl) (pe_op op_rep (pe_lst (pa_cons pe_int pa_nil)) (pv 1)))
   (pss_cons (ps_setComp (i:=3) scA.nd rfl (Or.inl rfl) (own:=["number"]) (g:=gName 0) S1 rfl (pi_range1 rfl T.range (pa_cons (pv 1) pa_nil)) (fun C s2 H2 fp=>pg_name (i:=0) ndA1 rfl (Or.inl rfl) (Or.inr rfl)) (fun C s2 H2 fp=>pe_lst pa_nil))
   (pss_cons (ps_for (g:=gPair K 4 5) PassesOwn.never rfl (pi_list (pv 0)) (pg_tup rfl (pgs_cons (pg_name (i:=4) scA.nd rfl (Or.inl rfl)) (pgs_cons (pg_name (i:=5) scA.nd rfl (Or.inl rfl)) pgs_nil)))
    (pss_cons (ps_asg (pe_op op_add (pe_ix ix_list (pv 2) (pv 4) (fun _ _=>rfl)) pe_int) (pg_sub (pv 2) (pv 4) set_list))
    (pss_one (ps_expr (pe_bm PySem.F.plainAttrs_list PySem.F.slot_list_append PySem.F.type_list_append mt_append (pe_ix ix_list (pv 3) (pv 5) (fun _ _=>rfl)) (pa_cons (pv 4) pa_nil))))))
   (pss_cons (ps_set (i:=6) scA.nd rfl (Or.inl rfl) (pe_lst pa_nil))
   (pss_cons (ps_setCompF (i:=7) scA.nd rfl (Or.inl rfl) (own:=["number"]) (g:=gName 0) S2 rfl (pi_range1 rfl T.range (pa_cons (pv 1) pa_nil)) (fun C s2 H2 fp=>pg_name (i:=0) ndA2 rfl (Or.inl rfl) (Or.inr rfl))
    (fun C s2 H2 fp=>pt_cmpR op_eq (pe_ix (r:=rIxL K) ix_list (pv 1) (pv 0) (fun _ _=>rfl)) pe_int (nomark _)) (fun C s2 H2 fp=>pv 0))
   h5)))),?_⟩
  refine⟨(by show 1<=sizeLine;decide),fun l0 hl0=>?_⟩
  have s0:Same H (upd H l0 (.lst [.int 0])):=sameNew hl0
  refine⟨_,rfl,l0,(n:Int),_,rfl,rfl,upd_same,by omega,by omega,?_,fun pl hpl=>?_⟩
  ·show 1*(n:Int).toNat<=sizeLine
   have:=small (n:=100) (by decide)
   omega
  have hpl0:H pl=none:=s0.free hpl
  have s1:Same H (upd (upd H l0 (.lst [.int 0])) pl (.lst (List.replicate (n:Int).toNat [V.int 0]).flatten)):=s0.trans (sameNew hpl)
  have hl1:(upd (upd H l0 (.lst [.int 0])) pl (.lst (List.replicate (n:Int).toNat [V.int 0]).flatten)) pl=some (.lst (cnts n fun v=>(ps.take 0).countP fun q=>decide (q.1=v))):=by
   rw [upd_same]
   exact congrArg (fun z=>some (HO.lst z)) (cnts_zero n)
  generalize upd (upd H l0 (.lst [.int 0])) pl (.lst (List.replicate (n:Int).toNat [V.int 0]).flatten)=H1 at s1 hl1
  refine⟨_,rfl,(n:Int),rfl,by omega,by omega,fun pr hpr=>?_⟩
  refine comp_news (n:=n) (by omega) ⟨none,rfl⟩ hpr fun as H2 s2 ll=>?_
  have hplr:pl≠pr:=ne_of_none hl1 hpr
  have hpla:pl∉as:=fun z=>by
   have:=(ll.new pl z).1
   rw [hl1]at this
   cases this
  have ll0:NewLL H H2 pr as (nxG (·.2) (·.1) (ps.take 0) n):=by
   rw [List.take_zero,nxG_nil]
   exact⟨ll.top,ll.nd,fun b hb=>⟨s1.free (ll.new b hb).1,(ll.new b hb).2⟩,ll.at_⟩
  have hp2:=(s1.trans s2) _ _ hp
  refine⟨_,rfl,p,rfl,⟨_,SqL.of hp2⟩,?_⟩
  refine for_list (K:=K) (a:=p) (xs:=xs) (fun i σ H3=>∃(v4 v5:Option V),σ=[some (.ref p),some (natV n),some (.ref pl),some (.ref pr),v4,v5,none,none,none]/\Same H H3/\H3 pl=some (.lst (cnts n fun v=>(ps.take i).countP fun q=>decide (q.1=v)))/\NewLL H H3 pr as (nxG (·.2) (·.1) (ps.take i) n))
   ⟨none,none,rfl,s1.trans s2,s2 _ _ hl1,ll0⟩ (fun i σ H3 _ ⟨_,_,_,s3,_⟩=>SqL.of (s3 _ _ hp)) ?_ ?_
  ·rintro i x σ H3 hi ⟨v4,v5,rfl,s3,hl3,ll3⟩
   obtain⟨pq,hpq,t,rfl,ht⟩:=Paired.get hps hi
   have hpm:=hb pq (List.mem_of_getElem? hpq)
   refine⟨t,_,rfl,SqT.of (s3 _ _ ht),rfl,_,_,rfl,_,_,rfl,rfl,?_⟩
   refine⟨_,rfl,_,rfl,pl,_,_,_,rfl,rfl,SqL.of hl3,atI_nat (cnts_get hpm.1),_,_,rfl,rfl,?_⟩
   refine⟨_,rfl,_,rfl,pl,_,_,pq.1,rfl,rfl,hl3,by rw [cnts_len];exact ix_nat hpm.1,?_⟩
   generalize hH4:upd H3 pl (.lst ((cnts n fun v=>(ps.take i).countP fun q=>decide (q.1=v)).set pq.1 (V.int (((ps.take i).countP fun q=>decide (q.1=pq.1):Nat)+1))))=H4
   have hl4:H4 pl=some (.lst (cnts n fun v=>(ps.take (i+1)).countP fun q=>decide (q.1=v))):=by
    rw [<-hH4,upd_same]
    have e1:V.int ((((ps.take i).countP fun q=>decide (q.1=pq.1):Nat):Int)+1)=natV ((ps.take i).countP (fun q=>decide (q.1=pq.1))+1):=rfl
    rw [e1,cnts_set hpm.1]
    refine congrArg (fun z=>some (HO.lst z)) (cnts_congr fun v _=>?_)
    rw [List.take_succ,hpq]
    exact(cnt_snoc (ps.take i) pq v).symm
   have s4:Same H H4:=by rw [<-hH4];exact sameUpd hpl0 s3
   have ll4:NewLL H H4 pr as (nxG (·.2) (·.1) (ps.take i) n):=ll3.keep fun b o hbb eb=>by
    rw [<-hH4,upd_ne]
    ·exact eb
    ·rcases hbb with rfl|z
     ·exact Ne.symm hplr
     ·exact fun z'=>hpla (z'▸z)
   have hx:=nxG_get (key:=(·.2)) (val:=(·.1)) (ps:=ps.take i) hpm.2
   obtain⟨b,e1,e2⟩:=listsAt_get ll4.at_ hx
   have hbm:=List.mem_of_getElem? e1
   have hbl:(nats (((ps.take i).filter fun p=>decide (p.2=pq.2)).map (·.1))).length<sizeLine:=by
    refine small ?_
    unfold nats
    rw [List.length_map,List.length_map]
    have:=List.length_filter_le (fun p:Pr=>decide (p.2=pq.2)) (ps.take i)
    rw [List.length_take]at this
    omega
   refine⟨_,rfl,_,rfl,pr,_,_,_,rfl,rfl,SqL.of ll4.top,atI_nat (show(as.map V.ref)[pq.2]? =some (.ref b) by rw [List.getElem?_map,e1];rfl),.inl ⟨rfl,_,SqL.of e2⟩,?_⟩
   refine⟨_,rfl,b,_,_,rfl,rfl,e2,hbl,?_⟩
   refine⟨_,_,rfl,sameUpd (ll4.new b hbm).1 s4,?_,?_⟩
   ·have hne:pl≠b:=fun z=>hpla (by rw [z];exact hbm)
    rw [upd_ne hne]
    exact hl4
   ·rw [List.take_succ,hpq]
    have:=ll4.app hx e1 pq.1
    rw [nxG_snoc (key:=(·.2)) (val:=(·.1)) hpm.2]at this
    exact this
  ·rintro σ H3 ⟨v4,v5,rfl,s3,hl3,ll3⟩
   rw [Paired.length hps,List.take_length]at hl3 ll3
   refine⟨Nat.zero_le _,fun pw hpw=>?_⟩
   have s4:Same H3 (upd H3 pw (.lst [])):=sameNew hpw
   have hpw0:H pw=none:=s3.free hpw
   have hpw4:(upd H3 pw (.lst [])) pw=some (.lst []):=upd_same
   generalize upd H3 pw (.lst [])=H4 at s4 hpw4
   have hlw:pl≠pw:=ne_of_none hl3 hpw
   have hrw:pw≠pr:=Ne.symm (ne_of_none ll3.top hpw)
   have hwas:pw∉as:=fun z=>by
    obtain⟨j,hj,ej⟩:=List.getElem_of_mem z
    obtain⟨l,e1,e2⟩:=Paired.get ll3.at_ (i:=j) (x:=pw) (by rw [List.getElem?_eq_getElem hj,ej])
    rw [e2]at hpw
    cases hpw
   have hl4:=s4 _ _ hl3
   refine⟨_,rfl,(n:Int),rfl,by omega,by omega,fun c hc=>?_⟩
   refine compF_range (lo:=0) (n:=n) (fun i acc σc H5=>(∃v0,σc=[v0,some (.ref pl)])/\Same H4 H5/\H5 c=some (.lst acc)/\acc=nats ((List.range i).filter fun v=>decide (cntP ps [] v=0)))
    ⟨⟨none,rfl⟩,sameNew hc,upd_same,rfl⟩ ?_ ?_
   ·rintro i acc σc H5 hi ⟨⟨v0,rfl⟩,s5,hc5,rfl⟩
    have e0:V.int (0+(i:Int))=natV i:=by show V.int _=V.int _;congr 1;omega
    rw [e0]
    have hl5:=s5 _ _ hl4
    refine⟨_,rfl,_,rfl,pl,_,_,_,rfl,rfl,SqL.of hl5,atI_nat (cnts_get hi),rfl,_,rfl,?_⟩
    have ec:=cntP_nil ps i
    have er:(List.range (i+1)).filter (fun v=>decide (cntP ps [] v=0))=(List.range i).filter (fun v=>decide (cntP ps [] v=0))++(if cntP ps [] i=0 then [i]else []):=by
     rw [List.range_succ,List.filter_append,List.filter_cons]
     by_cases h:cntP ps [] i=0
     ·simp [h]
     ·simp [h]
    by_cases hz:cntP ps [] i=0
    ·refine ifT (by rw [<-ec,hz];rfl) ⟨_,rfl,?_⟩
     rw [if_pos hz]at er
     have hlen:=List.length_filter_le (fun v=>decide (cntP ps [] v=0)) (List.range i)
     rw [List.length_range]at hlen
     refine cturn hc5 (small (by unfold nats;rw [List.length_map];omega)) hi ⟨⟨_,rfl⟩,sameUpd hc s5,upd_same,?_⟩
     rw [er]
     unfold nats
     rw [List.map_append]
     rfl
    ·rw [if_neg hz,List.append_nil]at er
     refine ifF (decide_eq_false fun z=>hz ?_) (cstep hi (acc:=nats ((List.range i).filter fun v=>decide (cntP ps [] v=0))) ⟨⟨_,rfl⟩,s5,hc5,by rw [er]⟩)
     have:=V.int.inj z
     rw [ec]
     omega
   ·rintro acc σc H5 ⟨_,s5,hc5,rfl⟩
    refine r5 _ Q H5 _ _ pl pr pw c as [] n ps [] ((List.range n).filter fun v=>decide (cntP ps [] v=0)) _ _ hb hn hpl0 hpw0 ?_ (fun as ws H' sm ll ok st=>q pw as ws H' sm hpw0 ll ok st)
    have s345:=s3.trans (s4.trans s5)
    refine⟨s345,?_,ll3.keep fun b o _ eb=>s5 _ _ (s4 _ _ eb),⟨s5 _ _ hpw4,List.nodup_nil,fun b hb=>(by cases hb),.nil⟩,hc5,(s3.trans s4).free hc,⟨hplr,hpla,hlw,fun z=>(by cases z),ne_of_none hl4 hc⟩,⟨hrw,hwas,ne_of_none hpw4 hc,fun z=>(by cases z)⟩,Kahn.start rfl⟩
    rw [s5 _ _ hl4]
    refine congrArg (fun z=>some (HO.lst z)) (cnts_congr fun v _=>?_)
    exact(cntP_nil ps v).symm
def rLen (K:W.Frag):List V->Hp->VK->Prop:=fun xs H Q=>∃p ys,xs=[.ref p]/\SqL K H p ys/\Q (.int ys.length) H
theorem call_lenK {X:Cx} {K:W.Frag} (h:X.K=K):CallR X (.builtin "len") (rLen K):=by
 subst h
 intro pins s σ H xs us Q I r hq
 obtain⟨p,ys,rfl,h1,q⟩:=hq
 exact call_len_seq pins s σ H _ us Q I r ⟨p,ys,rfl,.inl h1,q⟩
def spOf:Sp:=fun vs H Q _=>∃(p:Addr) (xs:List V) (n:Nat) (ps:List Pr),vs=[.ref p,natV n]/\H p=some (.lst xs)/\PrsAt H xs ps/\Below n ps/\n<=60/\ps.length<=1000/\
 (∀H':Hp,Same H H'->(∃v,Reach ps v v)->Q .non H')/\∀(q:Addr) (as:List Addr) (ws:List (List Nat)) (H':Hp),Same H H'->H q=none->NewLL H H' q as ws->WavesOk ps n ws->(∀v,v<n->v∈ws.flatten)->Q (.ref q) H'
abbrev scO1:Scope:={kind:= .function,names:=[(PySem.Str.ofString ".0",.local),(PySem.Str.ofString "wave",.local),(PySem.Str.ofString "len",.globalImplicit)],isGenerator:=false,isCoroutine:=false,more:=[]}
theorem ndO1:(["wave"]:List Str).Nodup:=by decide+kernel
abbrev NO:List Str:=["pairs","many","waves"]
theorem scO:FnScope NO ["pairs","many"] (defScope sOf):=⟨rfl,rfl,rfl,by decide+kernel,rfl,by decide+kernel,by decide+kernel⟩
theorem sum_lens:∀ws:List (List Nat),(ws.map fun w=>(w.length:Int)).sum=(ws.flatten.length:Int)
 | []=>rfl
 |w::ws=>by
  rw [List.map_cons,List.sum_cons,sum_lens ws,List.flatten_cons,List.length_append]
  omega
abbrev XO (P:Program) (w:World) (K:W.Frag) (mg:Str->Option Value) (base:Heap) (f:Addr) (cdv:Value) (A:Around) (outer:List Env) (s:Shared) (H:Hp) (E:XK):Cx:=(cxOf CX0 P w K mg base NO "waves_of" (defScope sOf) f cdv A outer s H E).nox
theorem csO1 {f:Addr} {cdv:Value} {A:Around} {outer:List Env} {s:Shared} {H:Hp} {E:XK}:∃cl,CompScope (XO P w K mg base f cdv A outer s H E) scO1 [] cl:=
 comp_scope (fun x h=>cell_has h) rfl (by decide+kernel) (by decide+kernel) (show∀y∈scO1.names,y.2= .free->(defScope sOf).names.lookup y.1=some .cell by decide+kernel) (fun p hp=>by cases hp)
theorem ok_of {f f1:Addr} {fd fd1:FuncData} (F:Fun K "waves_of" "waves_of" sOf f fd) (F1:Fun K "waves_ahead" "waves_ahead" sAhead f1 fd1) (m1:mg "waves_ahead"=some (.ref f1)) (b1:Binds K fd1 ["pairs","many"] []) (T:Txt K mg):
  FnOk P w K mg base CX0 2 f fd ["pairs","many"] spOf:=by
 have G1:FnOk P w K mg base CX0 1 f1 fd1 ["pairs","many"] spAhead:=ok_ahead F1 T
 refine F.ok scO (fun vs H Q E h=>?_) (fun cdv A outer s H vs Q E hr h=>?_)
 ·obtain⟨p,xs,n,ps,rfl,_⟩:=h
  rfl
 ·obtain⟨p,xs,n,ps,rfl,hp,hps,hb,hn,hl,qN,qR⟩:=h
  obtain⟨cl,S⟩:=csO1 (P:=P) (w:=w) (K:=K) (mg:=mg) (base:=base) (f:=f) (cdv:=cdv) (A:=A) (outer:=outer) (s:=s) (H:=H) (E:=E)
  refine⟨_,pss_cons (ps_set (i:=2) scO.nd rfl (Or.inl rfl) (pe_call G1 hr rfl m1 F1.kp b1 .nil pass0 (pa_cons (pv 0) (pa_cons (pv 1) pa_nil))))
   (pss_cons (ps_if (pt_cmpR op_lt (pe_callB (call_sum rfl) rfl T.sum boot_sum (pa_cons (pe_comp (own:=["wave"]) (g:=gName 0) S rfl (pi_list (pv 2)) (fun C s2 H2 fp=>pg_name (i:=0) ndO1 rfl (Or.inl rfl) (Or.inr rfl))
     (fun C s2 H2 fp=>pe_callB (r:=rLen K) (call_lenK rfl) (by rfl) T.len PySem.boot_len (pa_cons (pv 0) pa_nil))) pa_nil)) (pv 1) (nomark _)) (pss_one (ps_ret pe_non)) pss_nil)
   (pss_one (ps_ret (pv 2)))),?_⟩
  refine⟨_,rfl,_,rfl,p,xs,n,ps,rfl,hp,hps,hb,hn,hl,fun q as ws H2 s2 hq ll ok st=>?_⟩
  have hflat:=nodup_len n _ ok.nodup ok.below
  have hwsl:ws.length<=n:=by
   have:∀l:List (List Nat),(∀x∈l,x≠[])->l.length<=l.flatten.length:=by
    intro l
    induction l with
    |nil=>intro _;simp
    |cons a l ih=>
     intro h
     have h1:=ih fun x hx=>h x (List.mem_cons_of_mem _ hx)
     have h2:=List.length_pos_iff.mpr (h a List.mem_cons_self)
     rw [List.flatten_cons,List.length_append,List.length_cons]
     omega
   have:=this ws ok.full
   omega
  refine⟨_,rfl,q,rfl,⟨_,SqL.of ll.top⟩,fun D hD=>?_⟩
  refine comp_list (K:=K) (a:=q) (D:=D) (xs:=as.map V.ref) (ni:=0) (fun i acc σc H3=>(∃v0,σc=[v0])/\Same H2 H3/\H3 D=some (.lst acc)/\acc=((ws.take i).map fun w=>(w.length:Int)).map V.int)
   ⟨⟨none,rfl⟩,sameNew hD,upd_same,rfl⟩ (fun i acc σc H3 _ ⟨_,s3,_⟩=>SqL.of (s3 _ _ ll.top)) ?_ ?_
  ·rintro i x acc σc H3 hi hx ⟨⟨v0,rfl⟩,s3,hD3,rfl⟩
   rw [List.getElem?_map]at hx
   obtain⟨b,hb1,rfl⟩:=Option.map_eq_some_iff.mp hx
   obtain⟨wv,e1,e2⟩:=Paired.get ll.at_ hb1
   refine⟨_,rfl,b,_,rfl,SqL.of (s3 _ _ e2),?_⟩
   refine cturn hD3 (small (by rw [List.length_map,List.length_map,List.length_take];omega)) hi ⟨⟨_,rfl⟩,sameUpd hD s3,upd_same,?_⟩
   rw [List.take_succ,e1,List.map_append,List.map_append]
   unfold nats
   rw [List.length_map]
   rfl
  ·rintro acc σc H3 ⟨_,s3,hD3,rfl⟩
   rw [List.length_map,ll.len,List.take_length]at hD3
   refine⟨D,ws.map fun w=>(w.length:Int),rfl,SqL.of hD3,by rw [List.length_map];omega,fun m hm=>?_,?_⟩
   ·obtain⟨wv,hwv,rfl⟩:=List.mem_map.mp hm
    have:wv.length<=n:=nodup_len n wv ((ok.rise wv hwv).imp fun h=>Nat.ne_of_lt h) fun v hv=>ok.below v (List.mem_flatten.mpr ⟨wv,hwv,hv⟩)
    omega
   rw [sum_lens]
   refine⟨_,rfl,_,_,rfl,rfl,_,rfl,?_⟩
   have s03:=s2.trans s3
   by_cases hlt:ws.flatten.length<n
   ·refine ifT (decide_eq_true (by omega)) ?_
    obtain⟨v,hv,hnv⟩:=missing hlt
    obtain⟨rs,R⟩:=st.ring hb hv hnv
    exact qN H3 s03 R.reach
   ·refine ifF (decide_eq_false (by omega)) ?_
    exact⟨_,rfl,qR q as ws H3 s03 hq (ll.keep fun b o _ e=>s3 _ _ e) ok (cover ok.nodup ok.below (by omega))⟩
def Kn (H:Hp):V->Prop
 | .non=>True
 | .bl _=>True
 | .int _=>True
 | .str _=>True
 | .ref a=>(∃xs,H a=some (.lst xs))∨(∃xs,H a=some (.tup xs))∨∃kvs,H a=some (.dK kvs)
 |_=>False
def tI:V->Bool
 | .int _=>true
 | .bl _=>true
 |_=>false
def tBo:V->Bool
 | .bl _=>true
 |_=>false
def tLi (H:Hp):V->Bool
 | .ref a=>(match H a with|some (.lst _)=>true|_=>false)
 |_=>false
def isInt:V->Bool
 | .int _=>true
 |_=>false
def inB (x:V) (lo hi:Int):Bool:=match x with
 | .int n=>decide (lo<=n/\n<=hi)
 |_=>false
def spWholeG:Sp:=fun vs H Q _=>∃x:V,vs=[x]/\Kn H x/\Q (.bl (isInt x)) H
def spWithinG:Sp:=fun vs H Q _=>∃(x:V) (lo hi:Int),vs=[x,.int lo,.int hi]/\Kn H x/\Q (.bl (inB x lo hi)) H
theorem iteTe {c:Bool} {A B:Prop} (hc:c=true) (h:A):if c=true then A else B:=by
 rw [if_pos hc]
 exact h
theorem iteFe {c:Bool} {A B:Prop} (hc:c=false) (h:B):if c=true then A else B:=by
 rw [if_neg (by rw [hc];exact Bool.false_ne_true)]
 exact h
theorem scWhole:FnScope ["thing"] ["thing"] (defScope sWhole):=⟨rfl,rfl,rfl,by decide+kernel,rfl,by decide+kernel,by decide+kernel⟩
theorem scWithin:FnScope ["thing","least","most"] ["thing","least","most"] (defScope sWithin):=⟨rfl,rfl,rfl,by decide+kernel,rfl,by decide+kernel,by decide+kernel⟩
theorem tyInt {H:Hp} {x:V} (h:Kn H x):∃t,TyOf K H x t/\W.kitOne K t (.type "int")=some (tI x)/\W.kitOne K t (.type "bool")=some (tBo x)/\
  W.kitOne K t (.type "list")=some (tLi H x):=by
 cases x with
 |non=>exact⟨_,.non,rfl,rfl,rfl⟩
 |bl b=>exact⟨_,.bl b,rfl,rfl,rfl⟩
 |int n=>exact⟨_,.int n,rfl,rfl,rfl⟩
 |str z=>exact⟨_,.str z,rfl,rfl,rfl⟩
 |ref a=>
  rcases h with ⟨xs,e⟩|⟨xs,e⟩|⟨xs,e⟩
  ·exact⟨_,.lst e,rfl,rfl,by unfold tLi;simp only [e];rfl⟩
  ·exact⟨_,.tup e,rfl,rfl,by unfold tLi;simp only [e];rfl⟩
  ·exact⟨_,.dK e,rfl,rfl,by unfold tLi;simp only [e];rfl⟩
 |byt _=>exact h.elim
 |flt _=>exact h.elim
 |ty _=>exact h.elim
theorem ok_wholeG {f:Addr} {fd:FuncData} (F:Fun K "is_whole" "is_whole" sWhole f fd) (T:Txt K mg):FnOk P w K mg base CX0 1 f fd ["thing"] spWholeG:=by
 refine F.ok scWhole (fun vs H Q E h=>?_) (fun cdv A outer s H vs Q E hr h=>?_)
 ·obtain⟨x,rfl,_⟩:=h
  rfl
 ·obtain⟨x,rfl,kn,k⟩:=h
  obtain⟨t,ty,k1,k2,_⟩:=tyInt (K:=K) kn
  refine⟨_,pss_one (ps_ret (pe_and (pe_callB call_isinst rfl T.isinstance boot_isinstance (pa_cons (pv 0) (pa_cons (pe_ty rfl T.int boot_int) pa_nil)))
   (pe_one (pe_not (pe_callB call_isinst rfl T.isinstance boot_isinstance (pa_cons (pv 0) (pa_cons (pe_ty rfl T.bool boot_bool) pa_nil))))))),?_⟩
  refine⟨_,rfl,_,_,_,_,rfl,ty,k1,_,rfl,?_⟩
  cases x with
  |int n=>exact iteT ⟨_,rfl,_,_,_,_,rfl,ty,k2,_,rfl,k⟩
  |bl b=>exact iteT ⟨_,rfl,_,_,_,_,rfl,ty,k2,_,rfl,k⟩
  |non=>exact iteF k
  |str z=>exact iteF k
  |ref a=>exact iteF k
  |byt _=>exact kn.elim
  |flt _=>exact kn.elim
  |ty _=>exact kn.elim
theorem ok_withinG {f f1:Addr} {fd fd1:FuncData} (F:Fun K "is_within" "is_within" sWithin f fd) (F1:Fun K "is_whole" "is_whole" sWhole f1 fd1) (m1:mg "is_whole"=some (.ref f1)) (b1:Binds K fd1 ["thing"] []) (T:Txt K mg):
  FnOk P w K mg base CX0 2 f fd ["thing","least","most"] spWithinG:=by
 have G1:FnOk P w K mg base CX0 1 f1 fd1 ["thing"] spWholeG:=ok_wholeG F1 T
 refine F.ok scWithin (fun vs H Q E h=>?_) (fun cdv A outer s H vs Q E hr h=>?_)
 ·obtain⟨x,lo,hi,rfl,_⟩:=h
  rfl
 ·obtain⟨x,lo,hi,rfl,kn,k⟩:=h
  refine⟨_,pss_one (ps_ret (pe_and (pe_call G1 hr rfl m1 F1.kp b1 .nil pass0 (pa_cons (pv 0) pa_nil)) (pe_one (pe_chain op_le op_le (pv 1) (pv 0) (pv 2))))),?_⟩
  refine⟨_,rfl,x,rfl,kn,_,rfl,?_⟩
  cases x with
  |int n=>
   refine iteT ⟨_,rfl,_,rfl,_,_,rfl,rfl,_,rfl,?_⟩
   by_cases h1:lo<=n
   ·rw [decide_eq_true h1]
    refine iteT ⟨_,rfl,_,_,rfl,rfl,?_⟩
    have e:decide (n<=hi)=decide (lo<=n/\n<=hi):=by simp [h1]
    show Q (.bl (decide (n<=hi))) H
    rw [e]
    exact k
   ·rw [decide_eq_false h1]
    refine iteF ?_
    have e:false=decide (lo<=n/\n<=hi):=by simp [h1]
    show Q (.bl false) H
    rw [e]
    exact k
  |bl b=>exact iteF k
  |non=>exact iteF k
  |str z=>exact iteF k
  |ref a=>exact iteF k
  |byt _=>exact kn.elim
  |flt _=>exact kn.elim
  |ty _=>exact kn.elim
def Nest (n:Nat) (ps:List Pr) (S:Nat->Prop):Prop:=(∀v,S v->v<n)/\∀v,S v->∃q,(v,q)∈ps/\S q
def spRound:Sp:=fun vs H Q _=>∃(n:Nat) (p:Addr) (xs:List V) (ps:List Pr),vs=[natV n,.ref p]/\n<=100/\H p=some (.lst xs)/\PrsAt H xs ps/\ps.length<=1000/\Below n ps/\
 (∀H',Same H H'->(∃S,(∃v,S v)/\Nest n ps S)->Q (.bl true) H')/\∀H',Same H H'->(∀S,Nest n ps S->∀v,¬S v)->Q (.bl false) H'
theorem inV_nats (x:Nat) (l:List Nat):inV (natV x) (nats l)=decide (x∈l):=by
 induction l with
 |nil=>rfl
 |cons a l ih=>
  show(eqV _ _ || inV (natV x) (nats l))=_
  rw [ih]
  have e:eqV (natV x) (natV a)=decide (x=a)/\eqV (natV a) (natV x)=decide (x=a):=by
   constructor
   ·show decide ((x:Int)=(a:Int))=decide (x=a)
    by_cases h:x=a
    ·subst h;simp
    ·rw [decide_eq_false h];exact decide_eq_false (by omega)
   ·show decide ((a:Int)=(x:Int))=decide (x=a)
    by_cases h:x=a
    ·subst h;simp
    ·rw [decide_eq_false h];exact decide_eq_false (by omega)
  first|rw [e.1]|rw [e.2]
  by_cases h:x=a
  ·subst h;simp
  ·simp [h]
abbrev Fre (ps:List Pr) (L:List Nat) (p:Nat):Prop:=∀z∈ps,z.1=p->z.2∉L
abbrev fre (ps:List Pr) (L:List Nat):List Nat:=L.filter fun p=>decide (Fre ps L p)
abbrev lef (ps:List Pr) (L:List Nat):List Nat:=L.filter fun p=>decide (p∉fre ps L)
theorem flat_nats (l:List Nat):(nats l).all flatV=true:=by
 induction l with
 |nil=>rfl
 |cons a l ih=>show(true && _)=true;exact ih
theorem nest_lef {n:Nat} {ps:List Pr} {S:Nat->Prop} (hS:Nest n ps S) {L:List Nat} (h:∀v,S v->v∈L):∀v,S v->v∈lef ps L:=fun v sv=>by
 refine List.mem_filter.mpr ⟨h v sv,decide_eq_true fun m=>?_⟩
 obtain⟨q,h1,h2⟩:=hS.2 v sv
 exact of_decide_eq_true (List.mem_filter.mp m).2 (v,q) h1 rfl (h q h2)
theorem lef_less {ps:List Pr} {L:List Nat} (h:fre ps L≠[]):(lef ps L).length<L.length:=by
 obtain⟨x,hx⟩:=List.exists_mem_of_ne_nil _ h
 have hl:=(List.mem_filter.mp hx).1
 refine Nat.lt_of_le_of_ne (List.length_filter_le _ _) fun e=>?_
 have:=List.length_filter_eq_length_iff.mp e x hl
 exact of_decide_eq_true this hx
theorem lef_nest {n:Nat} {ps:List Pr} {L:List Nat} (low:∀v∈L,v<n) (h:fre ps L=[]):Nest n ps fun v=>v∈L:=by
 refine⟨low,fun v hv=>?_⟩
 have:v∉fre ps L:=by rw [h];exact List.not_mem_nil
 rw [List.mem_filter,not_and]at this
 have h2:=this hv
 rw [decide_eq_true_iff]at h2
 exact Classical.byContradiction fun no=>h2 fun z hz e m=>no ⟨z.2,by rw [<-e];exact hz,m⟩
theorem lef_same {ps:List Pr} {L:List Nat} (h:fre ps L=[]):lef ps L=L:=by
 unfold lef
 rw [List.filter_eq_self]
 intro a _
 rw [h]
 exact decide_eq_true List.not_mem_nil
theorem round_in {K:W.Frag} {p l D:Addr} {xs:List V} {ps:List Pr} {L:List Nat} {x:Nat} {v0 v1:Option V} {Q:VK} {H:Hp} (hl:ps.length<=1000) (hp:H p=some (.lst xs)) (pp:PrsAt H xs ps) (hL:H l=some (.lst (nats L))) (hD:H D=none)
  (k:∀ones H3,Same H H3->H3 D=some (.lst (nats ones))->(ones=[]↔Fre ps L x)->Q (.ref D) H3):
  CompWF (Itl K p) D (gPair K 0 1) (tAnd (tTest (tOp rEq (tVar 0) (tVar 2))) (tTest (tOp (rIn K false) (tVar 1) (tVar 3)))) (tC (V.int 1)) Q [v0,v1,some (natV x),some (.ref l)] (upd H D (.lst [])):=by
 have hlx:=Paired.length pp
 refine compF_listG (K:=K) (a:=p) (xs:=xs) (fun i acc σ H3=>∃(v0 v1:Option V) (o:List Nat),σ=[v0,v1,some (natV x),some (.ref l)]/\Same H H3/\H3 D=some (.lst acc)/\acc=nats o/\o.length<=i/\(o=[]↔ ∀z∈ps.take i,z.1=x->z.2∉L)) ⟨_,_,[],rfl,sameNew hD,upd_same,rfl,Nat.le_refl _,by simp⟩ (fun i acc σ H3 _ ⟨_,_,_,_,s3,_⟩=>SqL.of (s3 _ _ hp)) ?_ ?_
 ·rintro i y acc σ H3 hi hx ⟨v0,v1,o,rfl,s3,hD3,rfl,hll,hiff⟩
  obtain⟨pq,hpq,t,rfl,ht⟩:=Paired.get pp hx
  have tk:ps.take (i+1)=ps.take i++[pq]:=by rw [List.take_succ,hpq];rfl
  have addN:¬(pq.1=x/\pq.2∈L)->(o=[]↔ ∀z∈ps.take (i+1),z.1=x->z.2∉L):=fun h=>by
   rw [hiff,tk]
   constructor
   ·intro a z hz e
    rcases List.mem_append.mp hz with m|m
    ·exact a z m e
    ·rw [List.mem_singleton.mp m]at e⊢;exact fun m=>h ⟨e,m⟩
   ·exact fun a z hz e=>a z (List.mem_append_left _ hz) e
  refine⟨t,_,rfl,SqT.of (s3 _ _ ht),rfl,_,_,rfl,_,_,rfl,rfl,?_⟩
  refine⟨_,rfl,_,rfl,rfl,_,rfl,?_⟩
  by_cases e1:pq.1=x
  ·refine iteTe (decide_eq_true (by rw [e1])) ?_
   refine⟨_,rfl,_,rfl,l,_,rfl,.inl (SqL.of (s3 _ _ hL)),rfl,flat_nats L,_,rfl,?_⟩
   rw [inV_nats]
   by_cases e2:pq.2∈L
   ·refine iteTe (by simp [e2]) ?_
    unfold tC
    refine cturn hD3 (small (by unfold nats;rw [List.length_map];omega)) hi ⟨_,_,o++[1],rfl,sameUpd hD s3,upd_same,by unfold nats;rw [List.map_append];rfl,by rw [List.length_append];show _+1<=_;omega,?_⟩
    rw [tk]
    constructor
    ·intro z;exact absurd z (by simp)
    ·intro a;exact absurd e2 (a pq (by simp) e1)
   ·exact iteFe (by simp [e2]) (cstep hi ⟨_,_,o,rfl,s3,hD3,rfl,by omega,addN fun h=>e2 h.2⟩)
  ·refine iteFe (decide_eq_false (fun z=>e1 (by have:=V.int.inj z;omega))) (iteF ?_)
   exact cstep hi ⟨_,_,o,rfl,s3,hD3,rfl,by omega,addN fun h=>e1 h.1⟩
 ·rintro acc σ H3 ⟨v0,v1,o,rfl,s3,hD3,rfl,hll,hiff⟩
  rw [hlx,List.take_length]at hiff
  exact k o H3 s3 hD3 hiff
abbrev NRound:List Str:=["_law_many","_law_pairs","_law_left","_law_moved","_law_free"]
theorem scRound:FnScope ["_law_many","_law_pairs","_law_left","_law_moved","_law_free"] ["_law_many","_law_pairs"] (defScope sRound):=⟨rfl,rfl,rfl,by decide+kernel,rfl,by decide+kernel,by decide+kernel⟩
theorem ok_round {f:Addr} {fd:FuncData} (F:Fun K "_law_goes_round" "_law_goes_round" sRound f fd) (T:Txt K mg):FnOk P w K mg base CX0 1 f fd ["_law_many","_law_pairs"] spRound:=by
 refine F.ok scRound (fun vs H Q E h=>?_) (fun cdv A outer s H vs Q E hr h=>?_)
 ·obtain⟨n,p,xs,ps,rfl,_⟩:=h
  rfl
 ·obtain⟨n,p,xs,ps,rfl,hn,hp,pp,hl,hb,qT,qF⟩:=h
  have hu:=hu_of hr
  refine⟨_,(pss_cons (ps_set (i:=2) scRound.nd rfl (Or.inr rfl) (pe_callTy (call_listR rfl) rfl T.list boot_list (pa_cons (pe_callTy call_rangeO rfl T.range boot_range (pa_cons (pv 0) pa_nil)) pa_nil))) (pss_cons (ps_set (i:=3) scRound.nd rfl (Or.inl rfl) pe_bl) (pss_cons (ps_while PassesOwn.never (pt_val (pv 3)) (pss_cons (ps_set (i:=4) scRound.nd rfl (Or.inr rfl) (pe_cpFC (own:=["_law_p"]) (cap:=[("_law_pairs",1),("_law_left",2)]) (g:=gName 0) (defScope sRound) NRound rfl rfl (fun x h=>cell_has h) (by decide+kernel) rfl (pi_list (pv 2)) (fun cs cf C s2 H2 fp=>(pg_name (i:=0) (show(["_law_p","_law_pairs","_law_left"]:List Str).Nodup by decide+kernel) rfl (Or.inr rfl) (Or.inl rfl))) (fun cs cf C s2 H2 fp=>(pt_cmpR (op_eq2K (K:=K) rfl hu) (pe_cpFN (own:=["_law_one","_law_other"]) (icap:=[("_law_p",0),("_law_left",2)]) (g:=gPair K 0 1) (defScope sRound) cf rfl rfl (by decide+kernel) rfl (pi_listK (K:=K) rfl (pv 1)) (fun cl C' s3 H3 fp'=>(pg_tup rfl (pgs_cons (pg_name (i:=0) (show(["_law_one","_law_other","_law_p","_law_left"]:List Str).Nodup by decide+kernel) rfl (Or.inl rfl) (Or.inr rfl)) (pgs_cons (pg_name (i:=1) (show(["_law_one","_law_other","_law_p","_law_left"]:List Str).Nodup by decide+kernel) rfl (Or.inl rfl) (Or.inr rfl)) pgs_nil)))) (fun cl C' s3 H3 fp'=>(PW.pt (pw_and (pt_cmpR op_eq (pv 0) (pv 2) (nomark _)) (pw_and1 (pt_cmpR (op_inK (K:=K) rfl) (pv 1) (pv 3) rfl))))) (fun cl C' s3 H3 fp'=>pe_int)) (pe_lst pa_nil) (nomark _))) (fun cs cf C s2 H2 fp=>(pv 0)))) (pss_cons (ps_set (i:=2) scRound.nd rfl (Or.inr rfl) (pe_cpF (own:=["_law_p"]) (cap:=[("_law_free",4)]) (g:=gName 0) (defScope sRound) NRound rfl rfl (fun x h=>cell_has h) (by decide+kernel) rfl (pi_list (pv 2)) (fun cl C s2 H2 fp=>(pg_name (i:=0) (show(["_law_p","_law_free"]:List Str).Nodup by decide+kernel) rfl (Or.inl rfl) (Or.inr rfl))) (fun cl C s2 H2 fp=>(pt_cmpR (op_notInK (K:=K) rfl) (pv 0) (pv 1) rfl)) (fun cl C s2 H2 fp=>(pv 0)))) (pss_one (ps_set (i:=3) scRound.nd rfl (Or.inl rfl) (pe_cmpR (op_ne2 hu) (pv 4) (pe_lst pa_nil) (nomark _))))))) (pss_one (ps_ret (pe_cmpR (op_ne2 hu) (pv 2) (pe_lst pa_nil) (nomark _))))))),?_⟩
  refine⟨_,rfl,n,rfl,fun rg hrg=>?_⟩
  generalize g:upd H rg _=H1
  obtain⟨s1,e1⟩:=new_of hrg g
  refine⟨rg,n,rfl,e1,by omega,fun l0 hl0=>?_⟩
  generalize g:upd H1 l0 _=H2
  obtain⟨s2,e2⟩:=new_of hl0 g
  have s02:=s1.trans s2
  refine⟨fun m σ H3=>∃(l:Addr) (L:List Nat) (mv:Bool) (v4:Option V),σ=[some (natV n),some (.ref p),some (.ref l),some (.bl mv),v4]/\Same H H3/\H3 l=some (.lst (nats L))/\L.length<=100/\(∀v∈L,v<n)/\(∀S,Nest n ps S->∀v,S v->v∈L)/\((mv=true/\m=L.length+1)∨(mv=false/\m=0/\fre ps L=[])),
   ⟨_,l0,List.range n,true,none,rfl,s02,e2,by rw [List.length_range];exact hn,fun v hv=>List.mem_range.mp hv,fun S hS v sv=>List.mem_range.mpr (hS.1 v sv),.inl ⟨rfl,rfl⟩⟩,?_⟩
  rintro m σ H3 ⟨l,L,mv,v4,rfl,s3,hL,lL,low,nst,alt⟩
  refine⟨_,rfl,mv,rfl,?_⟩
  rcases alt with ⟨rfl,rfl⟩|⟨rfl,rfl,hf⟩
  ·refine iteT ⟨_,fun _ _ z=>z,?_⟩
   have pp3:PrsAt H3 xs ps:=PrsAt.mono (fun c zs e=>s3 c _ e) pp
   refine⟨_,rfl,l,rfl,⟨_,SqL.of hL⟩,fun D hD=>?_⟩
   refine compF_listG (K:=K) (a:=l) (xs:=nats L) (fun i acc σ H4=>(∃v0,σ=[v0,some (.ref p),some (.ref l)])/\Same H3 H4/\H4 D=some (.lst acc)/\acc=nats ((L.take i).filter fun x=>decide (Fre ps L x))) ⟨⟨_,rfl⟩,sameNew hD,upd_same,rfl⟩ (fun i acc σ H4 _ ⟨_,s4,_⟩=>SqL.of (s4 _ _ hL)) ?_ ?_
   ·rintro i x acc σ H4 hi hx ⟨⟨v0,rfl⟩,s4,hD4,rfl⟩
    unfold nats at hx
    rw [List.getElem?_map]at hx
    obtain⟨y,hy,rfl⟩:∃y,L[i]? =some y/\x=natV y:=by
     cases g:L[i]? with
     |none=>rw [g]at hx;cases hx
     |some b=>rw [g]at hx;cases hx;exact⟨b,rfl,rfl⟩
    have lt:(List.filter (fun x=>decide (Fre ps L x)) (L.take i)).length<=100:=Nat.le_trans (List.length_filter_le _ _) (by rw [List.length_take];omega)
    refine⟨_,rfl,p,rfl,⟨_,SqL.of (s4 _ _ (s3 _ _ hp))⟩,fun D2 hD2=>?_⟩
    refine round_in hl (s4 _ _ (s3 _ _ hp)) (PrsAt.mono (fun c zs e=>s4 c _ e) pp3) (s4 _ _ hL) hD2 fun ones H5 s5 e5 iff=>?_
    refine⟨by show 0<=sizeLine;decide,fun l2 hl2=>?_⟩
    generalize g:upd H5 l2 _=H6
    obtain⟨s6,e6⟩:=new_of hl2 g
    refine⟨D2,l2,nats ones,nats [],_,_,rfl,rfl,.inr ⟨SqL.of (s6 _ _ e5),SqL.of e6⟩,den_nats ones,den_nats [],_,rfl,?_⟩
    rw [eqFs_nats]
    have hD6:=s6 _ _ (s5 _ _ hD4)
    by_cases e:ones=[]
    ·refine iteTe (by simp [e]) ⟨_,rfl,cturn hD6 (small (by unfold nats;rw [List.length_map];omega)) hi ⟨⟨_,rfl⟩,sameUpd hD (s4.trans (s5.trans s6)),upd_same,?_⟩⟩
     unfold nats
     rw [List.take_succ,hy,List.filter_append,List.map_append]
     have:=iff.mp e
     simp only [Option.toList_some,List.filter_cons,List.filter_nil]
     rw [if_pos (decide_eq_true this)]
     rfl
    ·refine iteFe (by simp [e]) (cstep hi ⟨⟨_,rfl⟩,s4.trans (s5.trans s6),hD6,?_⟩)
     unfold nats
     rw [List.take_succ,hy,List.filter_append,List.map_append]
     have:¬Fre ps L y:=fun z=>e (iff.mpr z)
     simp only [Option.toList_some,List.filter_cons,List.filter_nil]
     rw [if_neg (by rw [decide_eq_true_iff];exact this)]
     simp
   ·rintro acc σ H4 ⟨_,s4,hD4,rfl⟩
    unfold nats at hD4
    rw [List.length_map,List.take_length]at hD4
    have fl:(fre ps L).length<=100:=Nat.le_trans (List.length_filter_le _ _) lL
    refine⟨_,rfl,l,rfl,⟨_,SqL.of (s4 _ _ hL)⟩,fun D3 hD3=>?_⟩
    refine compF_listG (K:=K) (a:=l) (xs:=nats L) (fun i acc σ H5=>(∃v0,σ=[v0,some (.ref D)])/\Same H4 H5/\H5 D3=some (.lst acc)/\acc=nats ((L.take i).filter fun x=>decide (x∉fre ps L))) ⟨⟨_,rfl⟩,sameNew hD3,upd_same,rfl⟩ (fun i acc σ H5 _ ⟨_,s5,_⟩=>SqL.of (s5 _ _ (s4 _ _ hL))) ?_ ?_
    ·rintro i x acc σ H5 hi hx ⟨⟨v0,rfl⟩,s5,hD5,rfl⟩
     unfold nats at hx
     rw [List.getElem?_map]at hx
     obtain⟨y,hy,rfl⟩:∃y,L[i]? =some y/\x=natV y:=by
      cases g:L[i]? with
      |none=>rw [g]at hx;cases hx
      |some b=>rw [g]at hx;cases hx;exact⟨b,rfl,rfl⟩
     have lt:(List.filter (fun x=>decide (x∉fre ps L)) (L.take i)).length<=100:=Nat.le_trans (List.length_filter_le _ _) (by rw [List.length_take];omega)
     refine⟨_,rfl,_,rfl,D,_,rfl,.inl (SqL.of (s5 _ _ hD4)),rfl,flat_nats (fre ps L),_,rfl,?_⟩
     have iv:=inV_nats y (fre ps L)
     unfold nats at iv
     rw [iv]
     by_cases e:y∈fre ps L
     ·refine iteFe (by rw [decide_eq_true e];rfl) (cstep hi ⟨⟨_,rfl⟩,s5,hD5,?_⟩)
      unfold nats
      rw [List.take_succ,hy,List.filter_append,List.map_append]
      simp only [Option.toList_some,List.filter_cons,List.filter_nil]
      rw [if_neg (by rw [decide_eq_true_iff];exact fun z=>z e)]
      simp
     ·refine iteTe (by rw [decide_eq_false e];rfl) ⟨_,rfl,cturn hD5 (small (by unfold nats;rw [List.length_map];omega)) hi ⟨⟨_,rfl⟩,sameUpd hD3 s5,upd_same,?_⟩⟩
      unfold nats
      rw [List.take_succ,hy,List.filter_append,List.map_append]
      simp only [Option.toList_some,List.filter_cons,List.filter_nil]
      rw [if_pos (decide_eq_true e)]
      rfl
    ·rintro acc σ H5 ⟨_,s5,hD5,rfl⟩
     unfold nats at hD5
     rw [List.length_map,List.take_length]at hD5
     refine⟨_,rfl,by show 0<=sizeLine;decide,fun l2 hl2=>?_⟩
     generalize g:upd H5 l2 _=H6
     obtain⟨s6,e6⟩:=new_of hl2 g
     refine⟨D,l2,nats (fre ps L),nats [],_,_,rfl,rfl,.inr ⟨SqL.of (s6 _ _ (s5 _ _ hD4)),SqL.of e6⟩,den_nats _,den_nats [],?_⟩
     rw [eqFs_nats]
     have s36:Same H H6:=s3.trans (s4.trans (s5.trans s6))
     by_cases e:fre ps L=[]
     ·rw [decide_eq_true e]
      have ls:=lef_same e
      exact⟨0,by omega,D3,L,false,_,rfl,s36,by rw [<-ls];exact s6 _ _ hD5,lL,low,nst,.inr ⟨rfl,rfl,e⟩⟩
     ·rw [decide_eq_false e]
      have ll:=lef_less e
      exact⟨(lef ps L).length+1,by omega,D3,lef ps L,true,_,rfl,s36,s6 _ _ hD5,by omega,fun v hv=>low v (List.mem_filter.mp hv).1,fun S hS v sv=>nest_lef hS (fun v sv=>nst S hS v sv) v sv,.inl ⟨rfl,rfl⟩⟩
  ·refine iteF ?_
   refine⟨_,rfl,by show 0<=sizeLine;decide,fun l2 hl2=>?_⟩
   generalize g:upd H3 l2 _=H6
   obtain⟨s6,e6⟩:=new_of hl2 g
   refine⟨l,l2,nats L,nats [],_,_,rfl,rfl,.inr ⟨SqL.of (s6 _ _ hL),SqL.of e6⟩,den_nats _,den_nats [],?_⟩
   rw [eqFs_nats]
   by_cases e:L=[]
   ·rw [decide_eq_true e]
    exact qF H6 (s3.trans s6) fun S hS v sv=>by
     have:=nst S hS v sv
     rw [e]at this
     cases this
   ·rw [decide_eq_false e]
    obtain⟨x,hx⟩:=List.exists_mem_of_ne_nil _ e
    exact qT H6 (s3.trans s6) ⟨fun v=>v∈L,⟨x,hx⟩,lef_nest low hf⟩
def spRing:Sp:=fun vs H Q _=>∃(p:Addr) (xs:List V) (n:Nat) (ps:List Pr),vs=[.ref p,natV n]/\H p=some (.lst xs)/\PrsAt H xs ps/\Below n ps/\n<=60/\ps.length<=1000/\
 (∀H':Hp,Same H H'->(∀v,¬Reach ps v v)->Q .non H')/\∀(r:Addr) (rs:List Nat) (H':Hp),Same H H'->H r=none->H' r=some (.lst (nats rs))->IsRing ps n rs->Q (.ref r) H'
theorem cut_from (xs:List V) (k:Nat):cutV xs (some (k:Int)) none=xs.drop k:=by
 unfold cutV
 have e1:HT.sIx xs.length 0 (some (k:Int))=min k xs.length:=by
  show(if(k:Int)<0 then((k:Int)+(xs.length:Int)).toNat else min (k:Int).toNat xs.length)=_
  rw [if_neg (by omega)]
  simp
 have e2:HT.sIx xs.length xs.length none=xs.length:=rfl
 rw [e1,e2]
 by_cases h:k<=xs.length
 ·rw [Nat.min_eq_left h,List.take_of_length_le (by simp)]
 ·rw [Nat.min_eq_right (by omega),List.drop_of_length_le (Nat.le_refl _),List.drop_of_length_le (by omega)]
  simp
theorem idx_nats (x:Nat):∀l:List Nat,(l.map fun k:Nat=>(k:Int)).idxOf (x:Int)=l.idxOf x
 | []=>rfl
 |a::l=>by
  have ih:=idx_nats x l
  rw [List.map_cons,List.idxOf_cons,List.idxOf_cons,ih]
  by_cases h:a=x
  ·subst h;simp
  ·have h1:(a==x)=false:=by simpa using h
   have h2:(((a:Nat):Int)==((x:Nat):Int))=false:=by simpa using (by omega:¬(a:Int)=x)
   rw [h1,h2]
def toN:V->Nat
 | .int k=>k.toNat
 |_=>0
structure OnOk (ps:List Pr) (W:List Nat) (i:Nat) (f:Nat->Option V):Prop where
 sound:∀u v,f u=some v->∃m,v=natV m/\(u,m)∈ps/\m∉W
 all:∀p∈ps.take i,p.2∉W->f p.1≠none
theorem OnOk.start {ps:List Pr} {W:List Nat}:OnOk ps W 0 fun _=>none:=⟨fun u v z=>(by cases z),fun p hp=>(by rw [List.take_zero]at hp;cases hp)⟩
theorem OnOk.skip {ps:List Pr} {W:List Nat} {i:Nat} {f:Nat->Option V} {p:Pr} (o:OnOk ps W i f) (h:ps[i]? =some p) (hw:p.2∈W):OnOk ps W (i+1) f:=by
 refine⟨o.sound,fun q hq hqw=>?_⟩
 rw [List.take_succ,h]at hq
 rcases List.mem_append.mp hq with z|z
 ·exact o.all q z hqw
 ·have e:q=p:=by simpa using z
  subst e
  exact absurd hw hqw
theorem OnOk.put {ps:List Pr} {W:List Nat} {i:Nat} {f:Nat->Option V} {p:Pr} (o:OnOk ps W i f) (h:ps[i]? =some p) (hw:p.2∉W):OnOk ps W (i+1) fun k=>if k=p.1 then some (natV p.2)else f k:=by
 refine⟨fun u v hv=>?_,fun q hq hqw=>?_⟩
 ·by_cases e:u=p.1
  ·rw [if_pos e]at hv
   cases hv
   exact⟨p.2,rfl,by rw [e];exact List.mem_of_getElem? h,hw⟩
  ·rw [if_neg e]at hv
   exact o.sound u v hv
 ·by_cases e:q.1=p.1
  ·rw [if_pos e];exact fun z=>(by cases z)
  ·rw [if_neg e]
   rw [List.take_succ,h]at hq
   rcases List.mem_append.mp hq with z|z
   ·exact o.all q z hqw
   ·have e':q=p:=by simpa using z
    subst e'
    exact absurd rfl e
abbrev NR:List Str:=["pairs","many","free","wave","number","onward","reader","made","gone"]
theorem scR:FnScope NR ["pairs","many"] (defScope sRing):=⟨rfl,rfl,rfl,by decide+kernel,rfl,by decide+kernel,by decide+kernel⟩
abbrev XR (P:Program) (w:World) (K:W.Frag) (mg:Str->Option Value) (base:Heap) (f:Addr) (cdv:Value) (A:Around) (outer:List Env) (s:Shared) (H:Hp) (E:XK):Cx:=(cxOf CX0 P w K mg base NR "ring_in" (defScope sRing) f cdv A outer s H E).nox
theorem ring_go {f:Addr} {cdv:Value} {A:Around} {outer:List Env} {s:Shared} {H:Hp} {E:XK} (T:Txt K mg) (hu:(XR P w K mg base f cdv A outer s H E).A.units+1<cLine):
  ∃t,PSs (XR P w K mg base f cdv A outer s H E) ((defBody sRing).drop 5) t/\∀(nx:L2.St->Hp->Prop) (Q:VK) (H3:Hp) (v0 v1 v2 v3 v4 v6 v7:Option V) (d:Addr) (kvs:List (Key×V)) (ks:List Nat) (g:Nat->Option V) (n:Nat) (ps:List Pr),
   Same H H3->n<=60->H3 d=some (.dK kvs)->DNat n kvs ks g->ks≠[]->(∀u v,g u=some v->∃m,v=natV m/\(u,m)∈ps/\m<n/\g m≠none)->
   (∀(r:Addr) (rs:List Nat) (H':Hp),Same H H'->H r=none->H' r=some (.lst (nats rs))->IsRing ps n rs->Q (.ref r) H')->
   t {nx:=nx,rt:=Q} [v0,v1,v2,v3,v4,some (.ref d),v6,v7,none] H3:=by
 refine⟨_,pss_cons (ps_set (i:=8) scR.nd rfl (Or.inl rfl) (pe_lst pa_nil))
  (pss_cons (ps_set (i:=4) scR.nd rfl (Or.inl rfl) (pe_callB (call_min rfl) rfl T.min boot_min (pa_cons (pe_callTy (call_listD rfl) rfl T.list boot_list (pa_cons (pv 5) pa_nil)) pa_nil)))
  (pss_cons (ps_while PassesOwn.never (pt_cmpR op_notIn_seq (pv 4) (pv 8) (by first|rfl|exact nomark _))
   (pss_cons (ps_expr (pe_bm PySem.F.plainAttrs_list PySem.F.slot_list_append PySem.F.type_list_append mt_append (pv 8) (pa_cons (pv 4) pa_nil)))
   (pss_one (ps_set (i:=4) scR.nd rfl (Or.inl rfl) (pe_dget hu (pv 5) (pv 4) (fun _ _=>rfl))))))
  (pss_one (ps_ret (pe_slice sl_list (pv 8) (po_some (pe_bm PySem.F.plainAttrs_list PySem.F.slot_list_index PySem.F.type_list_index mt_index (pv 8) (pa_cons (pv 4) pa_nil))) po_none))))),?_⟩
 intro nx Q H3 v0 v1 v2 v3 v4 v6 v7 d kvs ks g n ps s3 hn hd dn hks hon q
 refine⟨Nat.zero_le _,fun pg hpg=>?_⟩
 have s4:Same H3 (upd H3 pg (.lst [])):=sameNew hpg
 have hg4:(upd H3 pg (.lst [])) pg=some (.lst (nats [])):=upd_same
 generalize upd H3 pg (.lst [])=H4 at s4 hg4
 have hpg0:H pg=none:=s3.free hpg
 have hpd:pg≠d:=Ne.symm (ne_of_none hd hpg)
 refine⟨_,rfl,d,kvs,rfl,s4 _ _ hd,fun l hl=>?_⟩
 have s5:Same H4 (upd H4 l (.lst (kvs.map fun kv=>kV kv.1))):=sameNew hl
 have el:(kvs.map fun kv=>kV kv.1)=(ks.map fun k:Nat=>(k:Int)).map V.int:=by
  have:(kvs.map fun kv=>kV kv.1)=(kvs.map (·.1)).map kV:=by rw [List.map_map];rfl
  rw [this,dn.keys,List.map_map,List.map_map]
  rfl
 refine⟨l,ks.map fun k:Nat=>(k:Int),rfl,SqL.of (by rw [upd_same,el]),by simpa using hks,fun m hm _=>?_⟩
 obtain⟨x,hx,rfl⟩:=List.mem_map.mp hm
 generalize upd H4 l (.lst (kvs.map fun kv=>kV kv.1))=H5 at s5
 have step:∀u,g u≠none->∃m,g u=some (natV m)/\(u,m)∈ps/\m<n/\g m≠none:=fun u hu=>by
  cases e:g u with
  |none=>exact absurd e hu
  |some v=>
   obtain⟨m,rfl,h1,h2,h3⟩:=hon u v e
   exact⟨m,rfl,h1,h2,h3⟩
 have key:∀u,u<n/\g u≠none->u<n/\∃m,(g u).map toN=some m:=fun u ⟨h1,h2⟩=>by
  obtain⟨m,e,_⟩:=step u h2
  exact⟨h1,m,by rw [e];rfl⟩
 refine⟨fun m σ H6=>∃(gone:List Nat) (x:Nat),σ=[v0,v1,v2,v3,some (natV x),some (.ref d),v6,v7,some (.ref pg)]/\Same H H6/\H6 d=some (.dK kvs)/\H6 pg=some (.lst (nats gone))/\Gone ps n (fun u=>(g u).map toN) gone x/\m=n-gone.length,
  ⟨_,[],x,rfl,s3.trans (s4.trans s5),s5 _ _ (s4 _ _ hd),s5 _ _ hg4,Gone.start (key x ⟨dn.below x hx,(dn.mem x).mp hx⟩),rfl⟩,?_⟩
 rintro m σ H6 ⟨gone,x,rfl,s6,hd6,hg6,G,rfl⟩
 have hgl:gone.length<=n:=nodup_len n gone G.nodup fun v hv=>(G.keys v (List.mem_append_left _ hv)).1
 refine⟨_,rfl,_,rfl,pg,_,rfl,.inl (SqL.of hg6),rfl,flat_nats gone,_,rfl,?_⟩
 by_cases hmem:x∈gone
 ·refine ifF (by show(!_)=false;rw [inV_nats,decide_eq_true hmem];rfl) ?_
  refine⟨_,rfl,_,rfl,.inl ⟨rfl,_,SqL.of hg6⟩,_,rfl,pg,gone.map fun k:Nat=>(k:Int),(x:Int),rfl,rfl,SqL.of (by rw [hg6,nats_ints]),List.mem_map.mpr ⟨x,hmem,rfl⟩,_,rfl,pg,_,rfl,SqL.of hg6,fun r hr=>?_⟩
  refine q r (gone.drop (gone.idxOf x)) _ (s6.trans (sameNew hr)) (s6.free hr) ?_ (G.ring (fun u v e=>?_) hmem)
  ·rw [upd_same,cut_from,idx_nats]
   unfold nats
   rw [List.map_drop]
  ·cases eg:g u with
   |none=>rw [eg]at e;cases e
   |some z=>
    rw [eg]at e
    obtain⟨m,rfl,h1,_⟩:=hon u z eg
    have:m=v:=by
     have:=Option.some.inj e
     simpa [toN]using this
    rw [<-this]
    exact h1
 ·refine ifT (by show(!_)=true;rw [inV_nats,decide_eq_false hmem];rfl) ?_
  refine⟨fun σ' H'=>∃m',m'<n-gone.length/\_,fun _ _ z=>z,?_⟩
  refine⟨_,rfl,.inl ⟨rfl,_,SqL.of hg6⟩,_,rfl,pg,_,_,rfl,rfl,hg6,small (by unfold nats;rw [List.length_map];omega),?_⟩
  obtain⟨hxn,m0,hm0⟩:=G.keys x (by simp)
  have hgx:g x≠none:=fun z=>by rw [z]at hm0;cases hm0
  obtain⟨y,ey,hy1,hy2,hy3⟩:=step x hgx
  have hd7:(upd H6 pg (.lst (nats gone++[natV x]))) d=some (.dK kvs):=by rw [upd_ne (Ne.symm hpd)];exact hd6
  refine⟨_,rfl,_,rfl,d,natV y,rfl,by
   have:=DGet.k (k:=Sum.inl (x:Int)) hd7
   rw [dn.val,ey]at this
   exact this,?_⟩
  have G':=G.step hmem (y:=y) (by rw [ey];show some (toN (natV y))=some y;simp [toN]) (key y ⟨hy2,hy3⟩)
  have hgl':=nodup_len n _ G'.nodup fun v hv=>(G'.keys v (List.mem_append_left _ hv)).1
  rw [List.length_append]at hgl'
  refine⟨n-(gone++[x]).length,by rw [List.length_append];simp at hgl'⊢;omega,gone++[x],y,rfl,sameUpd hpg0 s6,hd7,?_,G',rfl⟩
  rw [upd_same]
  unfold nats
  rw [List.map_append]
  rfl
theorem ok_ring {f f1:Addr} {fd fd1:FuncData} (F:Fun K "ring_in" "ring_in" sRing f fd) (F1:Fun K "waves_ahead" "waves_ahead" sAhead f1 fd1) (m1:mg "waves_ahead"=some (.ref f1)) (b1:Binds K fd1 ["pairs","many"] []) (T:Txt K mg):
  FnOk P w K mg base CX0 2 f fd ["pairs","many"] spRing:=by
 have G1:FnOk P w K mg base CX0 1 f1 fd1 ["pairs","many"] spAhead:=ok_ahead F1 T
 refine F.ok scR (fun vs H Q E h=>?_) (fun cdv A outer s H vs Q E hr h=>?_)
 ·obtain⟨p,xs,n,ps,rfl,_⟩:=h
  rfl
 ·obtain⟨p,xs,n,ps,rfl,hp,hps,hb,hn,hl,qN,qR⟩:=h
  have hu:=hu_of hr
  obtain⟨t5,h5,r5⟩:=ring_go (P:=P) (w:=w) (K:=K) (mg:=mg) (base:=base) (f:=f) (cdv:=cdv) (A:=A) (outer:=outer) (s:=s) (H:=H) (E:=E) T hu
  refine⟨_,pss_cons (ps_set (i:=2) scR.nd rfl (Or.inl rfl) pe_dnewK)
   (pss_cons (ps_for PassesOwn.never rfl (pi_list (pe_call G1 hr rfl m1 F1.kp b1 .nil pass0 (pa_cons (pv 0) (pa_cons (pv 1) pa_nil)))) (pg_name (i:=3) scR.nd rfl (Or.inl rfl))
    (pss_one (ps_for PassesOwn.never rfl (pi_list (pv 3)) (pg_name (i:=4) scR.nd rfl (Or.inl rfl)) (pss_one (ps_dput hu (pv 2) (pv 4) pe_bl rfl)))))
   (pss_cons (ps_set (i:=5) scR.nd rfl (Or.inl rfl) pe_dnewK)
   (pss_cons (ps_for (g:=gPair K 6 7) PassesOwn.never rfl (pi_list (pv 0)) (pg_tup rfl (pgs_cons (pg_name (i:=6) scR.nd rfl (Or.inl rfl)) (pgs_cons (pg_name (i:=7) scR.nd rfl (Or.inl rfl)) pgs_nil)))
    (pss_one (ps_if (pt_cmp (pc_dnotin hu (pv 7) (pv 2))) (pss_one (ps_dput hu (pv 5) (pv 6) (pv 7) rfl)) pss_nil)))
   (pss_cons (ps_if (pt_cmpR op_eq (pe_callB call_lenD (by rfl) T.len PySem.boot_len (pa_cons (pv 5) pa_nil)) pe_int (nomark _)) (pss_one (ps_ret pe_non)) pss_nil)
   h5)))),?_⟩
  intro df hdf
  have s1:Same H (upd H df (.dK [])):=sameNew hdf
  have hdf1:(upd H df (.dK [])) df=some (.dK []):=upd_same
  generalize upd H df (.dK [])=H1 at s1 hdf1
  refine⟨_,rfl,_,rfl,p,xs,n,ps,rfl,s1 _ _ hp,PrsAt.mono (fun b ys e=>s1 _ _ e) hps,hb,hn,hl,fun q as ws H2 s2 hq ll ok st=>?_⟩
  have hqd:q≠df:=Ne.symm (ne_of_none hdf1 hq)
  have hasd:df∉as:=fun z=>by
   have:=(ll.new df z).1
   rw [hdf1]at this
   cases this
  refine⟨q,rfl,⟨_,SqL.of ll.top⟩,?_⟩
  have hlen:=ll.len
  refine for_list (K:=K) (a:=q) (xs:=as.map V.ref) (fun i σ H3=>∃(kvs:List (Key×V)) (ks:List Nat) (g:Nat->Option V) (v3 v4:Option V),σ=[some (.ref p),some (natV n),some (.ref df),v3,v4,none,none,none,none]/\Same H H3/\NewLL H1 H3 q as ws/\H3 df=some (.dK kvs)/\DNat n kvs ks g/\(∀v,g v≠none↔v∈(ws.take i).flatten))
   ⟨[],[],fun _=>none,none,none,rfl,s1.trans s2,ll,s2 _ _ hdf1,DNat.nil,by simp⟩ (fun i σ H3 _ ⟨_,_,_,_,_,_,_,ll3,_⟩=>SqL.of ll3.top) ?_ ?_
  ·rintro i x σ H3 hi ⟨kvs,ks,g,v3,v4,rfl,s3,ll3,hd3,dn,hg⟩
   rw [List.getElem?_map]at hi
   obtain⟨b,hb1,rfl⟩:=Option.map_eq_some_iff.mp hi
   obtain⟨wv,e1,e2⟩:=Paired.get ll3.at_ hb1
   have hbm:=List.mem_of_getElem? hb1
   refine⟨_,rfl,b,rfl,⟨_,SqL.of e2⟩,?_⟩
   have hwn:∀v∈wv,v<n:=fun v hv=>ok.below v (List.mem_flatten.mpr ⟨wv,List.mem_of_getElem? e1,hv⟩)
   refine for_list (K:=K) (a:=b) (xs:=nats wv) (fun j σ H4=>∃(kvs:List (Key×V)) (ks:List Nat) (g:Nat->Option V) (v4:Option V),σ=[some (.ref p),some (natV n),some (.ref df),some (.ref b),v4,none,none,none,none]/\Same H H4/\NewLL H1 H4 q as ws/\H4 df=some (.dK kvs)/\DNat n kvs ks g/\(∀v,g v≠none↔v∈(ws.take i).flatten∨v∈wv.take j))
    ⟨kvs,ks,g,v4,rfl,s3,ll3,hd3,dn,by simpa using hg⟩ (fun j σ H4 _ ⟨_,_,_,_,_,_,ll4,_⟩=>by
     obtain⟨b',h1,h2⟩:=listsAt_get ll4.at_ e1
     rw [hb1]at h1
     cases h1
     exact SqL.of h2) ?_ ?_
   ·rintro j x σ H4 hj ⟨kvs4,ks4,g4,u4,rfl,s4,ll4,hd4,dn4,hg4⟩
    obtain⟨v,rfl,hv⟩:=get_nats hj
    have hvn:=hwn v (List.mem_of_getElem? hv)
    obtain⟨ks5,dn5⟩:=dn4.put hvn (.bl true)
    have l4:=dn4.len
    refine⟨_,rfl,_,rfl,df,_,rfl,DPut.k (k:=Sum.inl (v:Int)) hd4 (small (by omega)),?_⟩
    refine⟨_,ks5,_,_,rfl,sameUpd hdf s4,ll4.keep fun c o hc ec=>?_,upd_same,dn5,fun k=>?_⟩
    ·rw [upd_ne]
     ·exact ec
     ·rcases hc with rfl|z
      ·exact hqd
      ·exact fun z'=>hasd (z'▸z)
    ·rw [List.take_succ,hv]
     by_cases e:k=v
     ·subst e
      rw [if_pos rfl]
      simp
     ·rw [if_neg e,hg4]
      simp [e]
   ·rintro σ H4 ⟨kvs4,ks4,g4,u4,rfl,s4,ll4,hd4,dn4,hg4⟩
    refine⟨kvs4,ks4,g4,_,_,rfl,s4,ll4,hd4,dn4,fun v=>?_⟩
    rw [hg4]
    unfold nats
    rw [List.length_map,List.take_length,List.take_succ,e1]
    simp
  ·rintro σ H3 ⟨kvs,ks,g,v3,v4,rfl,s3,ll3,hd3,dn,hg⟩
   rw [List.length_map,hlen,List.take_length]at hg
   intro d2 hd2
   have s4:Same H3 (upd H3 d2 (.dK [])):=sameNew hd2
   have hd24:(upd H3 d2 (.dK [])) d2=some (.dK []):=upd_same
   generalize upd H3 d2 (.dK [])=H4 at s4 hd24
   have hdd:d2≠df:=Ne.symm (ne_of_none hd3 hd2)
   have hd20:H d2=none:=s3.free hd2
   refine⟨_,rfl,p,rfl,⟨_,SqL.of ((s3.trans s4) _ _ hp)⟩,?_⟩
   refine for_list (K:=K) (a:=p) (xs:=xs) (fun i σ H5=>∃(kv2:List (Key×V)) (k2:List Nat) (f2:Nat->Option V) (v6 v7:Option V),σ=[some (.ref p),some (natV n),some (.ref df),v3,v4,some (.ref d2),v6,v7,none]/\Same H H5/\H5 df=some (.dK kvs)/\H5 d2=some (.dK kv2)/\DNat n kv2 k2 f2/\OnOk ps ws.flatten i f2)
    ⟨[],[],_,none,none,rfl,s3.trans s4,s4 _ _ hd3,hd24,DNat.nil,OnOk.start⟩ (fun i σ H5 _ ⟨_,_,_,_,_,_,s5,_⟩=>SqL.of (s5 _ _ hp)) ?_ ?_
   ·rintro i x σ H5 hi ⟨kv2,k2,f2,v6,v7,rfl,s5,hd5,hd25,dn2,on⟩
    obtain⟨pq,hpq,t,rfl,ht⟩:=Paired.get hps hi
    have hpm:=hb pq (List.mem_of_getElem? hpq)
    refine⟨t,_,rfl,SqT.of (s5 _ _ ht),rfl,_,_,rfl,_,_,rfl,rfl,?_⟩
    refine⟨_,rfl,_,rfl,df,_,rfl,DGet.k (k:=Sum.inl (pq.2:Int)) hd5,_,rfl,?_⟩
    rw [dn.val]
    cases hgv:g pq.2 with
    |some z=>
     refine ifF rfl ⟨kv2,k2,f2,_,_,rfl,s5,hd5,hd25,dn2,on.skip hpq ((hg pq.2).mp (by rw [hgv];exact fun z=>(by cases z)))⟩
    |none=>
     have hnw:pq.2∉ws.flatten:=fun z=>(hg pq.2).mpr z hgv
     obtain⟨k3,dn3⟩:=dn2.put hpm.1 (natV pq.2)
     have l2:=dn2.len
     refine ifT rfl ⟨_,rfl,_,rfl,_,rfl,d2,_,rfl,DPut.k (k:=Sum.inl (pq.1:Int)) hd25 (small (by omega)),?_⟩
     refine⟨_,k3,_,_,_,rfl,sameUpd hd20 s5,?_,upd_same,dn3,on.put hpq hnw⟩
     rw [upd_ne (Ne.symm hdd)]
     exact hd5
   ·rintro σ H5 ⟨kv2,k2,f2,v6,v7,rfl,s5,hd5,hd25,dn2,on⟩
    have onall:∀p∈ps,p.2∉ws.flatten->f2 p.1≠none:=fun q hq=>on.all q (by rw [Paired.length hps,List.take_length];exact hq)
    have l2:=dn2.len
    refine⟨_,rfl,d2,kv2,rfl,hd25,rfl,_,rfl,?_⟩
    by_cases hk:k2=[]
    ·subst hk
     have hz:kv2.length=0:=by simpa using l2.1
     refine ifT (by rw [hz];rfl) ?_
     refine qN H5 s5 (ok.noRing hb fun q hq=>?_)
     refine Classical.byContradiction fun hc=>onall q hq hc ?_
     refine Classical.byContradiction fun hc2=>?_
     have:=(dn2.mem q.1).mpr hc2
     cases this
    ·have hz:kv2.length≠0:=by rw [l2.1];exact fun z=>hk (List.eq_nil_of_length_eq_zero z)
     refine ifF (decide_eq_false fun z=>hz ?_) ?_
     ·have:=V.int.inj z
      omega
     ·refine r5 _ Q H5 _ _ _ _ _ _ _ d2 kv2 k2 f2 n ps s5 hn hd25 dn2 hk (fun u v hv=>?_) qR
      obtain⟨m,rfl,h1,h2⟩:=on.sound u v hv
      have hmn:=(hb _ h1).2
      obtain⟨m',h3,h4⟩:=st m hmn h2
      exact⟨m,rfl,h1,hmn,onall (m,m') h3 h4⟩
abbrev Wt (ps:List Pr) (os:List Nat):List Nat:=(ps.filter fun z=>decide (z.2∉os)).map (·.1)
abbrev nxt (ps:List Pr) (n:Nat) (os:List Nat):List Nat:=(List.range n).filter fun v=>decide (v∉os/\v∉Wt ps os)
def spNext:Sp:=fun vs H Q _=>∃(o p:Addr) (os:List Nat) (n:Nat) (xs:List V) (ps:List Pr),vs=[.ref o,.ref p,natV n]/\H o=some (.lst (nats os))/\H p=some (.lst xs)/\PrsAt H xs ps/\ps.length<=1000/\n<=60/\
 ∀(r:Addr) (H':Hp),Same H H'->H r=none->H' r=some (.lst (nats (nxt ps n os)))->Q (.ref r) H'
abbrev NNext:List Str:=["order","pairs","many","waiting"]
theorem scNext:FnScope ["order","pairs","many","waiting"] ["order","pairs","many"] (defScope sNext):=⟨rfl,rfl,rfl,by decide+kernel,rfl,by decide+kernel,by decide+kernel⟩
theorem ok_next {f:Addr} {fd:FuncData} (F:Fun K "next_in" "next_in" sNext f fd) (T:Txt K mg):FnOk P w K mg base CX0 1 f fd ["order","pairs","many"] spNext:=by
 refine F.ok scNext (fun vs H Q E h=>?_) (fun cdv A outer s H vs Q E hr h=>?_)
 ·obtain⟨o,p,os,n,xs,ps,rfl,_⟩:=h
  rfl
 ·obtain⟨o,p,os,n,xs,ps,rfl,ho,hp,pp,hl,hn,q⟩:=h
  have hu:=hu_of hr
  refine⟨_,(pss_cons (ps_set (i:=3) scNext.nd rfl (Or.inr rfl) (pe_cpF (own:=["piece","other"]) (cap:=[("order",0)]) (g:=gPair K 0 1) (defScope sNext) NNext rfl rfl (fun x h=>cell_has h) (by decide+kernel) rfl (pi_list (pv 1)) (fun cl C s2 H2 fp=>(pg_tup rfl (pgs_cons (pg_name (i:=0) (show(["piece","other","order"]:List Str).Nodup by decide+kernel) rfl (Or.inl rfl) (Or.inr rfl)) (pgs_cons (pg_name (i:=1) (show(["piece","other","order"]:List Str).Nodup by decide+kernel) rfl (Or.inl rfl) (Or.inr rfl)) pgs_nil)))) (fun cl C s2 H2 fp=>(pt_cmpR (op_notInK (K:=K) rfl) (pv 1) (pv 2) rfl)) (fun cl C s2 H2 fp=>(pv 0)))) (pss_one (ps_ret (pe_cpF (own:=["piece"]) (cap:=[("order",0),("waiting",3)]) (g:=gName 0) (defScope sNext) NNext rfl rfl (fun x h=>cell_has h) (by decide+kernel) rfl (pi_range1 rfl T.range (pa_cons (pv 2) pa_nil)) (fun cl C s2 H2 fp=>(pg_name (i:=0) (show(["piece","order","waiting"]:List Str).Nodup by decide+kernel) rfl (Or.inl rfl) (Or.inr rfl))) (fun cl C s2 H2 fp=>(PW.pt (pw_and (pt_cmpR (op_notInK (K:=K) rfl) (pv 0) (pv 1) rfl) (pw_and1 (pt_cmpR (op_notInK (K:=K) rfl) (pv 0) (pv 2) rfl))))) (fun cl C s2 H2 fp=>(pv 0)))))),?_⟩
  have lx:=Paired.length pp
  refine⟨_,rfl,p,rfl,⟨_,SqL.of hp⟩,fun D hD=>?_⟩
  refine compF_listG (K:=K) (a:=p) (xs:=xs) (fun i acc σ H3=>∃(v0 v1:Option V),σ=[v0,v1,some (.ref o)]/\Same H H3/\H3 D=some (.lst acc)/\acc=nats (Wt (ps.take i) os)) ⟨_,_,rfl,sameNew hD,upd_same,rfl⟩ (fun i acc σ H3 _ ⟨_,_,_,s3,_⟩=>SqL.of (s3 _ _ hp)) ?_ ?_
  ·rintro i y acc σ H3 hi hx ⟨v0,v1,rfl,s3,hD3,rfl⟩
   obtain⟨pq,hpq,t,rfl,ht⟩:=Paired.get pp hx
   have tk:Wt (ps.take (i+1)) os=Wt (ps.take i) os++(if pq.2∉os then [pq.1]else []):=by
    unfold Wt
    rw [List.take_succ,hpq,List.filter_append,List.map_append]
    congr 1
    simp only [Option.toList_some,List.filter_cons,List.filter_nil]
    by_cases e:pq.2∈os
    ·simp [e]
    ·simp [e]
   refine⟨t,_,rfl,SqT.of (s3 _ _ ht),rfl,_,_,rfl,_,_,rfl,rfl,?_⟩
   refine⟨_,rfl,_,rfl,o,_,rfl,.inl (SqL.of (s3 _ _ ho)),rfl,flat_nats os,_,rfl,?_⟩
   rw [inV_nats]
   have wl:(Wt (ps.take i) os).length<=1000:=by
    unfold Wt
    rw [List.length_map]
    have:=List.length_filter_le (fun z:Pr=>decide (z.2∉os)) (ps.take i)
    rw [List.length_take]at this
    omega
   by_cases e:pq.2∈os
   ·refine iteFe (by rw [decide_eq_true e];rfl) (cstep hi ⟨_,_,rfl,s3,hD3,?_⟩)
    rw [tk,if_neg (fun z=>z e),List.append_nil]
   ·refine iteTe (by rw [decide_eq_false e];rfl) ⟨_,rfl,cturn hD3 (small (by unfold nats;rw [List.length_map];omega)) hi ⟨_,_,rfl,sameUpd hD s3,upd_same,?_⟩⟩
    rw [tk,if_pos e]
    unfold nats
    rw [List.map_append]
    rfl
  ·rintro acc σ H3 ⟨v0,v1,rfl,s3,hD3,rfl⟩
   rw [lx,List.take_length]at hD3
   refine⟨_,rfl,(n:Int),rfl,by omega,by omega,fun c hc=>?_⟩
   refine compF_range (lo:=0) (n:=n) (fun i acc σ H5=>(∃v0,σ=[v0,some (.ref o),some (.ref D)])/\Same H3 H5/\H5 c=some (.lst acc)/\acc=nats ((List.range i).filter fun v=>decide (v∉os/\v∉Wt ps os)))
    ⟨⟨none,rfl⟩,sameNew hc,upd_same,rfl⟩ ?_ ?_
   ·rintro i acc σ H5 hi ⟨⟨v0,rfl⟩,s5,hc5,rfl⟩
    have e0:V.int (0+(i:Int))=natV i:=by show V.int _=V.int _;congr 1;omega
    rw [e0]
    have rl:((List.range i).filter fun v=>decide (v∉os/\v∉Wt ps os)).length<=1000:=Nat.le_trans (List.length_filter_le _ _) (by rw [List.length_range];omega)
    have er:(List.range (i+1)).filter (fun v=>decide (v∉os/\v∉Wt ps os))=(List.range i).filter (fun v=>decide (v∉os/\v∉Wt ps os))++(if i∉os/\i∉Wt ps os then [i]else []):=by
     rw [List.range_succ,List.filter_append,List.filter_cons]
     by_cases h:i∉os/\i∉Wt ps os
     ·simp [h]
     ·rw [if_neg (by rw [decide_eq_true_iff];exact h),if_neg h];rfl
    refine⟨_,rfl,_,rfl,o,_,rfl,.inl (SqL.of (s5 _ _ (s3 _ _ ho))),rfl,flat_nats os,_,rfl,?_⟩
    rw [inV_nats]
    by_cases e1:i∈os
    ·refine iteFe (by rw [decide_eq_true e1];rfl) (iteF (cstep hi ⟨⟨_,rfl⟩,s5,hc5,?_⟩))
     rw [er,if_neg (fun z=>z.1 e1),List.append_nil]
    ·refine iteTe (by rw [decide_eq_false e1];rfl) ?_
     refine⟨_,rfl,_,rfl,D,_,rfl,.inl (SqL.of (s5 _ _ hD3)),rfl,flat_nats (Wt ps os),_,rfl,?_⟩
     rw [inV_nats]
     by_cases e2:i∈Wt ps os
     ·refine iteFe (by rw [decide_eq_true e2];rfl) (cstep hi ⟨⟨_,rfl⟩,s5,hc5,?_⟩)
      rw [er,if_neg (fun z=>z.2 e2),List.append_nil]
     ·refine iteTe (by rw [decide_eq_false e2];rfl) ⟨_,rfl,cturn hc5 (small (by unfold nats;rw [List.length_map];omega)) hi ⟨⟨_,rfl⟩,sameUpd hc s5,upd_same,?_⟩⟩
      rw [er,if_pos ⟨e1,e2⟩]
      unfold nats
      rw [List.map_append]
      rfl
   ·rintro acc σ H5 ⟨_,s5,hc5,rfl⟩
    exact q c H5 (s3.trans s5) (s3.free hc) hc5
def ords (ps:List Pr) (n:Nat):Nat->List (List Nat)
 |0=>[[]]
 |k+1=>(ords ps n k).flatMap fun os=>(nxt ps n os).map fun v=>os++[v]
theorem ords_len (ps:List Pr) {n:Nat}:∀k,(ords ps n k).length<=n ^ k/\∀os∈ords ps n k,os.length=k
 |0=>⟨Nat.le_refl _,fun os h=>by rw [List.mem_singleton.mp h];rfl⟩
 |k+1=>by
  obtain⟨h1,h2⟩:=ords_len ps (n:=n) k
  refine⟨?_,fun os h=>?_⟩
  ·have:∀l:List (List Nat),(l.flatMap fun os=>(nxt ps n os).map fun v=>os++[v]).length<=l.length*n:=by
    intro l
    induction l with
    |nil=>simp
    |cons a l ih=>
     rw [List.flatMap_cons,List.length_append,List.length_map,List.length_cons]
     have:(nxt ps n a).length<=n:=Nat.le_trans (List.length_filter_le _ _) (by rw [List.length_range];exact Nat.le_refl _)
     rw [Nat.succ_mul]
     omega
   exact Nat.le_trans (this _) (by rw [Nat.pow_succ];exact Nat.mul_le_mul_right _ h1)
  ·obtain⟨o,ho,hm⟩:=List.mem_flatMap.mp h
   obtain⟨v,_,rfl⟩:=List.mem_map.mp hm
   rw [List.length_append,h2 o ho]
   rfl
structure OL (H H3:Hp) (D:Addr) (as:List Addr) (ls:List (List Nat)):Prop where
 top:H3 D=some (.lst (as.map V.ref))
 nw:∀b∈as,H b=none/\b≠D
 at_:ListsAt H3 as ls
def spOrders:Sp:=fun vs H Q _=>∃(p:Addr) (n:Nat) (xs:List V) (ps:List Pr),vs=[.ref p,natV n]/\H p=some (.lst xs)/\PrsAt H xs ps/\ps.length<=1000/\n<=6/\
 ∀(q:Addr) (as:List Addr) (H':Hp),Same H H'->H q=none->OL H H' q as (ords ps n n)->Q (.ref q) H'
theorem lists_keep {H H':Hp}:∀{as:List Addr} {ls:List (List Nat)},ListsAt H as ls->(∀b∈as,∀o,H b=some o->H' b=some o)->ListsAt H' as ls
 |_,_,.nil,_=> .nil
 |_,_,.cons h t,k=> .cons (k _ List.mem_cons_self _ h) (lists_keep t fun b m=>k b (List.mem_cons_of_mem _ m))
theorem comp_app {K:W.Frag} {o r D:Addr} {os vs:List Nat} {v0:Option V} {Q:VK} {H:Hp} (ho:H o=some (.lst (nats os))) (hr:H r=some (.lst (nats vs))) (hD:H D=none) (hv:vs.length<=60) (hs:os.length<=60)
  (k:∀bs H3,Same H H3->H3 D=some (.lst (bs.map V.ref))->ListsAt H3 bs (vs.map fun v=>os++[v])->(∀b∈bs,H b=none/\b≠D)->Q (.ref D) H3):
  CompW (Itl K r) D (gName 0) (tOp rCat (tVar 1) (tLst (tCons (tVar 0) tNil))) Q [v0,some (.ref o)] (upd H D (.lst [])):=by
 refine comp_list (K:=K) (a:=r) (xs:=nats vs) (fun i acc σ H2=>(∃v0,σ=[v0,some (.ref o)])/\Same H H2/\H2 D=some (.lst acc)/\∃bs:List Addr,acc=bs.map V.ref/\ListsAt H2 bs ((vs.take i).map fun v=>os++[v])/\∀b∈bs,H b=none/\b≠D)
  ⟨⟨_,rfl⟩,sameNew hD,upd_same,[],rfl,.nil,(fun _ h=>nomatch h)⟩ (fun i acc σ H2 _ ⟨_,s2,_⟩=>SqL.of (s2 _ _ hr)) ?_ ?_
 ·rintro i x acc σ H2 hi hx ⟨⟨v1,rfl⟩,s2,hD2,bs,rfl,pd,nw⟩
  have hi':i<vs.length:=by unfold nats at hi;rw [List.length_map]at hi;exact hi
  unfold nats at hx
  rw [List.getElem?_map]at hx
  obtain⟨y,hy,rfl⟩:∃y,vs[i]? =some y/\x=natV y:=by
   cases g:vs[i]? with
   |none=>rw [g]at hx;cases hx
   |some b=>rw [g]at hx;cases hx;exact⟨b,rfl,rfl⟩
  refine⟨_,rfl,_,rfl,⟨by show 1<=sizeLine;decide,fun t ht=>?_⟩⟩
  generalize g:upd H2 t _=H3
  obtain⟨s3,e3⟩:=new_of ht g
  refine⟨o,t,_,_,rfl,rfl,s3 _ _ (s2 _ _ ho),e3,?_,fun c hc=>?_⟩
  ·unfold nats
   rw [List.length_map]
   exact Nat.le_of_lt (small (by show os.length+1<=10000;omega))
  ·generalize g:upd H3 c _=H4
   obtain⟨s4,e4⟩:=new_of hc g
   have s24:=s3.trans s4
   have bl:=Paired.length pd
   rw [List.length_map,List.length_take]at bl
   have hcD:c≠D:=Ne.symm (ne_of_none (s3 _ _ hD2) hc)
   refine cturn (s24 _ _ hD2) (small (by rw [List.length_map];omega)) hi ⟨⟨_,rfl⟩,sameUpd hD (s2.trans s24),upd_same,bs++[c],by rw [List.map_append];rfl,?_,fun b hb=>?_⟩
   ·rw [List.take_succ,hy,List.map_append]
    refine Paired.app (lists_keep pd fun b hb u e=>?_) (.cons ?_ .nil)
    ·rw [upd_ne (nw b hb).2]
     exact s24 _ _ e
    ·rw [upd_ne hcD,e4]
     unfold nats
     rw [List.map_append]
     rfl
   ·rcases List.mem_append.mp hb with m|m
    ·exact nw b m
    ·rw [List.mem_singleton.mp m]
     exact⟨s2.free (s3.free hc),hcD⟩
 ·rintro acc σ H2 ⟨_,s2,hD2,bs,rfl,pd,nw⟩
  unfold nats at pd
  rw [List.length_map,List.take_length]at pd
  exact k bs H2 s2 hD2 pd nw
abbrev NOrders:List Str:=["pairs","many","orders","count","longer","order"]
theorem scOrders:FnScope ["pairs","many","orders","count","longer","order"] ["pairs","many"] (defScope sOrders):=⟨rfl,rfl,rfl,by decide+kernel,rfl,by decide+kernel,by decide+kernel⟩
theorem ok_orders {f:Addr} {fd:FuncData} (F:Fun K "all_orders" "all_orders" sOrders f fd) (c_next:Cal P w K mg base CX0 1 "next_in" ["order","pairs","many"] spNext) (T:Txt K mg):FnOk P w K mg base CX0 2 f fd ["pairs","many"] spOrders:=by
 refine F.ok scOrders (fun vs H Q E h=>?_) (fun cdv A outer s H vs Q E hr h=>?_)
 ·obtain⟨p,n,xs,ps,rfl,_⟩:=h
  rfl
 ·obtain⟨p,n,xs,ps,rfl,hp,pp,hl_,hn,q⟩:=h
  refine⟨_,(pss_cons (ps_set (i:=2) scOrders.nd rfl (Or.inl rfl) (pe_lst (pa_cons (pe_lst pa_nil) pa_nil))) (pss_cons (ps_for PassesOwn.never rfl (pi_range1 rfl T.range (pa_cons (pv 1) pa_nil)) (pg_name (i:=3) scOrders.nd rfl (Or.inl rfl)) (pss_cons (ps_set (i:=4) scOrders.nd rfl (Or.inl rfl) (pe_lst pa_nil)) (pss_cons (ps_for PassesOwn.never rfl (pi_list (pv 2)) (pg_name (i:=5) scOrders.nd rfl (Or.inr rfl)) (pss_one (ps_expr (pe_bm PySem.F.plainAttrs_list PySem.F.slot_list_extend PySem.F.type_list_extend mt_extend (pv 4) (pa_cons (pe_cp (own:=["piece"]) (cap:=[("order",5)]) (g:=gName 0) (defScope sOrders) NOrders rfl rfl (fun x h=>cell_has h) (by decide+kernel) rfl (pi_list (pe_c c_next (hr.mono (by decide)) rfl pass0 (pa_cons (pv 5) (pa_cons (pv 0) (pa_cons (pv 1) pa_nil))))) (fun cl C s2 H2 fp=>(pg_name (i:=0) (show(["piece","order"]:List Str).Nodup by decide+kernel) rfl (Or.inl rfl) (Or.inr rfl))) (fun cl C s2 H2 fp=>(pe_op op_cat (pv 1) (pe_lst (pa_cons (pv 0) pa_nil))))) pa_nil))))) (pss_one (ps_set (i:=2) scOrders.nd rfl (Or.inl rfl) (pv 4)))))) (pss_one (ps_ret (pv 2))))),?_⟩
  have hnx:∀os,(nxt ps n os).length<=n:=fun os=>Nat.le_trans (List.length_filter_le _ _) (by rw [List.length_range];exact Nat.le_refl _)
  have big:∀k,k<=n->(ords ps n k).length<=46656:=fun k hk=>Nat.le_trans (ords_len ps k).1 (Nat.le_trans (Nat.pow_le_pow_left hn k) (Nat.le_trans (Nat.pow_le_pow_right (by decide) (show k<=6 by omega)) (by decide)))
  refine⟨Nat.zero_le _,fun l0 hl0=>?_⟩
  generalize g:upd H l0 _=H1
  obtain⟨s1,e1⟩:=new_of hl0 g
  refine⟨by show 1<=sizeLine;decide,fun q0 hq0=>?_⟩
  generalize g:upd H1 q0 _=H2
  obtain⟨s2,e2⟩:=new_of hq0 g
  refine⟨_,rfl,(n:Int),rfl,by omega,by omega,?_⟩
  refine for_range (lo:=0) (n:=n) (fun i σ H3=>∃(c:Addr) (as:List Addr) (v3 v4 v5:Option V),σ=[some (.ref p),some (natV n),some (.ref c),v3,v4,v5]/\Same H H3/\H c=none/\OL H H3 c as (ords ps n i))
   ⟨q0,[l0],none,none,none,rfl,s1.trans s2,s1.free hq0,e2,fun b hb=>by rw [List.mem_singleton.mp hb];exact⟨hl0,ne_of_none e1 hq0⟩,.cons (s2 _ _ e1) .nil⟩ ?_ ?_
  ·rintro i σ H3 hi ⟨c,as,v3,v4,v5,rfl,s3,hc,ol⟩
   refine⟨Nat.zero_le _,fun l hl=>?_⟩
   generalize g:upd H3 l _=H4
   obtain⟨s4,e4⟩:=new_of hl g
   have hlc:c≠l:=ne_of_none ol.top hl
   have hl0':H l=none:=s3.free hl
   have ol4:OL H H4 c as (ords ps n i):=⟨s4 _ _ ol.top,ol.nw,lists_keep ol.at_ fun b _ o e=>s4 _ _ e⟩
   have hla:∀b∈as,b≠l:=fun b hb=>by
    obtain⟨j,hj,ej⟩:=List.getElem_of_mem hb
    obtain⟨z,_,ez⟩:=Paired.get ol.at_ (i:=j) (x:=b) (by rw [List.getElem?_eq_getElem hj,ej])
    exact ne_of_none ez hl
   have alen:=Paired.length ol.at_
   refine⟨_,rfl,c,rfl,⟨_,SqL.of ol4.top⟩,?_⟩
   refine for_list (K:=K) (a:=c) (xs:=as.map V.ref) (fun j σ H5=>∃(bs:List Addr) (v3 v5:Option V),σ=[some (.ref p),some (natV n),some (.ref c),v3,some (.ref l),v5]/\Same H H5/\OL H H5 c as (ords ps n i)/\OL H H5 l bs (((ords ps n i).take j).flatMap fun os=>(nxt ps n os).map fun v=>os++[v]))
    ⟨[],_,_,rfl,s3.trans s4,ol4,e4,fun b hb=>(nomatch hb),by rw [List.take_zero];exact .nil⟩ (fun j σ H5 _ ⟨_,_,_,_,_,o5,_⟩=>SqL.of o5.top) ?_ ?_
   ·rintro j x σ H5 hx ⟨bs,v3,v5,rfl,s5,o5,m5⟩
    rw [List.getElem?_map]at hx
    obtain⟨b,hb,eb⟩:∃b,as[j]? =some b/\x= .ref b:=by
     cases g:as[j]? with
     |none=>rw [g]at hx;cases hx
     |some b=>rw [g]at hx;cases hx;exact⟨b,rfl,rfl⟩
    subst eb
    obtain⟨os,hos,eos⟩:=Paired.get o5.at_ hb
    have osl:=(ords_len ps i).2 os (List.mem_of_getElem? hos)
    refine⟨_,rfl,.inl ⟨rfl,_,SqL.of m5.top⟩,?_⟩
    refine⟨_,rfl,_,rfl,_,rfl,b,p,os,n,xs,ps,rfl,eos,s5 _ _ hp,PrsAt.mono (fun c zs e=>s5 c _ e) pp,hl_,by omega,fun r H6 s6 hr6 e6=>?_⟩
    refine⟨r,rfl,⟨_,SqL.of e6⟩,fun D hD=>?_⟩
    refine comp_app (s6 _ _ eos) e6 hD (by have:=hnx os;omega) (by omega) fun cs H7 s7 e7 c7 nw7=>?_
    have s57:=s6.trans s7
    have clen:=Paired.length c7
    rw [List.length_map]at clen
    have blen:=Paired.length m5.at_
    have lD:l≠D:=ne_of_none (s6 _ _ m5.top) hD
    have lcs:∀z∈cs,z≠l:=fun z hz=>Ne.symm (ne_of_none (s6 _ _ m5.top) (nw7 z hz).1)
    have hj:j<(ords ps n i).length:=(List.getElem?_eq_some_iff.mp hos).1
    have tk:((ords ps n i).take (j+1)).flatMap (fun os=>(nxt ps n os).map fun v=>os++[v])=(((ords ps n i).take j).flatMap fun os=>(nxt ps n os).map fun v=>os++[v])++(nxt ps n os).map fun v=>os++[v]:=by
     rw [List.take_succ,hos,List.flatMap_append]
     simp
    refine⟨l,D,_,_,rfl,rfl,s57 _ _ m5.top,e7,?_,?_⟩
    ·rw [List.length_map,List.length_map,blen,clen]
     have b1:(((ords ps n i).take j).flatMap fun os=>(nxt ps n os).map fun v=>os++[v]).length+(nxt ps n os).length<=(ords ps n (i+1)).length:=by
      have:(ords ps n (i+1))=((ords ps n i).take (j+1)).flatMap (fun os=>(nxt ps n os).map fun v=>os++[v])++((ords ps n i).drop (j+1)).flatMap (fun os=>(nxt ps n os).map fun v=>os++[v]):=by
       rw [<-List.flatMap_append,List.take_append_drop]
       rfl
      rw [this,tk,List.length_append,List.length_append,List.length_map]
      omega
     have b2:=big (i+1) hi
     have:sizeLine=16777216:=sizeLine_eq
     omega
    ·have kp:∀z o,z≠l->H5 z=some o->upd H7 l (.lst (bs.map V.ref++cs.map V.ref)) z=some o:=fun z o hz e=>by rw [upd_ne hz];exact s57 _ _ e
     refine⟨bs++cs,_,_,rfl,sameUpd hl0' (s5.trans s57),⟨kp _ _ hlc o5.top,o5.nw,lists_keep o5.at_ fun z hz o e=>kp _ _ (hla z hz) e⟩,⟨by rw [upd_same,List.map_append],fun z hz=>?_,?_⟩⟩
     ·rcases List.mem_append.mp hz with m|m
      ·exact m5.nw z m
      ·exact⟨s5.free (s6.free (nw7 z m).1),lcs z m⟩
     ·rw [tk]
      exact Paired.app (lists_keep m5.at_ fun z hz o e=>kp _ _ (m5.nw z hz).2 e) (lists_keep c7 fun z hz o e=>by rw [upd_ne (lcs z hz)];exact e)
   ·rintro σ H5 ⟨bs,v3,v5,rfl,s5,o5,m5⟩
    rw [List.length_map,alen,List.take_length]at m5
    exact⟨_,rfl,l,bs,_,_,_,rfl,s5,hl0',m5⟩
  ·rintro σ H3 ⟨c,as,v3,v4,v5,rfl,s3,hc,ol⟩
   exact⟨_,rfl,q c as H3 s3 hc ol⟩
def mnN (l:List Nat):Nat:=l.min?.getD 0
def mxN (l:List Nat):Nat:=l.max?.getD 0
theorem mnN_of {l:List Nat} {m:Nat} (h:m∈l) (k:∀a∈l,m<=a):mnN l=m:=by
 unfold mnN
 rw [List.min?_eq_some_iff.mpr ⟨h,k⟩]
 rfl
theorem mxN_of {l:List Nat} {m:Nat} (h:m∈l) (k:∀a∈l,a<=m):mxN l=m:=by
 unfold mxN
 rw [List.max?_eq_some_iff.mpr ⟨h,k⟩]
 rfl
structure Wst where
 ff:List Nat
 en:Nat->Option Nat
 rw:List (List Nat)
def w0 (h:Nat):Wst:=⟨List.replicate h 0,fun _=>none,List.replicate h []⟩
def Wst.hd (st:Wst):Nat:=st.ff.idxOf (mnN st.ff)
def Wst.cs (ps:List Pr) (st:Wst) (p:Nat):List Nat:=(ps.filter fun z=>decide (z.1=p)).map fun z=>(st.en z.2).getD 0
def Wst.e (ls:List Nat) (ps:List Pr) (st:Wst) (p:Nat):Nat:=mxN (st.ff.getD st.hd 0::st.cs ps p)+ls.getD p 0
def wstep (ls:List Nat) (ps:List Pr) (st:Wst) (p:Nat):Wst:=⟨st.ff.set st.hd (st.e ls ps p),fun q=>if q=p then some (st.e ls ps p)else st.en q,st.rw.set st.hd (st.rw.getD st.hd []++[p])⟩
def walk (ls:List Nat) (ps:List Pr) (h:Nat) (os:List Nat):Wst:=os.foldl (wstep ls ps) (w0 h)
def Fit (ps:List Pr) (n:Nat) (os:List Nat):Prop:=∀(i v:Nat),os[i]? =some v->v<n/\∀z∈ps,z.1=v->z.2∈os.take i
theorem walk_snoc (ls:List Nat) (ps:List Pr) (h:Nat) (l:List Nat) (p:Nat):walk ls ps h (l++[p])=wstep ls ps (walk ls ps h l) p:=by
 unfold walk
 rw [List.foldl_append]
 rfl
theorem fold_len (ls:List Nat) (ps:List Pr):∀(os:List Nat) (st:Wst),(os.foldl (wstep ls ps) st).ff.length=st.ff.length/\(os.foldl (wstep ls ps) st).rw.length=st.rw.length
 | [],st=>⟨rfl,rfl⟩
 |p::os,st=>by
  obtain⟨h1,h2⟩:=fold_len ls ps os (wstep ls ps st p)
  rw [List.foldl_cons,h1,h2]
  unfold wstep
  rw [List.length_set,List.length_set]
  exact⟨rfl,rfl⟩
theorem walk_len (ls:List Nat) (ps:List Pr) (h:Nat) (os:List Nat):(walk ls ps h os).ff.length=h/\(walk ls ps h os).rw.length=h:=by
 obtain⟨h1,h2⟩:=fold_len ls ps os (w0 h)
 unfold walk
 rw [h1,h2]
 unfold w0
 rw [List.length_replicate,List.length_replicate]
 exact⟨rfl,rfl⟩
theorem fold_en (ls:List Nat) (ps:List Pr) (q:Nat):∀(os:List Nat) (st:Wst),(os.foldl (wstep ls ps) st).en q≠none↔st.en q≠none∨q∈os
 | [],st=>by simp
 |p::os,st=>by
  rw [List.foldl_cons,fold_en ls ps q os]
  show(if q=p then some _ else st.en q)≠none∨_↔_
  by_cases e:q=p
  ·subst e;simp
  ·rw [if_neg e,List.mem_cons]
   constructor
   ·rintro(z|z)
    ·exact .inl z
    ·exact .inr (.inr z)
   ·rintro(z|z|z)
    ·exact .inl z
    ·exact absurd z e
    ·exact .inr z
theorem walk_en (ls:List Nat) (ps:List Pr) (h:Nat) (os:List Nat) (q:Nat):(walk ls ps h os).en q≠none↔q∈os:=by
 unfold walk
 rw [fold_en]
 simp [w0]
theorem fold_row (ls:List Nat) (ps:List Pr):∀(os:List Nat) (st:Wst) (k:Nat),(∀row∈st.rw,row.length<=k)->∀row∈(os.foldl (wstep ls ps) st).rw,row.length<=k+os.length
 | [],st,k,h=>h
 |p::os,st,k,h=>by
  intro row hm
  rw [List.foldl_cons]at hm
  have:=fold_row ls ps os (wstep ls ps st p) (k+1) (fun r hr=>?_) row hm
  ·rw [List.length_cons];omega
  ·rcases List.mem_or_eq_of_mem_set hr with m|e
   ·have:=h r m;omega
   ·rw [e,List.length_append]
    show _+1<=_
    by_cases hl:st.hd<st.rw.length
    ·have:=h _ (List.getElem_mem hl)
     have e2:st.rw.getD st.hd []=st.rw[st.hd]:=by simp [List.getD,hl]
     rw [e2]
     omega
    ·have e2:st.rw.getD st.hd []=[]:=by simp [List.getD,hl]
     rw [e2]
     simp
theorem walk_row (ls:List Nat) (ps:List Pr) (h:Nat) (os:List Nat):∀row∈(walk ls ps h os).rw,row.length<=os.length:=by
 have:=fold_row ls ps os (w0 h) 0 fun row hm=>by
  unfold w0 at hm
  rw [(List.mem_replicate.mp hm).2]
  exact Nat.le_refl _
 intro row hm
 have:=this row hm
 omega
theorem natsI (l:List Nat):nats l=(l.map fun k:Nat=>(k:Int)).map V.int:=nats_ints l
theorem mn_int {l:List Nat} {m:Int} (h:m∈l.map fun k:Nat=>(k:Int)) (k:∀a∈l.map (fun k:Nat=>(k:Int)),m<=a):mnN l∈l/\m=(mnN l:Nat):=by
 obtain⟨x,hx,rfl⟩:=List.mem_map.mp h
 have:=mnN_of hx fun a ha=>by have:=k _ (List.mem_map.mpr ⟨a,ha,rfl⟩);omega
 rw [this]
 exact⟨hx,rfl⟩
theorem mx_int {l:List Nat} {m:Int} (h:m∈l.map fun k:Nat=>(k:Int)) (k:∀a∈l.map (fun k:Nat=>(k:Int)),a<=m):mxN l∈l/\m=(mxN l:Nat):=by
 obtain⟨x,hx,rfl⟩:=List.mem_map.mp h
 have:=mxN_of hx fun a ha=>by have:=k _ (List.mem_map.mpr ⟨a,ha,rfl⟩);omega
 rw [this]
 exact⟨hx,rfl⟩
theorem zeros (h:Nat):(List.replicate h [V.int 0]).flatten=nats (List.replicate h 0):=by
 induction h with
 |zero=>rfl
 |succ h ih=>rw [List.replicate_succ,List.flatten_cons,ih,List.replicate_succ];rfl
theorem nats_set (l:List Nat) (i x:Nat):(nats l).set i (natV x)=nats (l.set i x):=by
 unfold nats
 rw [List.map_set]
def spBy:Sp:=fun vs H Q _=>∃(o la p:Addr) (os ls:List Nat) (xs:List V) (ps:List Pr) (h:Nat),vs=[.ref o,.ref la,.ref p,natV h]/\H o=some (.lst (nats os))/\H la=some (.lst (nats ls))/\H p=some (.lst xs)/\PrsAt H xs ps/\ps.length<=1000/\ls.length<=60/\os.length<=60/\0<h/\h<=60/\Below ls.length ps/\Fit ps ls.length os/\
 ∀(t r:Addr) (as:List Addr) (H':Hp),Same H H'->H t=none->H' t=some (.tup [natV (mxN (walk ls ps h os).ff),.ref r])->H r=none->NewLL H H' r as (walk ls ps h os).rw->Q (.ref t) H'
abbrev NBy:List Str:=["order","lasts","pairs","hands","rows","free_from","ends","piece","hand","begin"]
theorem scBy:FnScope ["order","lasts","pairs","hands","rows","free_from","ends","piece","hand","begin"] ["order","lasts","pairs","hands"] (defScope sBy):=⟨rfl,rfl,rfl,by decide+kernel,rfl,by decide+kernel,by decide+kernel⟩
theorem ok_by {f:Addr} {fd:FuncData} (F:Fun K "walk_by" "walk_by" sBy f fd) (T:Txt K mg):FnOk P w K mg base CX0 1 f fd ["order","lasts","pairs","hands"] spBy:=by
 refine F.ok scBy (fun vs H Q E h=>?_) (fun cdv A outer s H vs Q E hr h=>?_)
 ·obtain⟨o,la,p,os,ls,xs,ps,h,rfl,_⟩:=h
  rfl
 ·obtain⟨o,la,p,os,ls,xs,ps,h,rfl,ho,hla,hp,pp,hl_,hn,hos,h0,h6,hb,fit,q⟩:=h
  have hu:=hu_of hr
  refine⟨_,(pss_cons (ps_cp (i:=4) scBy.nd rfl (Or.inl rfl) (own:=["hand"]) (cap:=[]) (g:=gName 0) (defScope sBy) NBy rfl rfl (fun x h=>cell_has h) (by decide+kernel) rfl (pi_range1 rfl T.range (pa_cons (pv 3) pa_nil)) (fun cl C s2 H2 fp=>(pg_name (i:=0) (show(["hand"]:List Str).Nodup by decide+kernel) rfl (Or.inl rfl) (Or.inr rfl))) (fun cl C s2 H2 fp=>(pe_lst pa_nil))) (pss_cons (ps_set (i:=5) scBy.nd rfl (Or.inl rfl) (pe_op op_rep (pe_lst (pa_cons pe_int pa_nil)) (pv 3))) (pss_cons (ps_set (i:=6) scBy.nd rfl (Or.inr rfl) pe_dnewK) (pss_cons (ps_for PassesOwn.never rfl (pi_list (pv 0)) (pg_name (i:=7) scBy.nd rfl (Or.inr rfl)) (pss_cons (ps_set (i:=8) scBy.nd rfl (Or.inl rfl) (pe_bm PySem.F.plainAttrs_list PySem.F.slot_list_index PySem.F.type_list_index mt_index (pv 5) (pa_cons (pe_callB (call_min rfl) rfl T.min boot_min (pa_cons (pv 5) pa_nil)) pa_nil))) (pss_cons (ps_set (i:=9) scBy.nd rfl (Or.inl rfl) (pe_callB (call_maxL rfl) rfl T.max boot_max (pa_cons (pe_op op_cat (pe_lst (pa_cons (pe_ix ix_list (pv 5) (pv 8) (fun _ _=>rfl)) pa_nil)) (pe_cpF (own:=["waiting","other"]) (cap:=[("ends",6),("piece",7)]) (g:=gPair K 0 1) (defScope sBy) NBy rfl rfl (fun x h=>cell_has h) (by decide+kernel) rfl (pi_list (pv 2)) (fun cl C s2 H2 fp=>(pg_tup rfl (pgs_cons (pg_name (i:=0) (show(["waiting","other","ends","piece"]:List Str).Nodup by decide+kernel) rfl (Or.inl rfl) (Or.inr rfl)) (pgs_cons (pg_name (i:=1) (show(["waiting","other","ends","piece"]:List Str).Nodup by decide+kernel) rfl (Or.inl rfl) (Or.inr rfl)) pgs_nil)))) (fun cl C s2 H2 fp=>(pt_cmpR op_eq (pv 0) (pv 3) (nomark _))) (fun cl C s2 H2 fp=>(pe_dget hu (pv 2) (pv 1) (fun _ _=>rfl))))) pa_nil))) (pss_cons (ps_dput hu (pv 6) (pv 7) (pe_op op_add (pv 9) (pe_ix ix_list (pv 1) (pv 7) (fun _ _=>rfl))) rfl) (pss_cons (ps_asg (pe_dget hu (pv 6) (pv 7) (fun _ _=>rfl)) (pg_sub (pv 5) (pv 8) set_list)) (pss_one (ps_expr (pe_bm PySem.F.plainAttrs_list PySem.F.slot_list_append PySem.F.type_list_append mt_append (pe_ix ix_list (pv 4) (pv 8) (fun _ _=>rfl)) (pa_cons (pv 7) pa_nil))))))))) (pss_one (ps_ret (pe_tup (pa_cons (pe_callB (call_maxL rfl) rfl T.max boot_max (pa_cons (pv 5) pa_nil)) (pa_cons (pv 4) pa_nil))))))))),?_⟩
  refine⟨_,rfl,(h:Int),rfl,by omega,by omega,fun r hr_=>?_⟩
  refine comp_news (n:=h) (by omega) ⟨none,rfl⟩ hr_ fun as H2 s2 ll=>?_
  refine⟨by show 1<=sizeLine;decide,fun l0 hl0=>?_⟩
  generalize g:upd H2 l0 _=H3
  obtain⟨s3,e3⟩:=new_of hl0 g
  refine⟨_,rfl,l0,(h:Int),_,rfl,rfl,e3,by omega,by omega,?_,fun a ha=>?_⟩
  ·show 1*(h:Int).toNat<=sizeLine
   have:=small (n:=100) (by decide)
   omega
  generalize g:upd H3 a _=H4
  obtain⟨s4,e4⟩:=new_of ha g
  rw [show(h:Int).toNat=h from Int.toNat_natCast h,zeros]at e4
  intro d hd
  generalize g:upd H4 d _=H5
  obtain⟨s5,e5⟩:=new_of hd g
  have s25:=s3.trans (s4.trans s5)
  have hra:r≠a:=ne_of_none (s3 _ _ ll.top) ha
  have hba:∀b∈as,b≠a:=fun b hb=>by
   obtain⟨j,hj,ej⟩:=List.getElem_of_mem hb
   obtain⟨z,_,ez⟩:=Paired.get ll.at_ (i:=j) (x:=b) (by rw [List.getElem?_eq_getElem hj,ej])
   exact ne_of_none (s3 _ _ ez) ha
  have ha0:H a=none:=s2.free (s3.free ha)
  have hd0:H d=none:=s2.free (s3.free (s4.free hd))
  refine⟨_,rfl,o,rfl,⟨_,SqL.of ((s2.trans s25) _ _ ho)⟩,?_⟩
  refine for_list (K:=K) (a:=o) (xs:=nats os) (fun i σ H6=>∃(v7 v8 v9:Option V) (kvs:List (Key×V)) (ks:List Nat),σ=[some (.ref o),some (.ref la),some (.ref p),some (natV h),some (.ref r),some (.ref a),some (.ref d),v7,v8,v9]/\Same H H6/\H6 a=some (.lst (nats (walk ls ps h (os.take i)).ff))/\H6 d=some (.dK kvs)/\DNat ls.length kvs ks (fun q=>((walk ls ps h (os.take i)).en q).map natV)/\NewLL H H6 r as (walk ls ps h (os.take i)).rw)
   ⟨none,none,none,[],[],rfl,s2.trans s25,s5 _ _ e4,e5,DNat.nil,ll.keep fun b u _ e=>s25 _ _ e⟩ (fun i σ H6 _ ⟨_,_,_,_,_,_,s6,_⟩=>SqL.of (s6 _ _ ho)) ?_ ?_
  ·rintro i x σ H6 hx ⟨v7,v8,v9,kvs,ks,rfl,s6,a6,d6,dn,n6⟩
   unfold nats at hx
   rw [List.getElem?_map]at hx
   obtain⟨v,hv,rfl⟩:∃y,os[i]? =some y/\x=natV y:=by
    cases g:os[i]? with
    |none=>rw [g]at hx;cases hx
    |some b=>rw [g]at hx;cases hx;exact⟨b,rfl,rfl⟩
   obtain⟨vn,vf⟩:=fit i v hv
   have tk:os.take (i+1)=os.take i++[v]:=by rw [List.take_succ,hv];rfl
   have sn:=walk_snoc ls ps h (os.take i) v
   rw [<-tk]at sn
   obtain⟨wl1,wl2⟩:=walk_len ls ps h (os.take i)
   have wen:=walk_en ls ps h (os.take i)
   have wro:=walk_row ls ps h (os.take i)
   generalize walk ls ps h (os.take i)=st at a6 dn n6 sn wl1 wl2 wen wro
   rw [sn]
   have a6':H6 a=some (.lst ((st.ff.map fun k:Nat=>(k:Int)).map V.int)):=by rw [<-natsI];exact a6
   have fne:st.ff≠[]:=fun z=>by rw [z]at wl1;simp at wl1;omega
   have fne':(st.ff.map fun k:Nat=>(k:Int))≠[]:=fun z=>fne (List.map_eq_nil_iff.mp z)
   refine⟨_,rfl,.inl ⟨rfl,_,SqL.of a6⟩,?_⟩
   refine⟨_,rfl,a,_,rfl,SqL.of a6',fne',fun m hm hle=>?_⟩
   obtain⟨mi,rfl⟩:=mn_int hm hle
   refine⟨a,_,_,rfl,rfl,SqL.of a6',hm,?_⟩
   rw [idx_nats]
   have hdl:st.hd<st.ff.length:=List.idxOf_lt_length_of_mem mi
   have hdi:st.ff.idxOf (mnN st.ff)=st.hd:=rfl
   rw [hdi]
   have ffd:(nats st.ff)[st.hd]? =some (natV (st.ff.getD st.hd 0)):=by unfold nats;rw [List.getElem?_map,List.getElem?_eq_getElem hdl];simp [List.getD,hdl]
   refine⟨_,rfl,_,rfl,a,_,_,_,rfl,rfl,SqL.of a6,atI_nat ffd,?_⟩
   refine⟨by show 1<=sizeLine;decide,fun t ht=>?_⟩
   generalize g:upd H6 t _=H7
   obtain⟨s7,e7⟩:=new_of ht g
   have lx:=Paired.length pp
   refine⟨_,rfl,p,rfl,⟨_,SqL.of (s7 _ _ (s6 _ _ hp))⟩,fun D hD=>?_⟩
   refine compF_listG (K:=K) (a:=p) (xs:=xs) (fun j acc σ H8=>∃(w0 w1:Option V),σ=[w0,w1,some (.ref d),some (natV v)]/\Same H7 H8/\H8 D=some (.lst acc)/\acc=nats (st.cs (ps.take j) v)) ⟨_,_,rfl,sameNew hD,upd_same,rfl⟩ (fun j acc σ H8 _ ⟨_,_,_,s8,_⟩=>SqL.of (s8 _ _ (s7 _ _ (s6 _ _ hp)))) ?_ ?_
   ·rintro j y acc σ H8 hj hy ⟨w0,w1,rfl,s8,hD8,rfl⟩
    obtain⟨pq,hpq,tt,rfl,ht8⟩:=Paired.get pp hy
    have s68:=s6.trans (s7.trans s8)
    have cst:st.cs (ps.take (j+1)) v=st.cs (ps.take j) v++(if pq.1=v then [(st.en pq.2).getD 0]else []):=by
     unfold Wst.cs
     rw [List.take_succ,hpq,List.filter_append,List.map_append]
     congr 1
     simp only [Option.toList_some,List.filter_cons,List.filter_nil]
     by_cases e:pq.1=v
     ·simp [e]
     ·simp [e]
    refine⟨tt,_,rfl,SqT.of (s68 _ _ ht8),rfl,_,_,rfl,_,_,rfl,rfl,?_⟩
    refine⟨_,rfl,_,rfl,rfl,_,rfl,?_⟩
    have cl:(st.cs (ps.take j) v).length<=1000:=by
     unfold Wst.cs
     rw [List.length_map]
     have:=List.length_filter_le (fun z:Pr=>decide (z.1=v)) (ps.take j)
     rw [List.length_take]at this
     omega
    by_cases e1:pq.1=v
    ·refine iteTe (decide_eq_true (by rw [e1])) ?_
     have inn:pq.2∈os.take i:=vf pq (List.mem_of_getElem? hpq) e1
     obtain⟨z,hz⟩:∃z,st.en pq.2=some z:=Option.ne_none_iff_exists'.mp ((wen pq.2).mpr inn)
     have dg:DGet H8 d (natV pq.2) (some (natV z)):=by
      have:=DGet.k (k:=Sum.inl (pq.2:Int)) (s8 _ _ (s7 _ _ d6))
      rw [dn.val pq.2,hz]at this
      exact this
     refine⟨_,rfl,_,rfl,d,natV z,rfl,dg,cturn hD8 (small (by unfold nats;rw [List.length_map];omega)) hj ⟨_,_,rfl,sameUpd hD s8,upd_same,?_⟩⟩
     rw [cst,if_pos e1,hz]
     unfold nats
     rw [List.map_append]
     rfl
    ·refine iteFe (decide_eq_false (fun z=>e1 (by have:=V.int.inj z;omega))) (cstep hj ⟨_,_,rfl,s8,hD8,?_⟩)
     rw [cst,if_neg e1,List.append_nil]
   ·rintro acc σ H8 ⟨w0,w1,rfl,s8,hD8,rfl⟩
    rw [lx,List.take_length]at hD8
    have s68:=s7.trans s8
    have cl:(st.cs ps v).length<=1000:=by
     unfold Wst.cs
     rw [List.length_map]
     exact Nat.le_trans (List.length_filter_le _ _) hl_
    refine⟨t,D,_,_,rfl,rfl,s8 _ _ e7,hD8,?_,fun c hc=>?_⟩
    ·unfold nats
     rw [List.length_map]
     exact Nat.le_of_lt (small (by show 1+_<=10000;omega))
    generalize g:upd H8 c _=H9
    obtain⟨s9,e9⟩:=new_of hc g
    have e9':H9 c=some (.lst (((st.ff.getD st.hd 0::st.cs ps v).map fun k:Nat=>(k:Int)).map V.int)):=by
     rw [e9, <-natsI]
     rfl
    refine⟨c,_,rfl,SqL.of e9',by simp,fun m hm hle=>?_⟩
    obtain⟨_,rfl⟩:=mx_int hm hle
    have s69:=s68.trans s9
    have lsv:(nats ls)[v]? =some (natV (ls.getD v 0)):=by unfold nats;rw [List.getElem?_map,List.getElem?_eq_getElem vn];simp [List.getD,vn]
    refine⟨_,rfl,_,rfl,_,rfl,la,_,_,_,rfl,rfl,SqL.of (s69 _ _ (s6 _ _ hla)),atI_nat lsv,_,_,rfl,rfl,_,rfl,_,rfl,?_⟩
    have d9:=s69 _ _ d6
    obtain⟨dl1,dl2⟩:=dn.len
    obtain⟨ks',dn'⟩:=dn.put vn (natV (st.e ls ps v))
    refine⟨d,_,rfl,(DPut.k (k:=Sum.inl (v:Int)) (v:=natV (st.e ls ps v)) d9 (small (by omega))),?_⟩
    generalize g:upd H9 d _=H10
    have hda:d≠a:=Ne.symm (ne_of a6 d6 (by intro z;cases z))
    have d10:H10 d=some (.dK (putK kvs (Sum.inl (v:Int)) (natV (st.e ls ps v)))):=by rw [<-g,upd_same]
    have k10:∀b u,b≠d->H6 b=some u->H10 b=some u:=fun b u hb e=>by rw [<-g,upd_ne hb];exact s69 _ _ e
    have s10:Same H H10:=by rw [<-g];exact sameUpd hd0 (s6.trans s69)
    have dg:DGet H10 d (natV v) (some (natV (st.e ls ps v))):=by
     have:=DGet.k (k:=Sum.inl (v:Int)) d10
     rw [dn'.val v,if_pos rfl]at this
     exact this
    refine⟨_,rfl,_,rfl,d,_,rfl,dg,_,rfl,_,rfl,a,_,_,st.hd,rfl,rfl,k10 _ _ (Ne.symm hda) a6,?_,?_⟩
    ·unfold nats
     rw [List.length_map]
     exact ix_nat hdl
    rw [nats_set]
    generalize g:upd H10 a _=H11
    have a11:H11 a=some (.lst (nats (st.ff.set st.hd (st.e ls ps v)))):=by rw [<-g,upd_same]
    have k11:∀b u,b≠d->b≠a->H6 b=some u->H11 b=some u:=fun b u hb hb2 e=>by rw [<-g,upd_ne hb2];exact k10 b u hb e
    have d11:H11 d=some (.dK (putK kvs (Sum.inl (v:Int)) (natV (st.e ls ps v)))):=by rw [<-g,upd_ne hda];exact d10
    have s11:Same H H11:=by rw [<-g];exact sameUpd ha0 s10
    have hrd:r≠d:=ne_of n6.top d6 (by intro z;cases z)
    have hbd:∀b∈as,b≠d:=fun b hb=>by
     obtain⟨j,hj,ej⟩:=List.getElem_of_mem hb
     obtain⟨z,_,ez⟩:=Paired.get n6.at_ (i:=j) (x:=b) (by rw [List.getElem?_eq_getElem hj,ej])
     exact ne_of ez d6 (by intro z;cases z)
    have n11:NewLL H H11 r as st.rw:=n6.keep fun b u hb e=>by
     rcases hb with rfl|hb
     ·exact k11 _ _ hrd hra e
     ·exact k11 _ _ (hbd b hb) (hba b hb) e
    have hdr:st.hd<st.rw.length:=by omega
    have rwd:st.rw[st.hd]? =some (st.rw.getD st.hd []):=by rw [List.getElem?_eq_getElem hdr];simp [List.getD,hdr]
    obtain⟨b,eb1,eb2⟩:=listsAt_get n11.at_ rwd
    have hbm:=List.mem_of_getElem? eb1
    have rl:(st.rw.getD st.hd []).length<=1000:=by
     have:=wro _ (List.mem_of_getElem? rwd)
     rw [List.length_take]at this
     omega
    refine⟨_,rfl,_,rfl,r,_,_,_,rfl,rfl,SqL.of n11.top,atI_nat (show(as.map V.ref)[st.hd]? =some (.ref b) by rw [List.getElem?_map,eb1];rfl),.inl ⟨rfl,_,SqL.of eb2⟩,?_⟩
    refine⟨_,rfl,b,_,_,rfl,rfl,eb2,small (by unfold nats;rw [List.length_map];omega),?_⟩
    have bna:b≠a:=hba b hbm
    have dn2:DNat ls.length (putK kvs (Sum.inl (v:Int)) (natV (st.e ls ps v))) ks' fun q=>((wstep ls ps st v).en q).map natV:=by
     have:(fun q=>((wstep ls ps st v).en q).map natV)=fun k=>if k=v then some (natV (st.e ls ps v))else(st.en k).map natV:=by
      funext q
      show Option.map natV (if q=v then _ else _)=_
      split<;>rfl
     rw [this]
     exact dn'
    have bnd:b≠d:=hbd b hbm
    refine⟨_,_,_,_,ks',rfl,sameUpd (n11.new b hbm).1 s11,?_,?_,dn2,?_⟩
    ·rw [upd_ne (Ne.symm bna)];exact a11
    ·rw [upd_ne (Ne.symm bnd)];exact d11
    ·exact n11.app rwd eb1 v
  ·rintro σ H6 ⟨v7,v8,v9,kvs,ks,rfl,s6,a6,d6,dn,n6⟩
   have ol:(nats os).length=os.length:=by unfold nats;rw [List.length_map]
   rw [ol,List.take_length]at a6 dn n6
   obtain⟨wl1,wl2⟩:=walk_len ls ps h os
   have a6':H6 a=some (.lst (((walk ls ps h os).ff.map fun k:Nat=>(k:Int)).map V.int)):=by rw [<-natsI];exact a6
   refine⟨_,rfl,a,_,rfl,SqL.of a6',fun z=>?_,fun m hm hle=>?_⟩
   ·have:=List.map_eq_nil_iff.mp z
    rw [this]at wl1
    simp at wl1
    omega
   obtain⟨_,rfl⟩:=mx_int hm hle
   refine⟨_,rfl,by show 2<=sizeLine;decide,fun t ht=>?_⟩
   generalize g:upd H6 t _=H7
   obtain⟨s7,e7⟩:=new_of ht g
   exact q t r as H7 (s6.trans s7) (s6.free ht) e7 hr_ (n6.keep fun b u _ e=>s7 _ _ e)
theorem ringNst {ps:List Pr} {n:Nat} {rs:List Nat} (r:IsRing ps n rs):(∃v,v∈rs)/\Nest n ps (·∈rs):=by
 refine⟨List.exists_mem_of_ne_nil _ r.full,r.below,fun v hv=>?_⟩
 obtain⟨i,hi,rfl⟩:=List.getElem_of_mem hv
 exact⟨_,r.next i hi,List.getElem_mem _⟩
theorem nest_mem {ps ps':List Pr} {n:Nat} {S:Nat->Prop} (h:∀z,z∈ps↔z∈ps') (N:Nest n ps S):Nest n ps' S:=⟨N.1,fun v hv=>by obtain⟨q,h1,h2⟩:=N.2 v hv;exact⟨q,(h _).mp h1,h2⟩⟩
theorem nxt_mem {ps:List Pr} {n v:Nat} {os:List Nat}:v∈nxt ps n os↔v<n/\v∉os/\∀z∈ps,z.1=v->z.2∈os:=by
 unfold nxt
 rw [List.mem_filter,List.mem_range,decide_eq_true_iff]
 constructor
 ·rintro⟨h1,h2,h3⟩
  refine⟨h1,h2,fun z hz e=>Classical.byContradiction fun no=>h3 ?_⟩
  exact List.mem_map.mpr ⟨z,List.mem_filter.mpr ⟨hz,decide_eq_true no⟩,e⟩
 ·rintro⟨h1,h2,h3⟩
  refine⟨h1,h2,fun m=>?_⟩
  obtain⟨z,hz,e⟩:=List.mem_map.mp m
  obtain⟨hz1,hz2⟩:=List.mem_filter.mp hz
  exact of_decide_eq_true hz2 (h3 z hz1 e)
theorem ords_fit {ps:List Pr} {n:Nat}:∀k,∀os∈ords ps n k,os.Nodup/\Fit ps n os
 |0,os,h=>by
  rw [List.mem_singleton.mp h]
  exact⟨List.nodup_nil,fun i v e=>by simp at e⟩
 |k+1,os,h=>by
  obtain⟨o,ho,hm⟩:=List.mem_flatMap.mp h
  obtain⟨v,hv,rfl⟩:=List.mem_map.mp hm
  obtain⟨nd,fit⟩:=ords_fit k o ho
  obtain⟨h1,h2,h3⟩:=nxt_mem.mp hv
  refine⟨?_,fun i u e=>?_⟩
  ·rw [List.nodup_append]
   exact⟨nd,by simp,fun a ha b hb=>by rw [List.mem_singleton.mp hb];exact fun z=>h2 (z▸ha)⟩
  ·by_cases hi:i<o.length
   ·rw [List.getElem?_append_left hi]at e
    rw [List.take_append_of_le_length (by omega)]
    exact fit i u e
   ·have e':i=o.length/\u=v:=by
     rw [List.getElem?_append_right (by omega)]at e
     have:i-o.length=0:=by
      rcases Nat.eq_zero_or_pos (i-o.length)with z|z
      ·exact z
      ·rw [List.getElem?_eq_none (by simp;omega)]at e;cases e
     rw [this]at e
     exact⟨by omega,(Option.some.inj e).symm⟩
    obtain⟨rfl,rfl⟩:=e'
    refine⟨h1,fun z hz ez=>?_⟩
    rw [List.take_left' rfl]
    exact h3 z hz ez
theorem ords_some {ps:List Pr} {n:Nat} (hb:Below n ps) (no:∀S,Nest n ps S->∀v,¬S v):∀k,k<=n->ords ps n k≠[]
 |0,_=>by simp [ords]
 |k+1,hk=>by
  obtain⟨os,hos⟩:=List.exists_mem_of_ne_nil _ (ords_some hb no k (by omega))
  have ol:=(ords_len ps k).2 os hos
  have:nxt ps n os≠[]:=fun z=>by
   have nx:∀v,v<n->v∉os->∃q,(v,q)∈ps/\q∉os:=fun v h1 h2=>Classical.byContradiction fun g=>by
    have:v∈nxt ps n os:=nxt_mem.mpr ⟨h1,h2,fun w hw e=>Classical.byContradiction fun y=>g ⟨w.2,by rw [<-e];exact hw,y⟩⟩
    rw [z]at this
    cases this
   have ex:∃v,v<n/\v∉os:=Classical.byContradiction fun g=>by
    have sub:List.range n ⊆ os:=fun v hv=>Classical.byContradiction fun y=>g ⟨v,List.mem_range.mp hv,y⟩
    have:=(List.nodup_range (n:=n)).length_le_of_subset sub
    rw [List.length_range]at this
    omega
   obtain⟨v,h1,h2⟩:=ex
   refine no (fun v=>v<n/\v∉os) ⟨fun v hv=>hv.1,fun v hv=>?_⟩ v ⟨h1,h2⟩
   obtain⟨q,g1,g2⟩:=nx v hv.1 hv.2
   exact⟨q,g1,(hb _ g1).2,g2⟩
  obtain⟨v,hv⟩:=List.exists_mem_of_ne_nil _ this
  exact List.ne_nil_of_mem (List.mem_flatMap.mpr ⟨os,hos,List.mem_map.mpr ⟨v,hv,rfl⟩⟩)
structure Sch (ls:List Nat) (ps:List Pr) (h:Nat) (os:List Nat) (B hand:Nat->Nat):Prop where
 nd:os.Nodup
 pos:∀v∈os,0<ls.getD v 0
 srt:os.Pairwise fun u v=>B u<=B v
 prec:∀z∈ps,z.1∈os->B z.2+ls.getD z.2 0<=B z.1
 hh:∀v∈os,hand v<h
 dis:∀u∈os,∀v∈os,u≠v->hand u=hand v->B u+ls.getD u 0<=B v∨B v+ls.getD v 0<=B u
structure GI (ls:List Nat) (h:Nat) (B:Nat->Nat) (done:List Nat) (st:Wst) (f:Nat->Option Nat):Prop where
 en:∀v∈done,∃e,st.en v=some e/\e<=B v+ls.getD v 0
 len:st.ff.length=h
 ff:∀j,j<h->(f j=none/\st.ff.getD j 0=0)∨∃v,v∈done/\f j=some v/\st.en v=some (st.ff.getD j 0)
 inj:∀i j v,f i=some v->f j=some v->i=j
 dom:∀j v,f j=some v->v∈done
theorem nodup_map_on {f:Nat->Nat}:∀{l:List Nat},l.Nodup->(∀u∈l,∀v∈l,f u=f v->u=v)->(l.map f).Nodup
 | [],_,_=>List.nodup_nil
 |a::l,h,k=>by
  obtain⟨h1,h2⟩:=List.nodup_cons.mp h
  rw [List.map_cons,List.nodup_cons]
  refine⟨fun m=>?_,nodup_map_on h2 fun u hu v hv=>k u (List.mem_cons_of_mem _ hu) v (List.mem_cons_of_mem _ hv)⟩
  obtain⟨b,hb,e⟩:=List.mem_map.mp m
  have:=k b (List.mem_cons_of_mem _ hb) a List.mem_cons_self e
  subst this
  exact h1 hb
theorem mnN_mem {l:List Nat} (h:l≠[]):mnN l∈l/\∀a∈l,mnN l<=a:=by
 cases e:l.min? with
 |none=>exact absurd (List.min?_eq_none_iff.mp e) h
 |some m=>
  obtain⟨h1,h2⟩:=List.min?_eq_some_iff.mp e
  rw [mnN_of h1 h2]
  exact⟨h1,h2⟩
theorem mxN_mem {l:List Nat} (h:l≠[]):mxN l∈l/\∀a∈l,a<=mxN l:=by
 cases e:l.max? with
 |none=>exact absurd (List.max?_eq_none_iff.mp e) h
 |some m=>
  obtain⟨h1,h2⟩:=List.max?_eq_some_iff.mp e
  rw [mxN_of h1 h2]
  exact⟨h1,h2⟩
theorem hd_get {st:Wst} (h:st.ff≠[]):st.hd<st.ff.length/\st.ff.getD st.hd 0=mnN st.ff:=by
 have hl:st.hd<st.ff.length:=List.idxOf_lt_length_of_mem (mnN_mem h).1
 refine⟨hl,?_⟩
 have:st.ff.getD st.hd 0=st.ff[st.hd]:=by simp [List.getD,hl]
 rw [this]
 exact List.getElem_idxOf hl
section
variable {ls:List Nat} {ps:List Pr} {h:Nat} {B hand:Nat->Nat}
theorem GI.free {done:List Nat} {p:Nat} {st:Wst} {f:Nat->Option Nat} (g:GI ls h B done st f) (S:Sch ls ps h (done++[p]) B hand) (h0:0<h):mnN st.ff<=B p:=by
 refine Classical.byContradiction fun no=>?_
 have ne:st.ff≠[]:=fun z=>by have:=g.len;rw [z]at this;simp at this;omega
 have big:∀j,j<h->B p<st.ff.getD j 0:=fun j hj=>by
  have hl:j<st.ff.length:=by rw [g.len];exact hj
  have:st.ff.getD j 0=st.ff[j]:=by simp [List.getD,hl]
  rw [this]
  have:=(mnN_mem ne).2 _ (List.getElem_mem hl)
  omega
 have at_:∀j,j<h->∃v,v∈done/\f j=some v/\B p<B v+ls.getD v 0:=fun j hj=>by
  rcases g.ff j hj with ⟨_,e⟩|⟨v,m,e1,e2⟩
  ·have:=big j hj;omega
  ·obtain⟨e,h1,h2⟩:=g.en v m
   rw [e2]at h1
   cases h1
   have:=big j hj
   exact⟨v,m,e1,by omega⟩
 have pm:p∈done++[p]:=by simp
 have early:∀v∈done,B v<=B p:=fun v hv=>(List.pairwise_append.mp S.srt).2.2 v hv p (by simp)
 have pnd:p∉done:=fun m=>(List.nodup_append.mp S.nd).2.2 p m p (by simp) rfl
 have key:∀k,k<=h->∃l:List Nat,l.length=k+1/\l.Nodup/\(∀v∈l,v=p∨∃j,j<k/\f j=some v):=by
  intro k
  induction k with
  |zero=>intro _;exact⟨[p],rfl,by simp,fun v hv=> .inl (List.mem_singleton.mp hv)⟩
  |succ k ih=>
   intro hk
   obtain⟨l,h1,h2,h3⟩:=ih (by omega)
   obtain⟨v,m,e,_⟩:=at_ k (by omega)
   refine⟨v::l,by rw [List.length_cons,h1],List.nodup_cons.mpr ⟨fun hm=>?_,h2⟩,fun u hu=>?_⟩
   ·rcases h3 v hm with z|⟨j,hj,ej⟩
    ·exact pnd (z▸m)
    ·have:=g.inj _ _ _ e ej;omega
   ·rcases List.mem_cons.mp hu with z|hu
    ·exact .inr ⟨k,by omega,by rw [z];exact e⟩
    ·rcases h3 u hu with z|⟨j,hj,ej⟩
     ·exact .inl z
     ·exact .inr ⟨j,by omega,ej⟩
 obtain⟨l,h1,h2,h3⟩:=key h (Nat.le_refl _)
 have fact:∀v∈l,v∈done++[p]/\B v<=B p/\B p<B v+ls.getD v 0:=fun v hv=>by
  rcases h3 v hv with z|⟨j,hj,ej⟩
  ·subst z
   have:=S.pos v pm
   exact⟨pm,Nat.le_refl _,by omega⟩
  ·obtain⟨u,m,e,g⟩:=at_ j hj
   rw [ej]at e
   cases e
   exact⟨List.mem_append_left _ m,early v m,g⟩
 have nd:(l.map hand).Nodup:=by
  refine nodup_map_on h2 fun u hu v hv e=>?_
  refine Classical.byContradiction fun ne=>?_
  obtain⟨a1,a2,a3⟩:=fact u hu
  obtain⟨b1,b2,b3⟩:=fact v hv
  rcases S.dis u a1 v b1 ne e with z|z<;>omega
 have:=nodup_len h (l.map hand) nd fun x hx=>by
  obtain⟨v,hv,rfl⟩:=List.mem_map.mp hx
  exact S.hh v (fact v hv).1
 rw [List.length_map,h1]at this
 omega
theorem GI.step {done:List Nat} {p:Nat} {st:Wst} {f:Nat->Option Nat} (g:GI ls h B done st f) (S:Sch ls ps h (done++[p]) B hand) (h0:0<h) (before:∀z∈ps,z.1=p->z.2∈done):GI ls h B (done++[p]) (wstep ls ps st p) fun j=>if j=st.hd then some p else f j:=by
 have fr:=g.free S h0
 have ne:st.ff≠[]:=fun z=>by have:=g.len;rw [z]at this;simp at this;omega
 obtain⟨hl,hg⟩:=hd_get ne
 have pnd:p∉done:=fun m=>(List.nodup_append.mp S.nd).2.2 p m p (by simp) rfl
 have el:st.e ls ps p<=B p+ls.getD p 0:=by
  unfold Wst.e
  have:mxN (st.ff.getD st.hd 0::st.cs ps p)<=B p:=by
   rcases List.mem_cons.mp (mxN_mem (l:=st.ff.getD st.hd 0::st.cs ps p) (by simp)).1 with z|z
   ·rw [z,hg];exact fr
   ·obtain⟨y,hy,e⟩:=List.mem_map.mp z
    obtain⟨y1,y2⟩:=List.mem_filter.mp hy
    have y2:=of_decide_eq_true y2
    obtain⟨e',h1,h2⟩:=g.en y.2 (before y y1 y2)
    rw [h1]at e
    have:=S.prec y y1 (by rw [y2];simp)
    rw [y2]at this
    have e:e'=mxN (st.ff.getD st.hd 0::st.cs ps p):=e
    omega
  omega
 refine⟨fun v hv=>?_,by show(st.ff.set _ _).length=h;rw [List.length_set];exact g.len,fun j hj=>?_,fun i j v h1 h2=>?_,fun j v h1=>?_⟩
 ·show∃e,(if v=p then some _ else st.en v)=some e/\_
  rcases List.mem_append.mp hv with m|m
  ·rw [if_neg (fun z:v=p=>pnd (z▸m))]
   exact g.en v m
  ·rw [List.mem_singleton.mp m,if_pos rfl]
   exact⟨_,rfl,el⟩
 ·show((if j=st.hd then some p else f j)=none/\(st.ff.set _ _).getD j 0=0)∨∃v,v∈done++[p]/\(if j=st.hd then some p else f j)=some v/\(if v=p then some _ else st.en v)=some ((st.ff.set _ _).getD j 0)
  by_cases e:j=st.hd
  ·subst e
   refine .inr ⟨p,by simp,if_pos rfl,?_⟩
   rw [if_pos rfl]
   congr 1
   simp [List.getD,hl]
  ·rw [if_neg e]
   have e2:(st.ff.set st.hd (st.e ls ps p)).getD j 0=st.ff.getD j 0:=by
    rw [List.getD,List.getD,List.getElem?_set_ne (fun z=>e z.symm)]
   rw [e2]
   rcases g.ff j hj with z|⟨v,m,a,b⟩
   ·exact .inl z
   ·refine .inr ⟨v,List.mem_append_left _ m,a,?_⟩
    rw [if_neg (fun z:v=p=>pnd (z▸m))]
    exact b
 ·by_cases e1:i=st.hd
  ·by_cases e2:j=st.hd
   ·rw [e1,e2]
   ·rw [if_pos e1]at h1
    rw [if_neg e2]at h2
    cases h1
    exact absurd (g.dom _ _ h2) pnd
  ·rw [if_neg e1]at h1
   by_cases e2:j=st.hd
   ·rw [if_pos e2]at h2
    cases h2
    exact absurd (g.dom _ _ h1) pnd
   ·rw [if_neg e2]at h2
    exact g.inj _ _ _ h1 h2
 ·by_cases e1:j=st.hd
  ·rw [if_pos e1]at h1
   cases h1
   simp
  ·rw [if_neg e1]at h1
   exact List.mem_append_left _ (g.dom _ _ h1)
theorem Sch.pre {os more:List Nat} (S:Sch ls ps h (os++more) B hand):Sch ls ps h os B hand:=⟨(List.nodup_append.mp S.nd).1,fun v hv=>S.pos v (List.mem_append_left _ hv),(List.pairwise_append.mp S.srt).1,fun z hz m=>S.prec z hz (List.mem_append_left _ m),fun v hv=>S.hh v (List.mem_append_left _ hv),fun u hu v hv=>S.dis u (List.mem_append_left _ hu) v (List.mem_append_left _ hv)⟩
theorem greedy {n:Nat} {os:List Nat} (S:Sch ls ps h os B hand) (h0:0<h) (fit:Fit ps n os):∀k,k<=os.length->∃f,GI ls h B (os.take k) (walk ls ps h (os.take k)) f
 |0,_=>⟨fun _=>none,fun v hv=>(by rw [List.take_zero]at hv;cases hv),by show(List.replicate h 0).length=h;simp,fun j hj=> .inl ⟨rfl,by show(List.replicate h 0).getD j 0=0;simp [List.getD,hj]⟩,fun i j v e=>(by cases e),fun j v e=>(by cases e)⟩
 |k+1,hk=>by
  obtain⟨f,g⟩:=greedy S h0 fit k (by omega)
  have hv:os[k]? =some os[k]:=List.getElem?_eq_getElem (by omega)
  have tk:os.take (k+1)=os.take k++[os[k]]:=by rw [List.take_succ,hv];rfl
  rw [tk,walk_snoc]
  refine⟨_,g.step (hand:=hand) ?_ h0 (fit k _ hv).2⟩
  rw [<-tk]
  have:=S
  rw [<-List.take_append_drop (k+1) os]at this
  exact this.pre
theorem greedy_end {n M:Nat} {os:List Nat} (S:Sch ls ps h os B hand) (h0:0<h) (fit:Fit ps n os) (hM:∀v∈os,B v+ls.getD v 0<=M):mxN (walk ls ps h os).ff<=M:=by
 obtain⟨f,g⟩:=greedy S h0 fit os.length (Nat.le_refl _)
 rw [List.take_length]at g
 have ne:(walk ls ps h os).ff≠[]:=fun z=>by have:=g.len;rw [z]at this;simp at this;omega
 obtain⟨m,_⟩:=mxN_mem ne
 obtain⟨j,hj,e⟩:=List.getElem_of_mem m
 have e2:(walk ls ps h os).ff.getD j 0=mxN (walk ls ps h os).ff:=by rw [<-e];simp [List.getD,hj]
 rcases g.ff j (by rw [<-g.len];exact hj)with ⟨_,z⟩|⟨v,hv,_,z⟩
 ·omega
 ·obtain⟨x,h1,h2⟩:=g.en v hv
  rw [z,e2]at h1
  cases h1
  have:=hM v hv
  omega
end
theorem ords_of {ps:List Pr} {n:Nat}:∀(k:Nat) (os:List Nat),os.length=k->os.Nodup->Fit ps n os->os∈ords ps n k
 |0,os,h,_,_=>by
  rw [List.length_eq_zero_iff.mp h]
  exact List.mem_singleton.mpr rfl
 |k+1,os,h,nd,fit=>by
  obtain⟨o,v,rfl⟩:∃o v,os=o++[v]:=by
   have ne:os≠[]:=fun z=>by rw [z]at h;simp at h
   exact⟨os.dropLast,os.getLast ne,(List.dropLast_concat_getLast ne).symm⟩
  rw [List.length_append]at h
  have hl:o.length=k:=by have:o.length+1=k+1:=h;omega
  obtain⟨n1,_,n3⟩:=List.nodup_append.mp nd
  have f1:Fit ps n o:=fun i u e=>by
   have hi:=(List.getElem?_eq_some_iff.mp e).1
   have:=fit i u (by rw [List.getElem?_append_left hi];exact e)
   rw [List.take_append_of_le_length (by omega)]at this
   exact this
  have f2:=fit o.length v (by simp)
  rw [List.take_left' rfl]at f2
  refine List.mem_flatMap.mpr ⟨o,ords_of k o hl n1 f1,List.mem_map.mpr ⟨v,nxt_mem.mpr ⟨f2.1,fun m=>n3 v m v (by simp) rfl,f2.2⟩,rfl⟩⟩
def rowPs (rs:List (List Nat)):List Pr:=rs.flatMap fun r=>(r.drop 1).zip r
theorem rowPs_at {rs:List (List Nat)} {r:List Nat} (hr:r∈rs) {j:Nat} (hj:j+1<r.length):(r[j+1],r[j])∈rowPs rs:=by
 refine List.mem_flatMap.mpr ⟨r,hr,?_⟩
 refine List.mem_of_getElem? (i:=j) ?_
 rw [List.getElem?_zip_eq_some]
 refine⟨?_,List.getElem?_eq_getElem (by omega)⟩
 rw [List.getElem?_drop,Nat.add_comm]
 exact List.getElem?_eq_getElem hj
theorem least_le {ls:List Nat} {ps:List Pr} {n h:Nat} {rs:List (List Nat)} {B:Nat->Nat} (h0:0<h) (hr:rs.length=h) (pm:rs.flatten.Perm (List.range n)) (bel:Below n ps) (pos:∀v,v<n->0<ls.getD v 0)
  (sys:∀v,v<n->∀q,(v,q)∈ps++rowPs rs->B q+ls.getD q 0<=B v):∃os∈ords ps n n,∀M,(∀v,v<n->B v+ls.getD v 0<=M)->mxN (walk ls ps h os).ff<=M:=by
 have srt:=List.pairwise_mergeSort (le:=fun a b:Nat=>decide (B a<=B b)) (fun a b c h1 h2=>decide_eq_true (Nat.le_trans (of_decide_eq_true h1) (of_decide_eq_true h2))) (fun a b=>by rcases Nat.le_total (B a) (B b)with z|z<;>simp [z]) (List.range n)
 have mp:=List.mergeSort_perm (List.range n) fun a b:Nat=>decide (B a<=B b)
 generalize (List.range n).mergeSort (fun a b:Nat=>decide (B a<=B b))=os at srt mp
 have srt:os.Pairwise fun u v=>B u<=B v:=srt.imp fun h=>of_decide_eq_true h
 have nd:os.Nodup:=mp.nodup_iff.mpr List.nodup_range
 have mem:∀v,v∈os↔v<n:=fun v=>by rw [mp.mem_iff,List.mem_range]
 have len:os.length=n:=by rw [mp.length_eq,List.length_range]
 have inrow:∀v,v<n->∃r∈rs,v∈r:=fun v hv=>List.mem_flatten.mp (pm.mem_iff.mpr (List.mem_range.mpr hv))
 have low:∀r∈rs,∀v∈r,v<n:=fun r hr v hv=>List.mem_range.mp (pm.mem_iff.mp (List.mem_flatten.mpr ⟨r,hr,hv⟩))
 have chain:∀r∈rs,∀d i,∀(hj:i+d+1<r.length),B r[i]+ls.getD r[i] 0<=B r[i+d+1]:=by
  intro r hr d
  induction d with
  |zero=>
   intro i hj
   exact sys _ (low r hr _ (List.getElem_mem hj)) _ (List.mem_append_right _ (rowPs_at hr hj))
  |succ d ih=>
   intro i hj
   have h1:=ih i (by omega)
   have h2:=sys _ (low r hr _ (List.getElem_mem hj)) _ (List.mem_append_right _ (rowPs_at hr (j:=i+d+1) hj))
   have e:i+(d+1)+1=i+d+1+1:=by omega
   have e2:r[i+(d+1)+1]=r[i+d+1+1]:=rfl
   omega
 have find:∀v,v<n->∃(hi:rs.findIdx (fun r=>decide (v∈r))<rs.length),v∈rs[rs.findIdx (fun r=>decide (v∈r))]:=fun v hv=>by
  obtain⟨r,hr,m⟩:=inrow v hv
  have hi:rs.findIdx (fun r=>decide (v∈r))<rs.length:=List.findIdx_lt_length_of_exists ⟨r,hr,decide_eq_true m⟩
  exact⟨hi,of_decide_eq_true (List.findIdx_getElem (w:=hi))⟩
 have S:Sch ls ps h os B fun v=>rs.findIdx fun r=>decide (v∈r):=by
  refine⟨nd,fun v hv=>pos v ((mem v).mp hv),srt,fun z hz m=>sys _ ((mem _).mp m) _ (List.mem_append_left _ hz),fun v hv=>by obtain⟨hi,_⟩:=find v ((mem v).mp hv);rw [<-hr];exact hi,fun u hu v hv ne e=>?_⟩
  obtain⟨h1,m1⟩:=find u ((mem u).mp hu)
  obtain⟨h2,m2⟩:=find v ((mem v).mp hv)
  have m2':v∈rs[rs.findIdx (fun r=>decide (u∈r))]:=by
   have:∀a b (ha:a<rs.length) (hb:b<rs.length),a=b->v∈rs[b]->v∈rs[a]:=fun a b ha hb e m=>by subst e;exact m
   exact this _ _ h1 h2 e m2
  have rm:=List.getElem_mem h1
  generalize rs[rs.findIdx (fun r=>decide (u∈r))]=r at m1 m2' rm
  obtain⟨i,hi,rfl⟩:=List.getElem_of_mem m1
  obtain⟨j,hj,rfl⟩:=List.getElem_of_mem m2'
  rcases Nat.lt_trichotomy i j with z|z|z
  ·obtain⟨d,rfl⟩:∃d,j=i+d+1:=⟨j-i-1,by omega⟩
   exact .inl (chain r rm d i hj)
  ·subst z;exact absurd rfl ne
  ·obtain⟨d,rfl⟩:∃d,i=j+d+1:=⟨i-j-1,by omega⟩
   exact .inr (chain r rm d j hi)
 have fit:Fit ps n os:=fun i v e=>by
  have hi:=(List.getElem?_eq_some_iff.mp e).1
  have vm:=List.mem_of_getElem? e
  refine⟨(mem v).mp vm,fun z hz ez=>?_⟩
  have zn:=(bel z hz).2
  have zb:=sys v ((mem v).mp vm) z.2 (List.mem_append_left _ (by rw [<-ez];exact hz))
  have zp:=pos z.2 zn
  obtain⟨j,hj,ej⟩:=List.getElem_of_mem ((mem z.2).mpr zn)
  have hlt:j<i:=by
   rcases Nat.lt_trichotomy i j with y|y|y
   ·have:=List.pairwise_iff_getElem.mp srt i j hi hj y
    rw [ej,(List.getElem?_eq_some_iff.mp e).2]at this
    omega
   ·subst y
    rw [(List.getElem?_eq_some_iff.mp e).2]at ej
    rw [ej]at zb
    omega
   ·exact y
  rw [<-ej]
  refine List.mem_take_iff_getElem.mpr ⟨j,by omega,rfl⟩
 exact⟨os,ords_of n os len nd fit,fun M hM=>greedy_end S h0 fit fun v hv=>hM v ((mem v).mp hv)⟩
theorem mem_rowPs {rs:List (List Nat)} {z:Pr}:z∈rowPs rs↔ ∃(k:Nat) (r:List Nat) (i:Nat),rs[k]? =some r/\r[i+1]? =some z.1/\r[i]? =some z.2:=by
 unfold rowPs
 rw [List.mem_flatMap]
 constructor
 ·rintro⟨r,hr,hz⟩
  obtain⟨k,hk⟩:=List.mem_iff_getElem?.mp hr
  obtain⟨i,hi⟩:=List.mem_iff_getElem?.mp hz
  obtain⟨h1,h2⟩:=List.getElem?_zip_eq_some.mp hi
  rw [List.getElem?_drop,Nat.add_comm]at h1
  exact⟨k,r,i,hk,h1,h2⟩
 ·rintro⟨k,r,i,hk,h1,h2⟩
  refine⟨r,List.mem_of_getElem? hk,List.mem_of_getElem? (i:=i) (List.getElem?_zip_eq_some.mpr ⟨?_,h2⟩)⟩
  rw [List.getElem?_drop,Nat.add_comm]
  exact h1
theorem rowPs_set {rs:List (List Nat)} {j p:Nat} {row:List Nat} (hj:rs[j]? =some row) {z:Pr}:z∈rowPs (rs.set j (row++[p]))↔z∈rowPs rs∨∃v,row.getLast? =some v/\z=(p,v):=by
 have hl:=(List.getElem?_eq_some_iff.mp hj).1
 rw [mem_rowPs,mem_rowPs]
 constructor
 ·rintro⟨k,r,i,hk,h1,h2⟩
  by_cases e:j=k
  ·subst e
   rw [List.getElem?_set_self hl]at hk
   cases hk
   have hi:=(List.getElem?_eq_some_iff.mp h1).1
   rw [List.length_append]at hi
   have hi:i+1<row.length+1:=hi
   rw [List.getElem?_append_left (by omega)]at h2
   by_cases g:i+1<row.length
   ·rw [List.getElem?_append_left g]at h1
    exact .inl ⟨j,row,i,hj,h1,h2⟩
   ·rw [List.getElem?_append_right (by omega),show i+1-row.length=0 by omega]at h1
    refine .inr ⟨z.2,?_,Prod.ext (Option.some.inj h1).symm rfl⟩
    rw [List.getLast?_eq_getElem?,show row.length-1=i by omega]
    exact h2
  ·rw [List.getElem?_set_ne e]at hk
   exact .inl ⟨k,r,i,hk,h1,h2⟩
 ·rintro(⟨k,r,i,hk,h1,h2⟩|⟨v,hv,rfl⟩)
  ·by_cases e:j=k
   ·subst e
    rw [hj]at hk
    cases hk
    refine⟨j,_,i,List.getElem?_set_self hl,?_,?_⟩
    ·rw [List.getElem?_append_left (List.getElem?_eq_some_iff.mp h1).1];exact h1
    ·rw [List.getElem?_append_left (List.getElem?_eq_some_iff.mp h2).1];exact h2
   ·exact⟨k,r,i,by rw [List.getElem?_set_ne e];exact hk,h1,h2⟩
  ·rw [List.getLast?_eq_getElem?]at hv
   have hl2:=(List.getElem?_eq_some_iff.mp hv).1
   refine⟨j,_,row.length-1,List.getElem?_set_self hl,?_,?_⟩
   ·rw [show row.length-1+1=row.length by omega,List.getElem?_append_right (Nat.le_refl _),Nat.sub_self]
    rfl
   ·rw [List.getElem?_append_left hl2]
    exact hv
theorem flatten_set_snoc {rs:List (List Nat)} {j p:Nat} {row:List Nat} (hj:rs[j]? =some row):(rs.set j (row++[p])).flatten.Perm (p::rs.flatten):=by
 induction rs generalizing j with
 |nil=>simp at hj
 |cons a rs ih=>
  cases j with
  |zero=>
   cases hj
   rw [List.set_cons_zero,List.flatten_cons,List.flatten_cons,List.append_assoc]
   exact List.perm_middle
  |succ j=>
   rw [List.set_cons_succ,List.flatten_cons,List.flatten_cons]
   exact((ih (by simpa using hj)).append_left a).trans List.perm_middle
structure GB (ls:List Nat) (ps:List Pr) (h:Nat) (done:List Nat) (st:Wst):Prop where
 perm:st.rw.flatten.Perm done
 l1:st.ff.length=h
 l2:st.rw.length=h
 dom:∀v,st.en v≠none↔v∈done
 last:∀(j:Nat) (row:List Nat),st.rw[j]? =some row->(row=[]/\st.ff.getD j 0=0)∨∃v,row.getLast? =some v/\st.en v=some (st.ff.getD j 0)
 sys:∀v∈done,∃b,st.en v=some (b+ls.getD v 0)/\(∀q,(v,q)∈ps++rowPs st.rw->∃e,st.en q=some e/\e<=b)/\(b=0∨∃q,(v,q)∈ps++rowPs st.rw/\st.en q=some b)
theorem GB.step {ls:List Nat} {ps:List Pr} {h:Nat} {done:List Nat} {p:Nat} {st:Wst} (g:GB ls ps h done st) (h0:0<h) (np:p∉done) (before:∀z∈ps,z.1=p->z.2∈done):GB ls ps h (p::done) (wstep ls ps st p):=by
 have ne:st.ff≠[]:=fun z=>by have:=g.l1;rw [z]at this;simp at this;omega
 obtain⟨hl,hg⟩:=hd_get ne
 have hr:st.hd<st.rw.length:=by rw [g.l2, <-g.l1];exact hl
 have hj:st.rw[st.hd]? =some (st.rw.getD st.hd []):=by rw [List.getElem?_eq_getElem hr];simp [List.getD,hr]
 have en':∀v,v∈done->(wstep ls ps st p).en v=st.en v:=fun v hv=>if_neg fun z:v=p=>np (z▸hv)
 have enp:(wstep ls ps st p).en p=some (st.e ls ps p):=if_pos rfl
 have rwm:∀z,z∈rowPs (wstep ls ps st p).rw↔z∈rowPs st.rw∨∃v,(st.rw.getD st.hd []).getLast? =some v/\z=(p,v):=fun z=>rowPs_set hj
 have lowr:∀z∈rowPs st.rw,z.1∈done/\z.2∈done:=fun z hz=>by
  obtain⟨k,r,i,hk,h1,h2⟩:=mem_rowPs.mp hz
  have m:∀x,x∈r->x∈done:=fun x hx=>g.perm.mem_iff.mp (List.mem_flatten.mpr ⟨r,List.mem_of_getElem? hk,hx⟩)
  exact⟨m _ (List.mem_of_getElem? h1),m _ (List.mem_of_getElem? h2)⟩
 have lastm:∀v,(st.rw.getD st.hd []).getLast? =some v->v∈done/\st.en v=some (st.ff.getD st.hd 0):=fun v hv=>by
  rcases g.last _ _ hj with ⟨z,_⟩|⟨u,e1,e2⟩
  ·rw [z]at hv;cases hv
  ·rw [hv]at e1
   cases e1
   exact⟨(g.dom v).mp (by rw [e2];intro z;cases z),e2⟩
 refine⟨?_,by show(st.ff.set _ _).length=h;rw [List.length_set];exact g.l1,by show(st.rw.set _ _).length=h;rw [List.length_set];exact g.l2,fun v=>?_,fun j row hrow=>?_,fun v hv=>?_⟩
 ·exact(flatten_set_snoc hj).trans (g.perm.cons p)
 ·by_cases e:v=p
  ·subst e
   rw [enp]
   simp
  ·rw [show(wstep ls ps st p).en v=st.en v from if_neg e,g.dom,List.mem_cons]
   exact⟨.inr,fun z=>z.resolve_left e⟩
 ·by_cases e:st.hd=j
  ·subst e
   have hrow:(st.rw.set st.hd (st.rw.getD st.hd []++[p]))[st.hd]? =some row:=hrow
   rw [List.getElem?_set_self hr]at hrow
   cases hrow
   refine .inr ⟨p,by simp,?_⟩
   rw [enp]
   show _=some ((st.ff.set st.hd (st.e ls ps p)).getD st.hd 0)
   simp [List.getD,hl]
  ·have hrow:(st.rw.set st.hd (st.rw.getD st.hd []++[p]))[j]? =some row:=hrow
   rw [List.getElem?_set_ne e]at hrow
   have e2:(wstep ls ps st p).ff.getD j 0=st.ff.getD j 0:=by
    show(st.ff.set st.hd (st.e ls ps p)).getD j 0=_
    rw [List.getD,List.getD,List.getElem?_set_ne e]
   rw [e2]
   rcases g.last j row hrow with z|⟨v,a,b⟩
   ·exact .inl z
   ·exact .inr ⟨v,a,by rw [en' v ((g.dom v).mp (by rw [b];intro z;cases z))];exact b⟩
 ·rcases List.mem_cons.mp hv with e|m
  ·subst e
   refine⟨mxN (st.ff.getD st.hd 0::st.cs ps v),enp,fun q hq=>?_,?_⟩
   ·have mx:=(mxN_mem (l:=st.ff.getD st.hd 0::st.cs ps v) (by simp)).2
    rcases List.mem_append.mp hq with hq|hq
    ·have qd:=before _ hq rfl
     obtain⟨e,he⟩:=Option.ne_none_iff_exists'.mp ((g.dom q).mpr qd)
     refine⟨e,by rw [en' q qd];exact he,mx e (List.mem_cons_of_mem _ (List.mem_map.mpr ⟨(v,q),List.mem_filter.mpr ⟨hq,decide_eq_true rfl⟩,by rw [he];rfl⟩))⟩
    ·rcases (rwm _).mp hq with z|⟨u,hu,e⟩
     ·exact absurd (lowr _ z).1 np
     ·cases e
      obtain⟨um,ue⟩:=lastm q hu
      exact⟨_,by rw [en' q um];exact ue,mx _ List.mem_cons_self⟩
   ·rcases List.mem_cons.mp (mxN_mem (l:=st.ff.getD st.hd 0::st.cs ps v) (by simp)).1 with z|z
    ·rcases g.last _ _ hj with ⟨_,y⟩|⟨u,e1,e2⟩
     ·exact .inl (by rw [z];exact y)
     ·obtain⟨um,_⟩:=lastm u e1
      exact .inr ⟨u,List.mem_append_right _ ((rwm _).mpr (.inr ⟨u,e1,rfl⟩)),by rw [en' u um,e2,z]⟩
    ·obtain⟨y,hy,e⟩:=List.mem_map.mp z
     obtain⟨y1,y2⟩:=List.mem_filter.mp hy
     have y2:=of_decide_eq_true y2
     have yd:=before y y1 y2
     obtain⟨x,hx⟩:=Option.ne_none_iff_exists'.mp ((g.dom y.2).mpr yd)
     rw [hx]at e
     have e:x=mxN (st.ff.getD st.hd 0::st.cs ps v):=e
     exact .inr ⟨y.2,List.mem_append_left _ (by rw [<-y2];exact y1),by rw [en' y.2 yd,hx,e]⟩
  ·obtain⟨b,b1,b2,b3⟩:=g.sys v m
   have old:∀q,(v,q)∈ps++rowPs (wstep ls ps st p).rw↔(v,q)∈ps++rowPs st.rw:=fun q=>by
    rw [List.mem_append,List.mem_append,rwm]
    constructor
    ·rintro(z|z|⟨u,_,e⟩)
     ·exact .inl z
     ·exact .inr z
     ·cases e;exact absurd m np
    ·rintro(z|z)
     ·exact .inl z
     ·exact .inr (.inl z)
   refine⟨b,by rw [en' v m];exact b1,fun q hq=>?_,?_⟩
   ·obtain⟨e,e1,e2⟩:=b2 q ((old q).mp hq)
    exact⟨e,by rw [en' q ((g.dom q).mp (by rw [e1];intro z;cases z))];exact e1,e2⟩
   ·rcases b3 with z|⟨q,hq,e⟩
    ·exact .inl z
    ·exact .inr ⟨q,(old q).mpr hq,by rw [en' q ((g.dom q).mp (by rw [e];intro z;cases z))];exact e⟩
theorem GB.start (ls:List Nat) (ps:List Pr) (h:Nat):GB ls ps h [] (w0 h):=by
 refine⟨?_,by show(List.replicate h 0).length=h;simp,by show(List.replicate h ([]:List Nat)).length=h;simp,fun v=>by simp [w0],fun j row e=>?_,fun v hv=>by cases hv⟩
 ·have:(List.replicate h ([]:List Nat)).flatten=[]:=by simp
  show(List.replicate h ([]:List Nat)).flatten.Perm []
  rw [this]
 ·have e:(List.replicate h ([]:List Nat))[j]? =some row:=e
  have hj:=(List.getElem?_eq_some_iff.mp e).1
  rw [List.length_replicate]at hj
  rw [List.getElem?_replicate_of_lt hj]at e
  cases e
  exact .inl ⟨rfl,by show(List.replicate h 0).getD j 0=0;simp [List.getD,hj]⟩
theorem walk_sys {ls:List Nat} {ps:List Pr} {n h:Nat} {os:List Nat} (h0:0<h) (nd:os.Nodup) (fit:Fit ps n os):∀k,k<=os.length->∃done,done.Perm (os.take k)/\GB ls ps h done (walk ls ps h (os.take k))
 |0,_=>⟨[],by rw [List.take_zero],by rw [List.take_zero];exact GB.start ls ps h⟩
 |k+1,hk=>by
  obtain⟨done,pm,g⟩:=walk_sys (ls:=ls) h0 nd fit k (by omega)
  have hv:os[k]? =some os[k]:=List.getElem?_eq_getElem (by omega)
  have tk:os.take (k+1)=os.take k++[os[k]]:=by rw [List.take_succ,hv];rfl
  refine⟨os[k]::done,?_,?_⟩
  ·rw [tk]
   exact(pm.cons _).trans (List.perm_append_singleton _ _).symm
  ·rw [tk,walk_snoc]
   refine g.step h0 (fun m=>?_) fun z hz e=>pm.mem_iff.mpr ((fit k _ hv).2 z hz e)
   have nd':(os.take (k+1)).Nodup:=List.Sublist.nodup (List.take_sublist _ _) nd
   rw [tk]at nd'
   exact(List.nodup_append.mp nd').2.2 _ (pm.mem_iff.mp m) _ (by simp) rfl
theorem pe_gint {X:Cx} {x:Str} {i:Int} {t:Tok} {pos:Pos} (hg:Gl X x) (hm:X.mg x=some (.int i t)) (hd:(x==("__debug__":Str))=false:=by decide):PE X (.Name x pos) (tC (.int i)):=pe_glob (v:= .int i) hg hm ⟨_,rfl⟩ hd
theorem hu_of2 {A:Around} {k:Nat} (hr:Room k A):A.units+101<cLine:=by have:=hr.un;omega
structure LwIn (H:Hp) (la p:Addr) (ls:List Nat) (xs:List V) (ps:List Pr):Prop where
 la:H la=some (.lst (nats ls))
 p:H p=some (.lst xs)
 pp:PrsAt H xs ps
 bel:Below ls.length ps
 n:ls.length<=60
 l:ps.length<18
theorem LwIn.same {H H':Hp} {la p:Addr} {ls:List Nat} {xs:List V} {ps:List Pr} (s:Same H H') (h:LwIn H la p ls xs ps):LwIn H' la p ls xs ps:=⟨s _ _ h.la,s _ _ h.p,PrsAt.mono (fun c zs e=>s c _ e) h.pp,h.bel,h.n,h.l⟩
structure Told (H H':Hp) (t:Addr) (ls:List Nat) (ps:List Pr) (h:Nat) (os:List Nat) (ps':List Pr) (r:Addr) (as:List Addr):Prop where
 new:H t=none
 nr:H r=none
 na:∀b∈as,H b=none
 tup:H' t=some (.tup [natV (mxN (walk ls ps' h os).ff),.ref r])
 rows:H' r=some (.lst (as.map V.ref))
 at_:ListsAt H' as (walk ls ps' h os).rw
 mem:∀z,z∈ps'↔z∈ps
 ord:os∈ords ps' ls.length ls.length
 least:∀os'∈ords ps' ls.length ls.length,mxN (walk ls ps' h os).ff<=mxN (walk ls ps' h os').ff
theorem ps_nv {X:Cx} {x:Str} {p apos pos:Pos} {e:Expr} {es:List Expr} {t:TA} (ha:PA X (e::es) t):PS X (.Raise (some (.Call (.Name x p) (e::es) [] apos)) none pos) (fun _ _ _=>False):=fun _ _ _ _ _ _ h=>h.elim
def spLeast:Sp:=fun vs H Q _=>∃(la p:Addr) (ls:List Nat) (xs:List V) (ps:List Pr) (h:Nat),vs=[.ref la,.ref p,natV h]/\LwIn H la p ls xs ps/\ls.length<=6/\1<=h/\h<=3/\(∀S,Nest ls.length ps S->∀v,¬S v)/\
 ∀t os ps' r as H',Same H H'->Told H H' t ls ps h os ps' r as->Q (.ref t) H'
abbrev pk (z:Pr):List Int:=[(z.1:Int),(z.2:Int)]
theorem pk_inj {z y:Pr} (h:pk z=pk y):z=y:=by
 obtain⟨h1,h2⟩:=List.cons.inj h
 obtain⟨h2,_⟩:=List.cons.inj h2
 exact Prod.ext (by omega) (by omega)
theorem pk_mem {z:Pr} {ps:List Pr}:pk z∈ps.map pk↔z∈ps:=by
 rw [List.mem_map]
 constructor
 ·rintro⟨y,hy,e⟩
  rw [<-pk_inj e]
  exact hy
 ·exact fun h=>⟨z,h,rfl⟩
theorem prs_keys {H:Hp}:∀{xs:List V} {ps:List Pr},PrsAt H xs ps->∃qs:List (List Int×Addr),xs=qs.map (fun x=>V.ref x.2)/\qs.map (·.1)=ps.map pk/\∀x∈qs,TKy H x
 |_,_,.nil=>⟨[],rfl,rfl,fun x hx=>(nomatch hx)⟩
 |_,_,.cons ⟨a,e,ht⟩ t=>by
  obtain⟨qs,h1,h2,h3⟩:=prs_keys t
  refine⟨(pk _,a)::qs,by rw [e,h1];rfl,by rw [List.map_cons,List.map_cons,h2],fun x hx=>?_⟩
  rcases List.mem_cons.mp hx with z|m
  ·rw [z];exact ht
  ·exact h3 x m
theorem keys_prs {H:Hp}:∀{ys:List (List Int×Addr)},(∀y∈ys,∃z:Pr,y.1=pk z/\TKy H y)->∃ps:List Pr,PrsAt H (ys.map fun x=>V.ref x.2) ps/\ys.map (·.1)=ps.map pk
 | [],_=>⟨[],.nil,rfl⟩
 |y::ys,h=>by
  obtain⟨ps,h1,h2⟩:=keys_prs (ys:=ys) fun x hx=>h x (List.mem_cons_of_mem _ hx)
  obtain⟨z,e,ht⟩:=h y List.mem_cons_self
  unfold TKy at ht
  rw [e]at ht
  exact⟨z::ps,.cons ⟨y.2,rfl,ht⟩ h1,by rw [List.map_cons,List.map_cons,e,h2]⟩
def Itm (H0 H:Hp) (D:Addr) (it:Nat×List (List Nat)) (x:V):Prop:=∃t r as,x= .ref t/\H0 t=none/\H t=some (.tup [natV it.1,.ref r])/\H r=some (.lst (as.map V.ref))/\ListsAt H as it.2/\t≠D/\r≠D/\(∀b∈as,b≠D)/\H0 r=none/\∀b∈as,H0 b=none
theorem Itm.keep {H0 H H':Hp} {D:Addr} {it:Nat×List (List Nat)} {x:V} (k:∀b o,b≠D->H b=some o->H' b=some o) (h:Itm H0 H D it x):Itm H0 H' D it x:=by
 obtain⟨t,r,as,e,hn,h1,h2,h3,d1,d2,d3⟩:=h
 exact⟨t,r,as,e,hn,k _ _ d1 h1,k _ _ d2 h2,lists_keep h3 fun b hb o e=>k _ _ (d3.1 b hb) e,d1,d2,d3⟩
abbrev dRow (row:List Nat):D:= .ls (row.map fun k=> .fl (natV k))
abbrev dRw (rows:List (List Nat)):D:= .ls (rows.map dRow)
theorem dens_row {K:W.Frag} {H:Hp}:∀row:List Nat,Dens K H (row.map fun k=> .fl (natV k)) (nats row)
 | []=>by unfold Dens;rfl
 |a::row=>by
  unfold Dens
  exact⟨natV a,nats row,rfl,⟨rfl,rfl⟩,dens_row row⟩
theorem dens_rows {K:W.Frag} {H:Hp}:∀{as:List Addr} {rows:List (List Nat)},ListsAt H as rows->Dens K H (rows.map dRow) (as.map V.ref)
 |_,_,.nil=>by unfold Dens;rfl
 |_,_,.cons h t=>by
  unfold Dens
  exact⟨_,_,rfl,⟨_,_,rfl,SqL.of h,dens_row _⟩,dens_rows t⟩
theorem sh_rw (rows:List (List Nat)):Sh 2 (dRw rows):=⟨_,rfl,fun x hx=>by
 obtain⟨row,_,rfl⟩:=List.mem_map.mp hx
 refine⟨_,rfl,fun y hy=>?_⟩
 obtain⟨k,_,rfl⟩:=List.mem_map.mp hy
 exact⟨_,rfl⟩⟩
theorem Itm.pd {K:W.Frag} {H0 H:Hp} {D:Addr} {it:Nat×List (List Nat)} {x:V} (h:Itm H0 H D it x):PD2 K H 2 ((it.1:Int),dRw it.2) x:=by
 obtain⟨t,r,as,e,hn,h1,h2,h3,d1,d2,d3⟩:=h
 exact⟨t,.ref r,e,SqT.of h1,⟨r,_,rfl,SqL.of h2,dens_rows h3⟩,sh_rw _⟩
theorem paired_map {α β γ:Type} {F:α->β->Prop} {G:γ->β->Prop} {f:α->γ}:∀{l:List α} {m:List β},Paired F l m->(∀a b,F a b->G (f a) b)->Paired G (l.map f) m
 |_,_,.nil,_=> .nil
 |_,_,.cons h t,k=> .cons (k _ _ h) (paired_map t k)
abbrev NLeast:List Str:=["lasts","pairs","hands","unlike"]
theorem scLeast:FnScope ["lasts","pairs","hands","unlike"] ["lasts","pairs","hands"] (defScope sLeast):=⟨rfl,rfl,rfl,by decide+kernel,rfl,by decide+kernel,by decide+kernel⟩
theorem ok_least {tp th:Tok} {f:Addr} {fd:FuncData} (F:Fun K "least_walk" "least_walk" sLeast f fd) (c_within:Cal P w K mg base CX0 2 "is_within" ["thing","least","most"] spWithinG) (c_ring:Cal P w K mg base CX0 2 "ring_in" ["pairs","many"] spRing)
  (c_orders:Cal P w K mg base CX0 2 "all_orders" ["pairs","many"] spOrders) (c_by:Cal P w K mg base CX0 1 "walk_by" ["order","lasts","pairs","hands"] spBy) (T:Txt K mg) (g_MOST_PIECES:mg "MOST_PIECES"=some (.int 6 tp)) (g_MOST_HANDS:mg "MOST_HANDS"=some (.int 3 th)):FnOk P w K mg base CX0 3 f fd ["lasts","pairs","hands"] spLeast:=by
 refine F.ok scLeast (fun vs H Q E h=>?_) (fun cdv A outer s H vs Q E hr h=>?_)
 ·obtain⟨la,p,ls,xs,ps,h,rfl,_⟩:=h
  rfl
 ·have hu20:(A.deeper (envOfC "least_walk" (defScope sLeast) s.heap.objs.size f cdv)).units+20<cLine:=by have:=hu_of2 hr;omega
  have hu2:(A.deeper (envOfC "least_walk" (defScope sLeast) s.heap.objs.size f cdv)).units+10*2+30<cLine:=by have:=hu_of2 hr;omega
  obtain⟨la,p,ls,xs,ps,h,rfl,I,h6',h1,h3,no,qO⟩:=h
  refine⟨_,(pss_cons (ps_if (pt_cmpR op_gt (pe_callB call_len_seq (by rfl) T.len PySem.boot_len (pa_cons (pv 0) pa_nil)) (pe_gint rfl g_MOST_PIECES) (nomark _)) (pss_one (ps_nv (pa_cons (pe_callB call_len_seq (by rfl) T.len PySem.boot_len (pa_cons (pv 0) pa_nil)) pa_nil))) pss_nil) (pss_cons (ps_if (pt_not (pt_val (pe_c c_within (hr.mono (by decide)) rfl pass0 (pa_cons (pv 2) (pa_cons pe_int (pa_cons (pe_gint rfl g_MOST_HANDS) pa_nil)))))) (pss_one (ps_nv (pa_cons (pv 2) pa_nil))) pss_nil) (pss_cons (ps_if (pt_cmpR op_notN (pe_c c_ring (hr.mono (by decide)) rfl pass0 (pa_cons (pv 1) (pa_cons (pe_callB call_len_seq (by rfl) T.len PySem.boot_len (pa_cons (pv 0) pa_nil)) pa_nil))) pe_non (nomark _)) (pss_one (ps_nv (pa_cons pe_str pa_nil))) pss_nil) (pss_cons (ps_set (i:=3) scLeast.nd rfl (Or.inr rfl) (pe_callB (call_sortedT rfl) rfl T.sorted boot_sorted (pa_cons (pe_callTy (call_setT hu20 rfl) rfl T.set boot_set (pa_cons (pv 1) pa_nil)) pa_nil))) (pss_one (ps_ret (pe_callB (call_minP (k:=2) hu2 rfl) rfl T.min boot_min (pa_cons (pe_cp (own:=["order"]) (cap:=[("lasts",0),("hands",2),("unlike",3)]) (g:=gName 0) (defScope sLeast) NLeast rfl rfl (fun x h=>cell_has h) (by decide+kernel) rfl (pi_list (pe_c c_orders (hr.mono (by decide)) rfl pass0 (pa_cons (pv 3) (pa_cons (pe_callB call_len_seq (by rfl) T.len PySem.boot_len (pa_cons (pv 0) pa_nil)) pa_nil)))) (fun cl C s2 H2 fp=>(pg_name (i:=0) (show(["order","lasts","hands","unlike"]:List Str).Nodup by decide+kernel) rfl (Or.inl rfl) (Or.inr rfl))) (fun cl C s2 H2 fp=>(pe_c c_by (hr.mono (by decide)) rfl pass0 (pa_cons (pv 0) (pa_cons (pv 1) (pa_cons (pv 3) (pa_cons (pv 2) pa_nil))))))) pa_nil)))))))),?_⟩
  have ln:V.int (((nats ls).length:Nat):Int)=natV ls.length:=by unfold nats;rw [List.length_map]
  have n60:=I.n
  refine⟨_,rfl,la,_,rfl,.inl (SqL.of I.la),_,_,rfl,rfl,_,rfl,?_⟩
  rw [show(nats ls).length=ls.length by unfold nats;rw [List.length_map]]
  refine iteFe (decide_eq_false (by omega)) ?_
  refine⟨_,rfl,natV h,1,3,rfl,trivial,?_⟩
  rw [show inB (natV h) 1 3=true from decide_eq_true ⟨by omega,by omega⟩]
  refine⟨_,rfl,iteF ?_⟩
  refine⟨_,rfl,_,rfl,la,_,rfl,.inl (SqL.of I.la),p,xs,ls.length,ps,by rw [<-ln];rfl,I.p,I.pp,I.bel,I.n,by have:=I.l;omega,fun H1 s1 nr=>?_,fun r rs H1 s1 hr1 e1 rg=>?_⟩
  ·refine⟨rfl,_,rfl,iteF ?_⟩
   have I1:=I.same s1
   obtain⟨qs,rfl,qk,qt⟩:=prs_keys I1.pp
   have ql:qs.length=ps.length:=by have:=congrArg List.length qk;rw [List.length_map,List.length_map]at this;exact this
   have pl:=I.l
   refine⟨_,rfl,p,qs,rfl,SqL.of I1.p,qt,by omega,fun l zs hl nd sub cov zl=>?_⟩
   generalize g:upd H1 l _=H2
   obtain⟨s2,e2⟩:=new_of hl g
   have zk:∀x∈zs,TKy H2 x/\x.1≠[]:=fun x hx=>by
    refine⟨s2 _ _ (qt x (sub x hx)),fun z=>?_⟩
    have:x.1∈qs.map (·.1):=List.mem_map.mpr ⟨x,sub x hx,rfl⟩
    rw [qk,z]at this
    obtain⟨y,_,e⟩:=List.mem_map.mp this
    cases e
   refine⟨l,zs,rfl,e2,zk,by omega,fun c ys hc py sy=>?_⟩
   generalize g:upd H2 c _=H3
   obtain⟨s3,e3⟩:=new_of hc g
   obtain⟨ps',pp',pk'⟩:=keys_prs (H:=H3) (ys:=ys) fun y hy=>by
    have hz:=py.mem_iff.mp hy
    have:y.1∈qs.map (·.1):=List.mem_map.mpr ⟨y,sub y hz,rfl⟩
    rw [qk]at this
    obtain⟨z,_,e⟩:=List.mem_map.mp this
    exact⟨z,e.symm,s3 _ _ (zk y hz).1⟩
   have mem:∀z,z∈ps'↔z∈ps:=fun z=>by
    have k1:z∈ps'↔pk z∈ys.map (·.1):=by rw [pk',pk_mem]
    have k2:z∈ps↔pk z∈qs.map (·.1):=by rw [qk,pk_mem]
    rw [k1,k2,List.mem_map,List.mem_map]
    constructor
    ·rintro⟨y,hy,e⟩
     exact⟨y,sub y (py.mem_iff.mp hy),e⟩
    ·rintro⟨y,hy,e⟩
     obtain⟨x,hx,ex⟩:=cov y hy
     exact⟨x,py.mem_iff.mpr hx,ex.trans e⟩
   have pl':ps'.length<=1000:=by
    have:=congrArg List.length pk'
    rw [List.length_map,List.length_map]at this
    rw [<-this,py.length_eq]
    omega
   have bel':Below ls.length ps':=fun z hz=>I.bel z ((mem z).mp hz)
   have no':∀S,Nest ls.length ps' S->∀v,¬S v:=fun S N=>no S (nest_mem mem N)
   have s13:=s1.trans (s2.trans s3)
   have I3:=I1.same (s2.trans s3)
   refine⟨_,rfl,_,rfl,la,_,rfl,.inl (SqL.of I3.la),c,ls.length,_,ps',by rw [<-ln];rfl,e3,pp',pl',h6',fun q as H4 s4 hq ol=>?_⟩
   refine⟨q,rfl,⟨_,SqL.of ol.top⟩,fun D hD=>?_⟩
   have alen:=Paired.length ol.at_
   have big:(ords ps' ls.length ls.length).length<=46656:=Nat.le_trans (ords_len ps' _).1 (Nat.le_trans (Nat.pow_le_pow_left h6' _) (Nat.le_trans (Nat.pow_le_pow_right (by decide) h6') (by decide)))
   have I4:=I3.same s4
   refine comp_list (K:=K) (a:=q) (xs:=as.map V.ref) (fun i acc σ H5=>(∃v0,σ=[v0,some (.ref la),some (natV h),some (.ref c)])/\Same H4 H5/\H5 D=some (.lst acc)/\Paired (fun os x=>Itm H4 H5 D (mxN (walk ls ps' h os).ff,(walk ls ps' h os).rw) x) ((ords ps' ls.length ls.length).take i) acc)
    ⟨⟨_,rfl⟩,sameNew hD,upd_same,by rw [List.take_zero];exact .nil⟩ (fun i acc σ H5 _ ⟨_,s5,_⟩=>SqL.of (s5 _ _ ol.top)) ?_ ?_
   ·rintro i x acc σ H5 hi hx ⟨⟨v0,rfl⟩,s5,hD5,it5⟩
    rw [List.getElem?_map]at hx
    obtain⟨b,hb',eb⟩:∃b,as[i]? =some b/\x= .ref b:=by
     cases g:as[i]? with
     |none=>rw [g]at hx;cases hx
     |some b=>rw [g]at hx;cases hx;exact⟨b,rfl,rfl⟩
    subst eb
    obtain⟨os,hos,eos⟩:=Paired.get ol.at_ hb'
    have osm:=List.mem_of_getElem? hos
    have osl:=(ords_len ps' _).2 os osm
    obtain⟨_,fit⟩:=ords_fit _ os osm
    have I5:=I4.same s5
    refine⟨_,rfl,_,rfl,_,rfl,_,rfl,b,la,c,os,ls,_,ps',h,rfl,s5 _ _ eos,I5.la,s5 _ _ (s4 _ _ e3),PrsAt.mono (fun c zs e=>s5 _ _ (s4 _ _ e)) pp',pl',I.n,by omega,by omega,by omega,bel',fit,fun t r bs H6 s6 ht et hr6 ll=>?_⟩
    have il:=Paired.length it5
    have tD:t≠D:=Ne.symm (ne_of_none hD5 ht)
    have rD:r≠D:=Ne.symm (ne_of_none hD5 hr6)
    have bD:∀z∈bs,z≠D:=fun z hz=>Ne.symm (ne_of_none hD5 (ll.new z hz).1)
    rw [List.length_take]at il
    rw [List.length_map]at hi
    have sl:sizeLine=16777216:=sizeLine_eq
    refine cturn (s6 _ _ hD5) (by omega) (by rw [List.length_map];exact hi) ⟨⟨_,rfl⟩,sameUpd hD (s5.trans s6),upd_same,?_⟩
    rw [List.take_succ,hos]
    have kp:∀z o,z≠D->H6 z=some o->upd H6 D (.lst (acc++[V.ref t])) z=some o:=fun z o hz e=>by rw [upd_ne hz];exact e
    refine Paired.app (Paired.mapP it5 fun os x it=>it.keep fun z o hz e=>kp z o hz (s6 _ _ e)) (.cons ⟨t,r,bs,rfl,s5.free ht,kp _ _ tD et,kp _ _ rD ll.top,lists_keep ll.at_ fun z hz o e=>kp z o (bD z hz) e,tD,rD,bD,s5.free hr6,fun z hz=>s5.free (ll.new z hz).1⟩ .nil)
   ·rintro acc σ H5 ⟨_,s5,hD5,it5⟩
    rw [List.length_map,alen,List.take_length]at it5
    have il:=Paired.length it5
    have some_:=ords_some bel' no' ls.length (Nat.le_refl _)
    refine⟨D,acc,(ords ps' ls.length ls.length).map fun os=>((mxN (walk ls ps' h os).ff:Int),dRw (walk ls ps' h os).rw),rfl,SqL.of hD5,?_,fun z=>?_,fun j x m hx hm le=>?_⟩
    ·exact paired_map it5 fun os x it=>it.pd
    ·rw [z]at il
     exact some_ (List.eq_nil_of_length_eq_zero il)
    ·obtain⟨os,hos,it⟩:=Paired.get2 it5 hx
     rw [List.getElem?_map,hos]at hm
     cases hm
     obtain⟨t,r,bs,rfl,hn,et,er,ll,_,_,_,hrn,hbn⟩:=it
     refine qO t os ps' r bs H5 (s13.trans (s4.trans s5)) ⟨s13.free (s4.free hn),s13.free (s4.free hrn),fun b hb=>s13.free (s4.free (hbn b hb)),et,er,ll,mem,List.mem_of_getElem? hos,fun os' ho'=>?_⟩
     have:=le _ (List.mem_map.mpr ⟨os',ho',rfl⟩)
     simpa using this
  ·obtain⟨⟨v,hv⟩,N⟩:=ringNst rg
   exact absurd hv (no _ N v)
def Tf (ts:List Pr):Nat->Option Nat:=fun q=>some ((ts.getD q (0,0)).2)
def Lf (ls:List Nat):Nat->Nat:=fun p=>ls.getD p 0
structure Tm (ps:List Pr) (ls:List Nat) (done:List Nat) (ts:List Pr):Prop where
 len:ts.length=ls.length
 low:∀p∈done,p<ls.length
 pre:∀p∈done,∀q,(p,q)∈ps->q∈done
 sys:∀p∈done,(ts.getD p (0,0)).2=(ts.getD p (0,0)).1+Lf ls p/\IsB ps (Tf ts) p (ts.getD p (0,0)).1
theorem Tm.start {ps:List Pr} {ls:List Nat} {ts:List Pr} (h:ts.length=ls.length):Tm ps ls [] ts:=⟨h,(fun _ h=>nomatch h),(fun _ h=>nomatch h),(fun _ h=>nomatch h)⟩
theorem getD_set_ne {α:Type} {l:List α} {i j:Nat} {a d:α} (h:i≠j):(l.set i a).getD j d=l.getD j d:=by simp [List.getD,List.getElem?_set_ne h]
theorem getD_set_eq {α:Type} {l:List α} {i:Nat} {a d:α} (h:i<l.length):(l.set i a).getD i d=a:=by simp [List.getD,h]
theorem Tm.step {ps:List Pr} {ls:List Nat} {done:List Nat} {ts:List Pr} {p b:Nat} (t:Tm ps ls done ts) (hp:p<ls.length) (nd:p∉done) (pre:∀q,(p,q)∈ps->q∈done) (hb:IsB ps (Tf ts) p b):Tm ps ls (done++[p]) (ts.set p (b,b+Lf ls p)):=by
 have same:∀q,q∈done->(ts.set p (b,b+Lf ls p)).getD q (0,0)=ts.getD q (0,0):=fun q hq=>getD_set_ne fun z=>nd (z▸hq)
 have up:∀{r c},(∀q,(r,q)∈ps->q∈done)->IsB ps (Tf ts) r c->IsB ps (Tf (ts.set p (b,b+Lf ls p))) r c:=fun{r c} pr ⟨h1,h2⟩=>by
  refine⟨fun q m=>?_,h2.imp id fun⟨q,m,z⟩=>⟨q,m,?_⟩⟩
  ·obtain⟨e,e1,e2⟩:=h1 q m
   refine⟨e,?_,e2⟩
   unfold Tf at e1⊢
   rw [same q (pr q m)];exact e1
  ·unfold Tf at z⊢
   rw [same q (pr q m)];exact z
 refine⟨by rw [List.length_set];exact t.len,fun r hr=>?_,fun r hr q m=>?_,fun r hr=>?_⟩
 ·rcases List.mem_append.mp hr with z|z
  ·exact t.low r z
  ·rw [List.mem_singleton.mp z];exact hp
 ·rcases List.mem_append.mp hr with z|z
  ·exact List.mem_append_left _ (t.pre r z q m)
  ·rw [List.mem_singleton.mp z]at m;exact List.mem_append_left _ (pre q m)
 ·rcases List.mem_append.mp hr with z|z
  ·obtain⟨e1,e2⟩:=t.sys r z
   rw [same r z]
   exact⟨e1,up (t.pre r z) e2⟩
  ·rw [List.mem_singleton.mp z,getD_set_eq (by rw [t.len];exact hp)]
   exact⟨rfl,up pre hb⟩
structure Sys (ps:List Pr) (ls:List Nat) (ts:List Pr):Prop where
 len:ts.length=ls.length
 sys:∀p,p<ls.length->(ts.getD p (0,0)).2=(ts.getD p (0,0)).1+Lf ls p/\IsB ps (Tf ts) p (ts.getD p (0,0)).1
def spTimes:Sp:=fun vs H Q _=>∃(la p:Addr) (ls:List Nat) (xs:List V) (ps:List Pr),vs=[.ref la,.ref p]/\H la=some (.lst (nats ls))/\H p=some (.lst xs)/\PrsAt H xs ps/\Below ls.length ps/\ls.length<=60/\ps.length<=1000/\(∀v,¬Reach ps v v)/\
 ∀(q:Addr) (ys:List V) (ts:List Pr) (ws:List (List Nat)) (H':Hp),Same H H'->H q=none->H' q=some (.lst ys)->PrsAt H' ys ts->Sys ps ls ts->WavesOk ps ls.length ws->(∀v,v<ls.length->v∈ws.flatten)->Q (.ref q) H'
theorem comp_newsL {K:W.Frag} {a D:Addr} {xs:List V} {Q:VK} {H:Hp} {σ:L2.St} (hn:xs.length<=1000) (ha:H a=some (.lst xs)) (hσ:∃v0,σ=[v0]) (hD:H D=none)
  (k:∀(as:List Addr) (H3:Hp),Same H H3->NewLL H H3 D as (List.replicate xs.length [])->Q (.ref D) H3):CompW (Itl K a) D (gName 0) (tLst tNil) Q σ (upd H D (.lst [])):=by
 refine comp_list (K:=K) (a:=a) (xs:=xs) (fun i acc σ H2=>(∃v0,σ=[v0])/\Same H H2/\H2 D=some (.lst acc)/\∃as,acc=as.map V.ref/\NewLL H H2 D as (List.replicate i [])) ?_ (fun i acc σ H2 _ ⟨_,s2,_⟩=>SqL.of (s2 _ _ ha)) ?_ ?_
 ·exact⟨hσ,sameNew hD,upd_same,[],rfl,⟨upd_same,List.nodup_nil,(fun _ h=>nomatch h),.nil⟩⟩
 ·rintro i x acc σ H2 hi hx ⟨⟨v0,rfl⟩,s2,hD2,as,rfl,ll⟩
  refine⟨by show 0<=sizeLine;decide,fun b hb=>?_⟩
  have s3:Same H2 (upd H2 b (.lst [])):=sameNew hb
  have bD:b≠D:=Ne.symm (ne_of_none hD2 hb)
  have hal:as.length=i:=by rw [ll.len,List.length_replicate]
  refine cturn (s3 _ _ hD2) (small (by rw [List.length_map];omega)) hi ⟨⟨_,rfl⟩,sameUpd hD (s2.trans s3),upd_same,as++[b],by rw [List.map_append];rfl,?_⟩
  have bas:b∉as:=fun m=>by
   obtain⟨j,hj⟩:=List.mem_iff_getElem?.mp m
   obtain⟨l,_,e⟩:=Paired.get ll.at_ hj
   rw [hb]at e;cases e
  refine⟨by rw [upd_same,List.map_append];rfl,?_,fun c hc=>?_,?_⟩
  ·rw [List.nodup_append]
   exact⟨ll.nd,by simp,fun a ha b' hb' z=>bas (by rw [List.mem_singleton.mp hb']at z;exact z▸ha)⟩
  ·rcases List.mem_append.mp hc with z|z
   ·exact ll.new c z
   ·rw [List.mem_singleton.mp z];exact⟨s2.free hb,bD⟩
  ·rw [List.replicate_succ']
   refine Paired.snoc' ?_ ?_
   ·refine listsAt_of ll.len fun j c m g1 g2=>?_
    obtain⟨c',e1,e2⟩:=listsAt_get ll.at_ g2
    rw [g1]at e1
    cases e1
    rw [upd_ne (ll.new c (List.mem_of_getElem? g1)).2]
    exact s3 _ _ e2
   ·show upd (upd H2 b (.lst [])) D _ b=_
    rw [upd_ne bD,upd_same];rfl
 ·rintro acc σ H2 ⟨_,s2,hD2,as,rfl,ll⟩
  exact k as H2 s2 ll
theorem perm_lt {l:List Nat} {n:Nat} (p:l.Perm (List.range n)):∀k∈l,k<n:=fun k hk=>List.mem_range.mp (p.mem_iff.mp hk)
theorem rowPs_mem {rs:List (List Nat)} {n:Nat} (h:∀k∈rs.flatten,k<n):Below n (rowPs rs):=by
 intro p hp
 obtain⟨r,hr,hp⟩:=List.mem_flatMap.mp hp
 have h1:=List.of_mem_zip hp
 exact⟨h _ (List.mem_flatten.mpr ⟨r,hr,List.mem_of_mem_drop h1.1⟩),h _ (List.mem_flatten.mpr ⟨r,hr,h1.2⟩)⟩
end
end KB
namespace KB
open L2 G4
theorem rowPs_iff {rs:List (List Nat)} {p q:Nat}:(p,q)∈rowPs rs↔ ∃(i j:Nat) (row:List Nat),rs[i]? =some row/\row[j+1]? =some p/\row[j]? =some q:=by
 unfold rowPs
 rw [List.mem_flatMap]
 constructor
 ·rintro⟨row,hr,hm⟩
  obtain⟨i,hi⟩:=List.mem_iff_getElem?.mp hr
  obtain⟨j,hj⟩:=List.mem_iff_getElem?.mp hm
  obtain⟨h1,h2⟩:=List.getElem?_zip_eq_some.mp hj
  rw [List.getElem?_drop]at h1
  exact⟨i,j,row,hi,by rw [Nat.add_comm];exact h1,h2⟩
 ·rintro⟨i,j,row,hi,h1,h2⟩
  refine⟨row,List.mem_of_getElem? hi,List.mem_iff_getElem?.mpr ⟨j,List.getElem?_zip_eq_some.mpr ⟨?_,h2⟩⟩⟩
  rw [List.getElem?_drop,Nat.add_comm];exact h1
theorem place_one:∀{rs:List (List Nat)},rs.flatten.Nodup->∀{i i' j j' p:Nat} {row row':List Nat},rs[i]? =some row->rs[i']? =some row'->row[j]? =some p->row'[j']? =some p->i=i'/\j=j'
 | [],_,i,_,_,_,_,_,_,h,_,_,_=>by simp at h
 |r::rs,hn,i,i',j,j',p,row,row',h1,h2,h3,h4=>by
  rw [List.flatten_cons]at hn
  obtain⟨n1,n2,dis⟩:=List.nodup_append.mp hn
  cases i with
  |zero=>
   have e:r=row:=by simpa using h1
   subst e
   cases i' with
   |zero=>
    have e:r=row':=by simpa using h2
    subst e
    obtain⟨a1,b1⟩:=List.getElem?_eq_some_iff.mp h3
    obtain⟨a2,b2⟩:=List.getElem?_eq_some_iff.mp h4
    exact⟨rfl,(List.getElem_inj n1).mp (b1.trans b2.symm)⟩
   |succ i'=>
    exact absurd rfl (dis p (List.mem_of_getElem? h3) p (List.mem_flatten.mpr ⟨row',List.mem_of_getElem? (show rs[i']? =some row' by simpa using h2),List.mem_of_getElem? h4⟩))
  |succ i=>
   cases i' with
   |zero=>
    have e:r=row':=by simpa using h2
    subst e
    exact absurd rfl (dis p (List.mem_of_getElem? h4) p (List.mem_flatten.mpr ⟨row,List.mem_of_getElem? (show rs[i]? =some row by simpa using h1),List.mem_of_getElem? h3⟩))
   |succ i'=>
    obtain⟨e1,e2⟩:=place_one n2 (i:=i) (i':=i') (by simpa using h1) (by simpa using h2) h3 h4
    exact⟨by rw [e1],e2⟩
structure Cur (rs:List (List Nat)) (ats:List Nat) (E:Nat->Option Nat):Prop where
 len:ats.length=rs.length
 le:∀(h:Nat) row k,rs[h]? =some row->ats[h]? =some k->k<=row.length
 beg:∀(h:Nat) row k,rs[h]? =some row->ats[h]? =some k->∀(j:Nat) p,row[j]? =some p->(E p≠none↔j<k)
structure HSt (n:Nat) (G:List Pr) (L:Nat->Nat) (E:Nat->Option Nat) (t:Nat) (rs:List (List Nat)) (h:Nat) (A ats:List Nat):Prop where
 cur:Cur rs ats (begun L E t A)
 inA:∀p∈A,p<n/\E p=none/\Rdy G E t p/\∃(i:Nat) (row:List Nat),i<h/\rs[i]? =some row/\p∈row
 all:∀(i:Nat) (row:List Nat) (p:Nat),i<h->rs[i]? =some row->p∈row->E p=none->Rdy G E t p->p∈A
section
variable {n:Nat} {ps:List Pr} {L:Nat->Nat} {E:Nat->Option Nat} {t h k pc:Nat} {rs:List (List Nat)} {A ats row:List Nat}
theorem begun_nil:begun L E t []=E:=by
 funext p
 unfold begun
 cases E p<;>simp
theorem HSt.start {G:List Pr} (c:Cur rs ats E):HSt n G L E t rs 0 [] ats:=⟨by rw [begun_nil];exact c,(fun _ h=>nomatch h),fun i _ _ h=>absurd h (Nat.not_lt_zero i)⟩
theorem HSt.next {G:List Pr} (hs:HSt n G L E t rs h A ats) (nd:rs.flatten.Nodup) (h1:rs[h]? =some row) (h2:ats[h]? =some k) {j p:Nat} (hj:k<=j) (h3:row[j]? =some p):begun L E t A p=none/\E p=none/\p∉A:=by
 have b:begun L E t A p=none:=by
  cases g:begun L E t A p with
  |none=>rfl
  |some e=>exact absurd ((hs.cur.beg h row k h1 h2 j p h3).mp (by rw [g];exact fun z=>nomatch z)) (by omega)
 have e0:E p=none:=by
  cases g:E p with
  |none=>rfl
  |some e=>rw [begun_old g]at b;cases b
 exact⟨b,e0,fun m=>by rw [begun_new e0 m]at b;cases b⟩
theorem HSt.ready (hL:∀p,0<L p) (hs:HSt n (ps++rowPs rs) L E t rs h A ats) (nd:rs.flatten.Nodup) (h1:rs[h]? =some row) (h2:ats[h]? =some k) (h3:row[k]? =some pc):
  Rdy (ps++rowPs rs) E t pc↔Rdy ps (begun L E t A) t pc/\(k=0∨∃q e,row[k-1]? =some q/\begun L E t A q=some e/\e<=t):=by
 rw [<-rdy_begun (A:=A) hL]
 constructor
 ·intro r
  refine⟨fun q m=>r q (List.mem_append_left _ m),?_⟩
  by_cases hk:k=0
  ·exact .inl hk
  ·right
   have hkl:k-1<row.length:=by have:=(List.getElem?_eq_some_iff.mp h3).1;omega
   have hq:row[k-1]? =some row[k-1]:=List.getElem?_eq_getElem hkl
   obtain⟨e,e1,e2⟩:=r row[k-1] (List.mem_append_right _ (rowPs_iff.mpr ⟨h,k-1,row,h1,by rw [show k-1+1=k by omega];exact h3,hq⟩))
   exact⟨_,e,hq,e1,e2⟩
 ·rintro⟨r,o⟩ q m
  rcases List.mem_append.mp m with m|m
  ·exact r q m
  ·obtain⟨i,j,row',g1,g2,g3⟩:=rowPs_iff.mp m
   obtain⟨e1,e2⟩:=place_one nd g1 h1 g2 h3
   subst e1
   rw [h1]at g1
   cases g1
   rcases o with z|⟨q',e,z1,z2,z3⟩
   ·omega
   ·rw [show k-1=j by omega,g3]at z1
    cases z1
    exact⟨e,z2,z3⟩
theorem HSt.go {G:List Pr} (hs:HSt n G L E t rs h A ats) (nd:rs.flatten.Nodup) (low:∀p∈rs.flatten,p<n) (hG:∀p q,(p,q)∈rowPs rs->(p,q)∈G) (h1:rs[h]? =some row) (h2:ats[h]? =some k) (h3:row[k]? =some pc) (r:Rdy G E t pc):HSt n G L E t rs (h+1) (A++[pc]) (ats.set h (k+1)):=by
 obtain⟨b0,e0,na⟩:=hs.next nd h1 h2 (Nat.le_refl k) h3
 have hh:h<ats.length:=(List.getElem?_eq_some_iff.mp h2).1
 have hb:∀p,begun L E t (A++[pc]) p≠none↔begun L E t A p≠none∨p=pc:=fun p=>by
  cases g:E p with
  |some e=>rw [begun_old g,begun_old g];simp
  |none=>
   by_cases m:p∈A
   ·rw [begun_new g m,begun_new g (List.mem_append_left _ m)];simp
   ·by_cases z:p=pc
    ·rw [begun_new g (by rw [z];simp)];simp [z]
    ·rw [begun_not g m,begun_not g (by simp [m,z])];simp [z]
 refine⟨⟨by rw [List.length_set];exact hs.cur.len,fun i row' k' g1 g2=>?_,fun i row' k' g1 g2 j p g3=>?_⟩,fun p hp=>?_,fun i row' p hi g1 g2 g3 g4=>?_⟩
 ·by_cases z:h=i
  ·subst z
   rw [List.getElem?_set_self hh]at g2
   rw [h1]at g1
   cases g1;cases g2
   exact(List.getElem?_eq_some_iff.mp h3).1
  ·rw [List.getElem?_set_ne z]at g2
   exact hs.cur.le i row' k' g1 g2
 ·rw [hb]
  by_cases z:h=i
  ·subst z
   rw [List.getElem?_set_self hh]at g2
   rw [h1]at g1
   cases g1;cases g2
   rw [hs.cur.beg h row k h1 h2 j p g3]
   constructor
   ·rintro(l|l)
    ·omega
    ·subst l
     have:=(place_one nd h1 h1 g3 h3).2
     omega
   ·intro l
    by_cases y:j=k
    ·subst y
     rw [h3]at g3
     cases g3
     exact .inr rfl
    ·exact .inl (by omega)
  ·rw [List.getElem?_set_ne z]at g2
   rw [hs.cur.beg i row' k' g1 g2 j p g3]
   constructor
   ·rintro(l|l)
    ·exact l
    ·subst l
     exact absurd (place_one nd h1 g1 h3 g3).1 z
   ·exact .inl
 ·rcases List.mem_append.mp hp with m|m
  ·obtain⟨x1,x2,x3,i,row',x4,x5⟩:=hs.inA p m
   exact⟨x1,x2,x3,i,row',by omega,x5⟩
  ·rw [List.mem_singleton.mp m]
   exact⟨low pc (List.mem_flatten.mpr ⟨row,List.mem_of_getElem? h1,List.mem_of_getElem? h3⟩),e0,r,h,row,by omega,h1,List.mem_of_getElem? h3⟩
 ·by_cases z:i<h
  ·exact List.mem_append_left _ (hs.all i row' p z g1 g2 g3 g4)
  ·have:i=h:=by omega
   subst this
   rw [h1]at g1
   cases g1
   obtain⟨j,hj⟩:=List.mem_iff_getElem?.mp g2
   rcases Nat.lt_trichotomy j k with l|l|l
   ·have:=(hs.cur.beg i row k h1 h2 j p hj).mpr l
    by_cases m:p∈A
    ·exact List.mem_append_left _ m
    ·rw [begun_not g3 m]at this;exact absurd rfl this
   ·subst l
    rw [h3]at hj
    cases hj
    simp
   ·have hjl:j-1<row.length:=by have:=(List.getElem?_eq_some_iff.mp hj).1;omega
    have hq:row[j-1]? =some row[j-1]:=List.getElem?_eq_getElem hjl
    obtain⟨e,e1,_⟩:=g4 _ (hG _ _ (rowPs_iff.mpr ⟨i,j-1,row,h1,by rw [show j-1+1=j by omega];exact hj,hq⟩))
    have:=(hs.next nd h1 h2 (show k<=j-1 by omega) hq).2.1
    rw [this]at e1
    cases e1
theorem HSt.skip {G:List Pr} (hs:HSt n G L E t rs h A ats) (nd:rs.flatten.Nodup) (hG:∀p q,(p,q)∈rowPs rs->(p,q)∈G) (h1:rs[h]? =some row) (h2:ats[h]? =some k) (no:∀p,row[k]? =some p->¬Rdy G E t p):HSt n G L E t rs (h+1) A ats:=by
 refine⟨hs.cur,fun p hp=>?_,fun i row' p hi g1 g2 g3 g4=>?_⟩
 ·obtain⟨x1,x2,x3,i,row',x4,x5⟩:=hs.inA p hp
  exact⟨x1,x2,x3,i,row',by omega,x5⟩
 ·by_cases z:i<h
  ·exact hs.all i row' p z g1 g2 g3 g4
  ·have:i=h:=by omega
   subst this
   rw [h1]at g1
   cases g1
   obtain⟨j,hj⟩:=List.mem_iff_getElem?.mp g2
   rcases Nat.lt_trichotomy j k with l|l|l
   ·have:=(hs.cur.beg i row k h1 h2 j p hj).mpr l
    by_cases m:p∈A
    ·exact m
    ·rw [begun_not g3 m]at this;exact absurd rfl this
   ·subst l
    exact absurd g4 (no p hj)
   ·have hjl:j-1<row.length:=by have:=(List.getElem?_eq_some_iff.mp hj).1;omega
    have hq:row[j-1]? =some row[j-1]:=List.getElem?_eq_getElem hjl
    obtain⟨e,e1,_⟩:=g4 _ (hG _ _ (rowPs_iff.mpr ⟨i,j-1,row,h1,by rw [show j-1+1=j by omega];exact hj,hq⟩))
    have:=(hs.next nd h1 h2 (show k<=j-1 by omega) hq).2.1
    rw [this]at e1
    cases e1
theorem HSt.end {G:List Pr} (hs:HSt n G L E t rs rs.length A ats) (cov:∀p,p<n->p∈rs.flatten):(∀p∈A,p<n/\Rdy G E t p)/\∀p,p<n->E p=none->Rdy G E t p->p∈A:=by
 refine⟨fun p hp=>let⟨x1,_,x3,_⟩:=hs.inA p hp;⟨x1,x3⟩,fun p hp e r=>?_⟩
 obtain⟨row,hr,hm⟩:=List.mem_flatten.mp (cov p hp)
 obtain⟨i,hi⟩:=List.mem_iff_getElem?.mp hr
 exact hs.all i row p (List.getElem?_eq_some_iff.mp hi).1 hi hm e r
end
end KB
namespace KB
open L2 G4
def notYet (E:Nat->Option Nat) (t p:Nat):Bool:=match E p with|some e=>decide (t<e)|none=>true
def left (n:Nat) (E:Nat->Option Nat) (t:Nat):Nat:=(List.range n).countP (notYet E t)
theorem countP_less {P Q:Nat->Bool}:∀{l:List Nat},(∀x∈l,Q x=true->P x=true)->(∃x∈l,P x=true/\Q x=false)->l.countP Q<l.countP P
 | [],_,h=>by obtain⟨x,hx,_⟩:=h;cases hx
 |a::l,i,h=>by
  have il:∀x∈l,Q x=true->P x=true:=fun x hx=>i x (List.mem_cons_of_mem _ hx)
  have le:l.countP Q<=l.countP P:=List.countP_mono_left il
  rw [List.countP_cons,List.countP_cons]
  obtain⟨x,hx,h1,h2⟩:=h
  rcases List.mem_cons.mp hx with e|hx
  ·subst e
   rw [h1,h2]
   simp
   omega
  ·have lt:=countP_less il ⟨x,hx,h1,h2⟩
   have ia:=i a List.mem_cons_self
   cases hq:Q a with
   |false=>simp;omega
   |true=>rw [ia hq];simp;omega
theorem left_less {n:Nat} {L:Nat->Nat} {E:Nat->Option Nat} {t t2:Nat} {A:List Nat} (l:t<t2) {p:Nat} (hp:p<n) (h:begun L E t A p=some t2):left n (begun L E t A) t2<left n E t:=by
 refine countP_less (fun x _ hx=>?_) ⟨p,List.mem_range.mpr hp,?_,?_⟩
 ·unfold notYet at hx⊢
  cases g:E x with
  |none=>rfl
  |some e=>
   rw [begun_old g]at hx
   have:=of_decide_eq_true hx
   exact decide_eq_true (by omega)
 ·unfold notYet
  rcases begun_cases h with g|⟨g,_,_⟩
  ·rw [g];exact decide_eq_true l
  ·rw [g]
 ·unfold notYet
  rw [h]
  exact decide_eq_false (Nat.lt_irrefl _)
theorem reach_head {G:List Pr} {x v:Nat} (h:Reach G x v):∃q,(x,q)∈G/\(q=v∨Reach G q v):=by
 induction h with
 |one m=>exact⟨_,m,.inl rfl⟩
 |step _ m ih=>
  obtain⟨q,h1,h2⟩:=ih
  refine⟨q,h1,.inr ?_⟩
  rcases h2 with e|e
  ·subst e;exact .one m
  ·exact .step e m
theorem ring_nest {G:List Pr} {n:Nat} {v:Nat} (hb:Below n G) (h:Reach G v v):∃S:Nat->Prop,S v/\(∀x,S x->x<n)/\∀x,S x->∃q,(x,q)∈G/\S q:=by
 refine⟨fun x=>Reach G v x/\Reach G x v,⟨h,h⟩,fun x hx=>?_,fun x hx=>?_⟩
 ·obtain⟨q,m,_⟩:=reach_head hx.2
  exact(hb _ m).1
 ·obtain⟨q,m,o⟩:=reach_head hx.2
  refine⟨q,m,.step hx.1 m,?_⟩
  rcases o with e|e
  ·subst e;exact h
  ·exact e
end KB
namespace KB
open PySem PyProof.Rows L2 G4
section
variable {P:Program} {w:World} {K:W.Frag} {mg:Str->Option Value} {base:Heap}
def spTape:Sp:=fun vs H Q _=>∃c:Int,vs=[.int c]/\∀(p:Addr) (H':Hp),Same H H'->H p=none->WellAt H' p->Q (.ref p) H'
def spDraw:Sp:=fun vs H Q _=>∃(a:Addr) (m:Int),vs=[.ref a,.int m]/\WellAt H a/\0<m/\m<1073741824/\∀(n:Nat) (H':Hp),(n:Int)<m->Kp a H H'->WellAt H' a->Q (natV n) H'
theorem modb (x:Int): -(2 ^ 64)<x % 2147483647/\x % 2147483647<2 ^ 64:=by
 have h1:=Int.emod_nonneg x (show(2147483647:Int)≠0 by decide)
 have h2:=Int.emod_lt_of_pos x (show(0:Int)<2147483647 by decide)
 omega
theorem scTape:FnScope ["_law_cell"] ["_law_cell"] (defScope sTape):=⟨rfl,rfl,rfl,by decide+kernel,rfl,by decide+kernel,by decide+kernel⟩
theorem ok_tape {f:Addr} {fd:FuncData} (F:Fun K "_law_tape" "_law_tape" sTape f fd) (T:Txt K mg):FnOk P w K mg base CX0 1 f fd ["_law_cell"] spTape:=by
 refine F.ok scTape (fun vs H Q E h=>?_) (fun cdv A outer s H vs Q E hr h=>?_)
 ·obtain⟨c,rfl,_⟩:=h
  rfl
 ·obtain⟨c,rfl,q⟩:=h
  refine⟨_,(pss_one (ps_ret (pe_lst (pa_cons (pe_op op_mod (pv 0) pe_int) (pa_cons (pe_op op_mul (pe_callTy call_int1 rfl T.int boot_int (pa_cons (pe_cmpR op_ge (pv 0) (pe_op op_pow pe_int pe_int) (nomark _)) pa_nil)) (pv 0)) (pa_cons pe_int pa_nil)))))),?_⟩
  refine⟨_,rfl,_,_,rfl,rfl,(by show(0:Int)<2147483647;decide),?_⟩
  refine⟨_,rfl,_,_,rfl,rfl,⟨by decide,by decide,by decide⟩,_,_,rfl,rfl,.inr ⟨_,rfl,?_⟩⟩
  refine⟨_,rfl,_,_,rfl,rfl,.inl ⟨?_,?_⟩,by show 3<=sizeLine;decide,fun p hp=>q p _ (sameNew hp) hp ⟨_,_,_,upd_same⟩⟩
  ·split<;>decide
  ·split<;>decide
theorem scDraw:FnScope ["_law_tape_here","_law_many","_law_number"] ["_law_tape_here","_law_many"] (defScope sDraw):=⟨rfl,rfl,rfl,by decide+kernel,rfl,by decide+kernel,by decide+kernel⟩
theorem ok_draw {f:Addr} {fd:FuncData} (F:Fun K "_law_draw" "_law_draw" sDraw f fd):FnOk P w K mg base CX0 1 f fd ["_law_tape_here","_law_many"] spDraw:=by
 refine F.ok scDraw (fun vs H Q E h=>?_) (fun cdv A outer s H vs Q E hr h=>?_)
 ·obtain⟨a,m,rfl,_⟩:=h
  rfl
 ·obtain⟨a,m,rfl,⟨x,y,z,ha⟩,hm,hm2,k⟩:=h
  have fin:∀(t:Int) (H':Hp),Kp a H H'->WellAt H' a->Q (.int (t % m)) H':=fun t H' kp w'=>by
   have h1:=Int.emod_nonneg t (show m≠0 by omega)
   have h2:=Int.emod_lt_of_pos t hm
   have:=k (t % m).toNat H' (by omega) kp w'
   rw [show natV (t % m).toNat=V.int (t % m) by show V.int _=_;congr 1;omega]at this
   exact this
  refine⟨_,(pss_cons (ps_if (pt_cmpR op_gt (pe_ix ix_list (pv 0) pe_int (fun _ _=>rfl)) pe_int (nomark _)) (pss_cons (ps_set (i:=2) scDraw.nd rfl (Or.inl rfl) (pe_op op_mod (pe_ix ix_list (pv 0) pe_int (fun _ _=>rfl)) (pv 1))) (pss_cons (ps_asg (pe_op op_fdiv (pe_ix ix_list (pv 0) pe_int (fun _ _=>rfl)) (pv 1)) (pg_sub (pv 0) pe_int set_list)) (pss_one (ps_ret (pv 2))))) pss_nil) (pss_cons (ps_asg (pe_op op_add (pe_ix ix_list (pv 0) pe_int (fun _ _=>rfl)) pe_int) (pg_sub (pv 0) pe_int set_list)) (pss_cons (ps_set (i:=2) scDraw.nd rfl (Or.inl rfl) (pe_op op_mod (pe_op op_mul (pe_op op_add (pe_op op_add (pe_ix ix_list (pv 0) pe_int (fun _ _=>rfl)) (pe_op op_mul pe_int (pe_ix ix_list (pv 0) pe_int (fun _ _=>rfl)))) pe_int) pe_int) pe_int)) (pss_cons (ps_set (i:=2) scDraw.nd rfl (Or.inl rfl) (pe_op op_mod (pe_op op_mul (pv 2) (pe_op op_add (pe_op op_fdiv (pv 2) pe_int) pe_int)) pe_int)) (pss_one (ps_ret (pe_op op_mod (pe_op op_mod (pe_op op_mul (pv 2) (pe_op op_add (pe_op op_fdiv (pv 2) pe_int) pe_int)) pe_int) (pv 1)))))))),?_⟩
  refine⟨_,rfl,a,_,_,_,rfl,rfl,SqL.of ha,rfl,_,_,rfl,rfl,_,rfl,?_⟩
  refine ite2 (fun _=>?_) (fun _=>?_)
  ·refine⟨_,rfl,a,_,_,_,rfl,rfl,SqL.of ha,rfl,_,rfl,_,_,rfl,rfl,hm,?_⟩
   refine⟨_,rfl,a,_,_,_,rfl,rfl,SqL.of ha,rfl,_,rfl,_,_,rfl,rfl,⟨hm,hm2⟩,?_⟩
   refine⟨_,rfl,a,_,_,1,rfl,rfl,ha,rfl,?_⟩
   exact⟨_,rfl,fin _ _ kpUpd ⟨_,_,_,upd_same⟩⟩
  ·refine⟨_,rfl,a,_,_,_,rfl,rfl,SqL.of ha,rfl,_,_,rfl,rfl,?_⟩
   refine⟨_,rfl,a,_,_,2,rfl,rfl,ha,rfl,?_⟩
   have hb:(upd H a (.lst ([V.int x,V.int y,V.int z].set 2 (.int (z+1))))) a=some (.lst [.int x,.int y,.int (z+1)]):=upd_same
   refine⟨_,rfl,a,_,_,_,rfl,rfl,SqL.of hb,rfl,_,rfl,a,_,_,_,rfl,rfl,SqL.of hb,rfl,_,_,rfl,rfl,.inl ⟨by decide,by decide⟩,_,_,rfl,rfl,_,_,rfl,rfl,_,_,rfl,rfl,.inr ⟨by decide,by decide⟩,_,_,rfl,rfl,(by show(0:Int)<2147483647;decide),?_⟩
   refine⟨_,rfl,_,rfl,_,_,rfl,rfl,⟨by decide,by decide⟩,_,_,rfl,rfl,_,_,rfl,rfl,.inl (modb _),_,_,rfl,rfl,(by show(0:Int)<2147483647;decide),?_⟩
   refine⟨_,rfl,_,rfl,_,_,rfl,rfl,⟨by decide,by decide⟩,_,_,rfl,rfl,_,_,rfl,rfl,.inl (modb _),_,_,rfl,rfl,(by show(0:Int)<2147483399;decide),_,rfl,_,_,rfl,rfl,hm,?_⟩
   exact fin _ _ kpUpd ⟨_,_,_,upd_same⟩
structure Tms (H:Hp) (d:Addr) (n:Nat) (ks:List Nat) (E:Nat->Option Nat) (kvs:List (Key×V)) (f:Nat->Option V):Prop where
 at_:H d=some (.dK kvs)
 dn:DNat n kvs ks f
 tup:∀p v,f p=some v->∃(t:Addr) (b e:Nat),v= .ref t/\H t=some (.tup [natV b,natV e])/\E p=some e
 non:∀p,f p=none->E p=none
theorem Tms.get {H:Hp} {d:Addr} {n:Nat} {ks:List Nat} {E:Nat->Option Nat} {kvs:List (Key×V)} {f:Nat->Option V} (h:Tms H d n ks E kvs f) {p e:Nat} (he:E p=some e):∃(t:Addr) (b:Nat),f p=some (.ref t)/\H t=some (.tup [natV b,natV e]):=by
 cases g:f p with
 |none=>rw [h.non p g]at he;cases he
 |some v=>
  obtain⟨t,b,e',rfl,ht,hE⟩:=h.tup p v g
  rw [he]at hE
  cases hE
  exact⟨t,b,rfl,ht⟩
theorem Tms.same {H H':Hp} {d:Addr} {n:Nat} {ks:List Nat} {E:Nat->Option Nat} {kvs:List (Key×V)} {f:Nat->Option V} (h:Tms H d n ks E kvs f) (s:Same H H'):Tms H' d n ks E kvs f:=
 ⟨s _ _ h.at_,h.dn,fun p v g=>let⟨t,b,e,x,y,z⟩:=h.tup p v g;⟨t,b,e,x,s _ _ y,z⟩,h.non⟩
theorem Tms.dget {H:Hp} {d:Addr} {n:Nat} {ks:List Nat} {E:Nat->Option Nat} {kvs:List (Key×V)} {f:Nat->Option V} (h:Tms H d n ks E kvs f) (p:Nat):DGet H d (natV p) (f p):=
 .inl ⟨kvs,Sum.inl (p:Int),.inl h.at_,rfl,(h.dn.val p).symm⟩
abbrev NClock:List Str:=["_law_lasts","_law_pairs","_law_rows_here","_law_at","_law_times","_law_now","_law_hand","_law_row","_law_free","_law_piece"]
theorem scClock:FnScope ["_law_lasts","_law_pairs","_law_rows_here","_law_at","_law_times","_law_now","_law_hand","_law_row","_law_free","_law_piece"] ["_law_lasts","_law_pairs","_law_rows_here"] (defScope sClock):=⟨rfl,rfl,rfl,by decide+kernel,rfl,by decide+kernel,by decide+kernel⟩
abbrev XClock (P:Program) (w:World) (K:W.Frag) (mg:Str->Option Value) (base:Heap) (f:Addr) (cdv:Value) (A:Around) (outer:List Env) (s:Shared) (H:Hp) (E:XK):Cx:=(cxOf CX0 P w K mg base NClock "_law_clock" (defScope sClock) f cdv A outer s H E).nox
abbrev bHand:List Stmt:=loopBody ((loopBody ((defBody sClock).getD 3 (.Pass ⟨0,0,0,0⟩))).getD 0 (.Pass ⟨0,0,0,0⟩))
abbrev bGo:List Stmt:=loopBody (bHand.getD 1 (.Pass ⟨0,0,0,0⟩))
abbrev bSt:List Stmt:=loopBody (bGo.getD 1 (.Pass ⟨0,0,0,0⟩))
theorem clock_start {f:Addr} {cdv:Value} {A:Around} {outer:List Env} {s:Shared} {H:Hp} {E:XK} (hu:(XClock P w K mg base f cdv A outer s H E).A.units+1<cLine) (T:Txt K mg):
  ∃t,PSs (XClock P w K mg base f cdv A outer s H E) bSt t/\
  ∀(De:Ends) (la p r at_ d:Addr) (tt hd pc n:Nat) (v7 v8:Option V) (ls ats ks:List Nat) (EE:Nat->Option Nat) (kvs:List (Key×V)) (g:Nat->Option V) (H2:Hp),H2 la=some (.lst (nats ls))->pc<ls.length->n=ls.length->H2 at_=some (.lst (nats ats))->hd<ats.length->Tms H2 d n ks EE kvs g->EE pc=none->at_≠d->n<=60->
   (∀(ks':List Nat) (kvs':List (Key×V)) (g':Nat->Option V) (H3:Hp),(∀b o,H2 b=some o->b≠d->b≠at_->H3 b=some o)->H3 at_=some (.lst (nats (ats.set hd (ats.getD hd 0+1))))->Tms H3 d n ks' (fun x=>if x=pc then some (tt+Lf ls pc)else EE x) kvs' g'->
    De.nx [some (.ref la),some (.ref p),some (.ref r),some (.ref at_),some (.ref d),some (natV tt),some (natV hd),v7,v8,some (natV pc)] H3)->
   t De [some (.ref la),some (.ref p),some (.ref r),some (.ref at_),some (.ref d),some (natV tt),some (natV hd),v7,v8,some (natV pc)] H2:=by
 refine⟨_,(pss_cons (ps_dput hu (pv 4) (pv 9) (pe_tup (pa_cons (pv 5) (pa_cons (pe_op op_add (pv 5) (pe_ix ix_list (pv 0) (pv 9) (fun _ _=>rfl))) pa_nil))) rfl) (pss_one (ps_asg (pe_op op_add (pe_ix ix_list (pv 3) (pv 6) (fun _ _=>rfl)) pe_int) (pg_sub (pv 3) (pv 6) set_list)))),?_⟩
 intro De la p r at_ d tt hd pc n v7 v8 ls ats ks EE kvs g H2 hla hpc hn hat hhd tm he had hn6 q
 have hlp:(nats ls)[pc]? =some (natV (Lf ls pc)):=by unfold nats Lf;rw [List.getElem?_map,List.getElem?_eq_getElem hpc];simp [List.getD,hpc]
 refine⟨_,rfl,_,rfl,_,rfl,_,rfl,la,_,_,_,rfl,rfl,SqL.of hla,atI_nat hlp,_,_,rfl,rfl,by show 2<=sizeLine;decide,fun t ht=>?_⟩
 have hgn:g pc=none:=by
  cases z:g pc with
  |none=>rfl
  |some v=>obtain⟨_,_,e,_,_,x⟩:=tm.tup pc v z;rw [he]at x;cases x
 have s3:Same H2 (upd H2 t (.tup [natV tt,.int ((tt:Int)+(Lf ls pc:Nat))])):=sameNew ht
 have t3:upd H2 t (.tup [natV tt,.int ((tt:Int)+(Lf ls pc:Nat))]) t=some (.tup [natV tt,natV (tt+Lf ls pc)]):=by rw [upd_same];rfl
 generalize upd H2 t (.tup [natV tt,.int ((tt:Int)+(Lf ls pc:Nat))])=H3 at s3 t3
 have tm3:=tm.same s3
 have kl:=tm.dn.len
 refine⟨_,rfl,_,rfl,d,_,rfl,DPut.k (k:=Sum.inl (pc:Int)) tm3.at_ (small (by omega)),?_⟩
 obtain⟨ks',dn',_⟩:=tm3.dn.new (show pc<n by omega) (.ref t) hgn
 have tdn:t≠d:=ne_of t3 tm3.at_ (by intro z;cases z)
 have hat4:upd H3 d (.dK (putK kvs (Sum.inl (pc:Int)) (.ref t))) at_=some (.lst (nats ats)):=by rw [upd_ne had];exact s3 _ _ hat
 have hk:(nats ats)[hd]? =some (natV (ats.getD hd 0)):=by unfold nats;rw [List.getElem?_map,List.getElem?_eq_getElem hhd];simp [List.getD,hhd]
 have e5:(nats ats).set hd (V.int (((ats.getD hd 0:Nat):Int)+1))=nats (ats.set hd (ats.getD hd 0+1)):=by
  unfold nats
  rw [List.map_set]
  rfl
 refine⟨_,rfl,_,rfl,at_,_,_,_,rfl,rfl,SqL.of hat4,atI_nat hk,_,_,rfl,rfl,?_⟩
 refine⟨_,rfl,_,rfl,at_,_,_,hd,rfl,rfl,hat4,by unfold nats;rw [List.length_map];exact ix_nat hhd,?_⟩
 rw [e5]
 have kt:∀c us,H3 c=some (.tup us)->upd (upd H3 d (.dK (putK kvs (Sum.inl (pc:Int)) (.ref t)))) at_ (.lst (nats (ats.set hd (ats.getD hd 0+1)))) c=some (.tup us):=fun c us e=>by
  have n1:c≠at_:=ne_of e (s3 _ _ hat) (by intro z;cases z)
  have n2:c≠d:=ne_of e tm3.at_ (by intro z;cases z)
  rw [upd_ne n1,upd_ne n2];exact e
 refine q ks' (putK kvs (Sum.inl (pc:Int)) (.ref t)) (fun k=>if k=pc then some (.ref t)else g k) _ (fun b o e n1 n2=>by rw [upd_ne n2,upd_ne n1];exact s3 _ _ e) upd_same ⟨by rw [upd_ne (Ne.symm had),upd_same],dn',fun x v hv=>?_,fun x hx=>?_⟩
 ·by_cases z:x=pc
  ·subst z
   simp only [if_true]at hv
   cases hv
   exact⟨t,tt,_,rfl,kt _ _ t3,by simp⟩
  ·simp only [z,if_false]at hv
   obtain⟨t',b',e',x1,x2,x3⟩:=tm3.tup x v hv
   exact⟨t',b',e',x1,kt _ _ x2,by simp only [z,if_false];exact x3⟩
 ·by_cases z:x=pc
  ·simp [z]at hx
  ·simp only [z,if_false]at hx⊢
   exact tm3.non x hx
def Begins (De:Ends) (la p r at_ d ra:Addr) (tt hd pc n:Nat) (v8:Option V) (ls ats:List Nat) (EE:Nat->Option Nat) (H2:Hp):Prop:=
 ∀(ks':List Nat) (kvs':List (Key×V)) (g':Nat->Option V) (H3:Hp),(∀b o,H2 b=some o->b≠d->b≠at_->H3 b=some o)->H3 at_=some (.lst (nats (ats.set hd (ats.getD hd 0+1))))->Tms H3 d n ks' (fun x=>if x=pc then some (tt+Lf ls pc)else EE x) kvs' g'->
  De.nx [some (.ref la),some (.ref p),some (.ref r),some (.ref at_),some (.ref d),some (natV tt),some (natV hd),some (.ref ra),v8,some (natV pc)] H3
theorem clock_go {f:Addr} {cdv:Value} {A:Around} {outer:List Env} {s:Shared} {H:Hp} {E:XK} (hu:(XClock P w K mg base f cdv A outer s H E).A.units+1<cLine) (T:Txt K mg):
  ∃t,PSs (XClock P w K mg base f cdv A outer s H E) bGo t/\
  ∀(De:Ends) (la p r at_ d ra:Addr) (tt hd pc n:Nat) (v8 v9:Option V) (ls ats ks row:List Nat) (xs:List V) (ps:List Pr) (EE:Nat->Option Nat) (kvs:List (Key×V)) (g:Nat->Option V) (H2:Hp),H2 la=some (.lst (nats ls))->n=ls.length->H2 at_=some (.lst (nats ats))->hd<ats.length->Tms H2 d n ks EE kvs g->EE pc=none->at_≠d->n<=60->
   H2 ra=some (.lst (nats row))->row[ats.getD hd 0]? =some pc->pc<ls.length->H2 p=some (.lst xs)->PrsAt H2 xs ps->ps.length<=100->
   (Rdy ps EE tt pc->Begins De la p r at_ d ra tt hd pc n v8 ls ats EE H2)->
   (¬Rdy ps EE tt pc->∀H3,Same H2 H3->De.nx [some (.ref la),some (.ref p),some (.ref r),some (.ref at_),some (.ref d),some (natV tt),some (natV hd),some (.ref ra),v8,some (natV pc)] H3)->
   t De [some (.ref la),some (.ref p),some (.ref r),some (.ref at_),some (.ref d),some (natV tt),some (natV hd),some (.ref ra),v8,v9] H2:=by
 obtain⟨tS,hS,rS⟩:=clock_start (P:=P) (w:=w) (K:=K) (mg:=mg) (base:=base) (f:=f) (cdv:=cdv) (A:=A) (outer:=outer) (s:=s) (H:=H) (E:=E) hu T
 refine⟨_,(pss_cons (ps_set (i:=9) scClock.nd rfl (Or.inr rfl) (pe_ix ix_list (pv 7) (pe_ix ix_list (pv 3) (pv 6) (fun _ _=>rfl)) (fun _ _=>rfl))) (pss_one (ps_if (pt_cmpR (op_eq2 hu) (pe_cpF (own:=["_law_p","_law_q"]) (cap:=[("_law_times",4),("_law_now",5),("_law_piece",9)]) (g:=gPair K 0 1) (defScope sClock) NClock rfl rfl (fun x h=>cell_has h) (by decide+kernel) rfl (pi_list (pv 1)) (fun cl C s2 H2 fp=>(pg_tup rfl (pgs_cons (pg_name (i:=0) (show(["_law_p","_law_q","_law_times","_law_now","_law_piece"]:List Str).Nodup by decide+kernel) rfl (Or.inl rfl) (Or.inr rfl)) (pgs_cons (pg_name (i:=1) (show(["_law_p","_law_q","_law_times","_law_now","_law_piece"]:List Str).Nodup by decide+kernel) rfl (Or.inl rfl) (Or.inr rfl)) pgs_nil)))) (fun cl C s2 H2 fp=>(PW.pt (pw_and (pt_cmpR op_eq (pv 0) (pv 4) (nomark _)) (pw_and1 (PW.pt (pw_or (pt_cmp (pc_dnotin hu (pv 1) (pv 2))) (pw_or1 (pt_cmpR op_gt (pe_ix (r:=rIxT K) ix_tup (pe_dget hu (pv 2) (pv 1) (fun _ _=>rfl)) pe_int (fun _ _=>rfl)) (pv 3) (nomark _))))))))) (fun cl C s2 H2 fp=>(pv 1))) (pe_lst pa_nil) (nomark _)) hS pss_nil))),?_⟩
 intro De la p r at_ d ra tt hd pc n v8 v9 ls ats ks row xs ps EE kvs g H2 hla hn hat hhd tm he had hn6 hra hrk hpc hp pp hpl qY qN
 have hk:(nats ats)[hd]? =some (natV (ats.getD hd 0)):=by unfold nats;rw [List.getElem?_map,List.getElem?_eq_getElem hhd];simp [List.getD,hhd]
 refine⟨_,rfl,_,rfl,_,rfl,at_,_,_,_,rfl,rfl,SqL.of hat,atI_nat hk,ra,_,_,_,rfl,rfl,SqL.of hra,atI_nat (show(nats row)[ats.getD hd 0]? =some (natV pc) by unfold nats;rw [List.getElem?_map,hrk];rfl),?_⟩
 refine⟨_,rfl,p,rfl,⟨_,SqL.of hp⟩,fun D hD=>?_⟩
 have hlx:=Paired.length pp
 refine compF_listG (K:=K) (a:=p) (xs:=xs) (fun i acc σ H3=>∃(v0 v1:Option V) (l:List Nat),σ=[v0,v1,some (.ref d),some (natV tt),some (natV pc)]/\Same H2 H3/\H3 D=some (.lst acc)/\acc=nats l/\l.length<=i/\(l=[]↔ ∀z∈ps.take i,z.1=pc->∃e,EE z.2=some e/\e<=tt)) ⟨_,_,[],rfl,sameNew hD,upd_same,rfl,Nat.le_refl _,by simp⟩ (fun i acc σ H3 _ ⟨_,_,_,_,s3,_⟩=>SqL.of (s3 _ _ hp)) ?_ ?_
 ·rintro i x acc σ H3 hi hx ⟨v0,v1,l,rfl,s3,hD3,rfl,hll,hiff⟩
  obtain⟨pq,hpq,t,rfl,ht⟩:=Paired.get pp hx
  refine⟨t,_,rfl,SqT.of (s3 _ _ ht),rfl,_,_,rfl,_,_,rfl,rfl,?_⟩
  have tk:ps.take (i+1)=ps.take i++[pq]:=by rw [List.take_succ,hpq];rfl
  have tm3:=tm.same s3
  have addN:(pq.1=pc->∃e,EE pq.2=some e/\e<=tt)->(l=[]↔ ∀z∈ps.take (i+1),z.1=pc->∃e,EE z.2=some e/\e<=tt):=fun h=>by
   rw [hiff,tk]
   constructor
   ·intro a z hz e
    rcases List.mem_append.mp hz with m|m
    ·exact a z m e
    ·rw [List.mem_singleton.mp m]at e⊢;exact h e
   ·exact fun a z hz e=>a z (List.mem_append_left _ hz) e
  have addY:pq.1=pc->¬(∃e,EE pq.2=some e/\e<=tt)->(l++[pq.2]=[]↔ ∀z∈ps.take (i+1),z.1=pc->∃e,EE z.2=some e/\e<=tt):=fun h1 h2=>by
   rw [tk]
   constructor
   ·intro z;exact absurd z (by simp)
   ·intro a;exact absurd (a pq (by simp) h1) h2
  refine⟨_,rfl,_,rfl,rfl,_,rfl,?_⟩
  by_cases e1:pq.1=pc
  ·refine iteTe (decide_eq_true (by rw [e1])) ?_
   refine⟨_,rfl,_,rfl,d,_,rfl,tm3.dget pq.2,_,rfl,?_⟩
   cases hg:g pq.2 with
   |none=>
    refine iteT (iteT ⟨_,rfl,cturn hD3 (small (by unfold nats;rw [List.length_map];omega)) hi ⟨_,_,l++[pq.2],rfl,sameUpd hD s3,upd_same,by unfold nats;rw [List.map_append];rfl,by rw [List.length_append];show _+1<=_;omega,addY e1 ?_⟩⟩)
    rintro⟨e,x,_⟩
    rw [tm.non _ hg]at x;cases x
   |some v=>
    obtain⟨t',b',e',rfl,ht',hE⟩:=tm3.tup _ v hg
    have dg:=tm3.dget pq.2
    rw [hg]at dg
    refine iteF ⟨_,rfl,_,rfl,d,_,rfl,dg,t',_,_,_,rfl,rfl,SqT.of ht',rfl,_,rfl,_,_,rfl,rfl,_,rfl,?_⟩
    by_cases h5:e'<=tt
    ·refine iteFe (decide_eq_false (by omega)) ?_
     exact cstep hi ⟨_,_,l,rfl,s3,hD3,rfl,by omega,addN fun _=>⟨e',hE,h5⟩⟩
    ·refine iteTe (decide_eq_true (by omega)) ⟨_,rfl,cturn hD3 (small (by unfold nats;rw [List.length_map];omega)) hi ⟨_,_,l++[pq.2],rfl,sameUpd hD s3,upd_same,by unfold nats;rw [List.map_append];rfl,by rw [List.length_append];show _+1<=_;omega,addY e1 ?_⟩⟩
     rintro⟨e,x,y⟩
     rw [hE]at x
     cases x
     omega
  ·refine iteFe (decide_eq_false (fun z=>e1 (by have:=V.int.inj z;omega))) (iteF ?_)
   exact cstep hi ⟨_,_,l,rfl,s3,hD3,rfl,by omega,addN fun z=>absurd z e1⟩
 ·rintro acc σ H3 ⟨v0,v1,l,rfl,s3,hD3,rfl,hll,hiff⟩
  rw [hlx,List.take_length]at hiff
  have rd:l=[]↔Rdy ps EE tt pc:=by
   rw [hiff]
   exact⟨fun a q m=>a (pc,q) m rfl,fun a z hz e=>a z.2 (by rw [<-e];exact hz)⟩
  refine⟨by show 0<=sizeLine;decide,fun l0 hl0=>?_⟩
  have s4:Same H2 (upd H3 l0 (.lst [])):=s3.trans (sameNew hl0)
  refine⟨D,l0,nats l,nats [],_,_,rfl,rfl,.inr ⟨SqL.of (sameNew hl0 _ _ hD3),SqL.of upd_same⟩,den_nats l,den_nats [],_,rfl,?_⟩
  rw [eqFs_nats]
  by_cases e:l=[]
  ·refine iteTe (decide_eq_true e) ?_
   refine rS De la p r at_ d tt hd pc n _ _ ls ats ks EE kvs g _ (s4 _ _ hla) hpc hn (s4 _ _ hat) hhd (tm.same s4) he had hn6 fun ks' kvs' g' H5 k5 a5 t5=>?_
   exact qY (rd.mp e) ks' kvs' g' H5 (fun b o h n1 n2=>k5 b o (s4 _ _ h) n1 n2) a5 t5
  ·exact iteFe (decide_eq_false e) (qN (fun z=>e (rd.mpr z)) _ s4)
def MayGo (ps:List Pr) (EE:Nat->Option Nat) (tt k:Nat) (row:List Nat) (pc:Nat):Prop:=row[k]? =some pc/\Rdy ps EE tt pc/\(k=0∨∃q e,row[k-1]? =some q/\EE q=some e/\e<=tt)
theorem clock_hand {f:Addr} {cdv:Value} {A:Around} {outer:List Env} {s:Shared} {H:Hp} {E:XK} (hu:(XClock P w K mg base f cdv A outer s H E).A.units+1<cLine) (T:Txt K mg):
  ∃t,PSs (XClock P w K mg base f cdv A outer s H E) bHand t/\
  ∀(De:Ends) (la p r at_ d ra:Addr) (tt hd n:Nat) (v8 v9:Option V) (ls ats ks row:List Nat) (xs:List V) (ps:List Pr) (EE:Nat->Option Nat) (kvs:List (Key×V)) (g:Nat->Option V) (H2:Hp),H2 la=some (.lst (nats ls))->n=ls.length->H2 at_=some (.lst (nats ats))->hd<ats.length->Tms H2 d n ks EE kvs g->at_≠d->n<=60->
   H2 ra=some (.lst (nats row))->(∀(j:Nat) q,row[j]? =some q->(EE q≠none↔j<ats.getD hd 0)/\q<ls.length)->ats.getD hd 0<=row.length->H2 p=some (.lst xs)->PrsAt H2 xs ps->ps.length<=100->
   (∀pc v8,MayGo ps EE tt (ats.getD hd 0) row pc->Begins De la p r at_ d ra tt hd pc n v8 ls ats EE H2)->
   ((∀pc,¬MayGo ps EE tt (ats.getD hd 0) row pc)->∀v8 v9 H3,Same H2 H3->De.nx [some (.ref la),some (.ref p),some (.ref r),some (.ref at_),some (.ref d),some (natV tt),some (natV hd),some (.ref ra),v8,v9] H3)->
   t De [some (.ref la),some (.ref p),some (.ref r),some (.ref at_),some (.ref d),some (natV tt),some (natV hd),some (.ref ra),v8,v9] H2:=by
 obtain⟨tG,hG,rG⟩:=clock_go (P:=P) (w:=w) (K:=K) (mg:=mg) (base:=base) (f:=f) (cdv:=cdv) (A:=A) (outer:=outer) (s:=s) (H:=H) (E:=E) hu T
 refine⟨_,(pss_cons (ps_set (i:=8) scClock.nd rfl (Or.inl rfl) (pe_or (pe_cmpR op_eq (pe_ix ix_list (pv 3) (pv 6) (fun _ _=>rfl)) pe_int (nomark _)) (pe_one (pe_cmpR op_le (pe_ix ix_tup (pe_dget hu (pv 4) (pe_ix ix_list (pv 7) (pe_op op_sub (pe_ix ix_list (pv 3) (pv 6) (fun _ _=>rfl)) pe_int) (fun _ _=>rfl)) (fun _ _=>rfl)) pe_int (fun _ _=>rfl)) (pv 5) (nomark _))))) (pss_one (ps_if (PW.pt (pw_and (pt_val (pv 8)) (pw_and1 (pt_cmpR op_lt (pe_ix ix_list (pv 3) (pv 6) (fun _ _=>rfl)) (pe_callB call_len_seq (by rfl) T.len PySem.boot_len (pa_cons (pv 7) pa_nil)) (nomark _))))) hG pss_nil))),?_⟩
 intro De la p r at_ d ra tt hd n v8 v9 ls ats ks row xs ps EE kvs g H2 hla hn hat hhd tm had hn6 hra hrow hkl hp pp hpl qY qN
 have hk:(nats ats)[hd]? =some (natV (ats.getD hd 0)):=by unfold nats;rw [List.getElem?_map,List.getElem?_eq_getElem hhd];simp [List.getD,hhd]
 have hrl:(nats row).length=row.length:=by unfold nats;rw [List.length_map]
 refine⟨_,rfl,_,rfl,at_,_,_,_,rfl,rfl,SqL.of hat,atI_nat hk,rfl,_,rfl,?_⟩
 by_cases h0:ats.getD hd 0=0
 ·refine iteTe (decide_eq_true (by rw [h0];rfl)) ?_
  refine⟨_,rfl,_,rfl,?_⟩
  refine iteT ⟨_,rfl,_,rfl,at_,_,_,_,rfl,rfl,SqL.of hat,atI_nat hk,_,rfl,ra,_,rfl,.inl (SqL.of hra),_,_,rfl,rfl,_,rfl,?_⟩
  rw [hrl]
  by_cases hlt:ats.getD hd 0<row.length
  ·refine iteTe (decide_eq_true (by omega)) ?_
   have hpc:row[ats.getD hd 0]? =some row[ats.getD hd 0]:=List.getElem?_eq_getElem hlt
   have hen:EE row[ats.getD hd 0]=none:=by
    cases z:EE row[ats.getD hd 0]with
    |none=>rfl
    |some e=>exact absurd ((hrow _ _ hpc).1.mp (by rw [z];exact fun y=>nomatch y)) (Nat.lt_irrefl _)
   refine rG De la p r at_ d ra tt hd _ n _ v9 ls ats ks row xs ps EE kvs g H2 hla hn hat hhd tm hen had hn6 hra hpc (hrow _ _ hpc).2 hp pp hpl (fun rd=>qY _ _ ⟨hpc,rd,.inl h0⟩) (fun nr H3 s3=>qN (fun pc m=>?_) _ _ H3 s3)
   have e:=m.1
   rw [hpc]at e
   cases e
   exact nr m.2.1
  ·refine iteFe (decide_eq_false (by omega)) (qN (fun pc m=>?_) _ _ H2 (Same.refl H2))
   exact hlt (List.getElem?_eq_some_iff.mp m.1).1
 ·refine iteFe (decide_eq_false (fun z=>h0 (by have:=V.int.inj z;omega))) ?_
  have hkl':ats.getD hd 0-1<row.length:=by omega
  have hq:row[ats.getD hd 0-1]? =some row[ats.getD hd 0-1]:=List.getElem?_eq_getElem hkl'
  obtain⟨e,he⟩:∃e,EE row[ats.getD hd 0-1]=some e:=by
   have:=(hrow _ _ hq).1.mpr (by omega)
   cases z:EE row[ats.getD hd 0-1]with
   |none=>exact absurd z this
   |some e=>exact⟨e,rfl⟩
  obtain⟨t,b,hg,ht⟩:=tm.get he
  have dg:=tm.dget row[ats.getD hd 0-1]
  rw [hg]at dg
  refine⟨_,rfl,_,rfl,_,rfl,_,rfl,at_,_,_,_,rfl,rfl,SqL.of hat,atI_nat hk,_,_,rfl,rfl,ra,_,_,natV row[ats.getD hd 0-1],rfl,rfl,SqL.of hra,?_,d,_,rfl,dg,t,_,_,_,rfl,rfl,SqT.of ht,rfl,_,rfl,_,_,rfl,rfl,?_⟩
  ·show atI (nats row) (((ats.getD hd 0:Nat):Int)-1)=_
   rw [show((ats.getD hd 0:Nat):Int)-1=((ats.getD hd 0-1:Nat):Int) by omega]
   exact atI_nat (by unfold nats;rw [List.getElem?_map,hq];rfl)
  by_cases h5:e<=tt
  ·refine⟨_,rfl,_,rfl,?_⟩
   refine iteTe (decide_eq_true (show(e:Int)<=(tt:Int) by omega)) ⟨_,rfl,_,rfl,at_,_,_,_,rfl,rfl,SqL.of hat,atI_nat hk,_,rfl,ra,_,rfl,.inl (SqL.of hra),_,_,rfl,rfl,_,rfl,?_⟩
   rw [hrl]
   by_cases hlt:ats.getD hd 0<row.length
   ·refine iteTe (decide_eq_true (by omega)) ?_
    have hpc:row[ats.getD hd 0]? =some row[ats.getD hd 0]:=List.getElem?_eq_getElem hlt
    have hen:EE row[ats.getD hd 0]=none:=by
     cases z:EE row[ats.getD hd 0]with
     |none=>rfl
     |some e=>exact absurd ((hrow _ _ hpc).1.mp (by rw [z];exact fun y=>nomatch y)) (Nat.lt_irrefl _)
    refine rG De la p r at_ d ra tt hd _ n _ v9 ls ats ks row xs ps EE kvs g H2 hla hn hat hhd tm hen had hn6 hra hpc (hrow _ _ hpc).2 hp pp hpl (fun rd=>qY _ _ ⟨hpc,rd,.inr ⟨_,e,hq,he,h5⟩⟩) (fun nr H3 s3=>qN (fun pc m=>?_) _ _ H3 s3)
    have e:=m.1
    rw [hpc]at e
    cases e
    exact nr m.2.1
   ·refine iteFe (decide_eq_false (by omega)) (qN (fun pc m=>?_) _ _ H2 (Same.refl H2))
    exact hlt (List.getElem?_eq_some_iff.mp m.1).1
  ·refine⟨_,rfl,_,rfl,?_⟩
   refine iteFe (decide_eq_false (show¬(e:Int)<=(tt:Int) by omega)) (qN (fun pc m=>?_) _ _ H2 (Same.refl H2))
   rcases m.2.2 with z|⟨q,e',z1,z2,z3⟩
   ·exact h0 z
   ·rw [hq]at z1
    cases z1
    rw [he]at z2
    cases z2
    exact h5 z3
def Lp (ls:List Nat):Nat->Nat:=fun p=>ls.getD p 1
theorem Lp_eq {ls:List Nat} {p:Nat} (h:p<ls.length):Lp ls p=Lf ls p:=by unfold Lp Lf;simp [List.getD,h]
theorem Lp_pos {ls:List Nat} (h:∀k∈ls,0<k):∀p,0<Lp ls p:=fun p=>by
 unfold Lp
 by_cases hp:p<ls.length
 ·simp [List.getD,hp];exact h _ (List.getElem_mem hp)
 ·simp [List.getD,hp]
theorem begun_snoc {L:Nat->Nat} {E:Nat->Option Nat} {t pc:Nat} {A:List Nat} (h:E pc=none):begun L E t (A++[pc])=fun x=>if x=pc then some (t+L pc)else begun L E t A x:=by
 funext x
 by_cases z:x=pc
 ·subst z
  rw [begun_new h (by simp)];simp
 ·simp only [z,if_false]
  cases g:E x with
  |some e=>rw [begun_old g,begun_old g]
  |none=>
   by_cases m:x∈A
   ·rw [begun_new g m,begun_new g (List.mem_append_left _ m)]
   ·rw [begun_not g m,begun_not g (by simp [m,z])]
theorem clock_pass {f:Addr} {cdv:Value} {A:Around} {outer:List Env} {s:Shared} {H:Hp} {E:XK} (hu:(XClock P w K mg base f cdv A outer s H E).A.units+1<cLine) (T:Txt K mg):
  ∃t,PS (XClock P w K mg base f cdv A outer s H E) ((loopBody ((defBody sClock).getD 3 (.Pass ⟨0,0,0,0⟩))).getD 0 (.Pass ⟨0,0,0,0⟩)) t/\
  ∀(De:Ends) (la p r at_ d:Addr) (tt n:Nat) (v6 v7 v8 v9:Option V) (ls ats ks:List Nat) (xs:List V) (ps:List Pr) (as:List Addr) (rs:List (List Nat)) (EE:Nat->Option Nat) (kvs:List (Key×V)) (g:Nat->Option V) (H0 H2:Hp),
   Same H0 H2->H0 la=some (.lst (nats ls))->n=ls.length->n<=60->H0 p=some (.lst xs)->PrsAt H0 xs ps->ps.length<=100->H0 r=some (.lst (as.map V.ref))->ListsAt H0 as rs->rs.flatten.Perm (List.range n)->(∀k∈ls,0<k)->H0 at_=none->H0 d=none->at_≠d->
   H2 at_=some (.lst (nats ats))->Tms H2 d n ks EE kvs g->Cur rs ats EE->
   (∀(B ats' ks':List Nat) (kvs':List (Key×V)) (g':Nat->Option V) (u6 u7 u8 u9:Option V) (H3:Hp),Same H0 H3->H3 at_=some (.lst (nats ats'))->Tms H3 d n ks' (begun (Lp ls) EE tt B) kvs' g'->HSt n (ps++rowPs rs) (Lp ls) EE tt rs rs.length B ats'->
    De.nx [some (.ref la),some (.ref p),some (.ref r),some (.ref at_),some (.ref d),some (natV tt),u6,u7,u8,u9] H3)->
   t De [some (.ref la),some (.ref p),some (.ref r),some (.ref at_),some (.ref d),some (natV tt),v6,v7,v8,v9] H2:=by
 obtain⟨tH,hH,rH⟩:=clock_hand (P:=P) (w:=w) (K:=K) (mg:=mg) (base:=base) (f:=f) (cdv:=cdv) (A:=A) (outer:=outer) (s:=s) (H:=H) (E:=E) hu T
 refine⟨_,(ps_for (g:=gPair K 6 7) PassesOwn.never rfl (pi_enum rfl T.enumerate (pa_cons (pv 2) pa_nil)) (pg_tup rfl (pgs_cons (pg_name (i:=6) scClock.nd rfl (Or.inl rfl)) (pgs_cons (pg_name (i:=7) scClock.nd rfl (Or.inl rfl)) pgs_nil))) hH),?_⟩
 intro De la p r at_ d tt n v6 v7 v8 v9 ls ats ks xs ps as rs EE kvs g H0 H2 s02 hla hn hn6 hp pp hpl hr hls pm hpos nat nd0 had hat tm cur q
 have nd:rs.flatten.Nodup:=pm.nodup_iff.mpr List.nodup_range
 have low:∀k∈rs.flatten,k<n:=perm_lt pm
 have hlen:=Paired.length hls
 refine⟨_,rfl,r,rfl,⟨_,SqL.of (s02 _ _ hr)⟩,?_⟩
 refine for_enum (K:=K) (a:=r) (xs:=as.map V.ref) (fun i σ H3=>∃(u6 u7 u8 u9:Option V) (B ats' ks':List Nat) (kvs':List (Key×V)) (g':Nat->Option V),σ=[some (.ref la),some (.ref p),some (.ref r),some (.ref at_),some (.ref d),some (natV tt),u6,u7,u8,u9]/\Same H0 H3/\H3 at_=some (.lst (nats ats'))/\Tms H3 d n ks' (begun (Lp ls) EE tt B) kvs' g'/\HSt n (ps++rowPs rs) (Lp ls) EE tt rs i B ats')
  ⟨v6,v7,v8,v9,[],ats,ks,kvs,g,rfl,s02,hat,by rw [begun_nil];exact tm,HSt.start cur⟩ (fun i σ H3 _ ⟨_,_,_,_,_,_,_,_,_,_,s3,_⟩=>SqL.of (s3 _ _ hr)) ?_ ?_
 ·rintro i y σ H3 t hy ⟨u6,u7,u8,u9,B,ats',ks',kvs',g',rfl,s3,hat3,tm3,hs⟩ ht
  have s4:Same H3 (upd H3 t (.tup [.int i,y])):=sameNew ht
  generalize upd H3 t (.tup [.int i,y])=H4 at s4
  rw [List.getElem?_map]at hy
  obtain⟨b,hb,eb⟩:∃b,as[i]? =some b/\y= .ref b:=by
   cases z:as[i]? with
   |none=>rw [z]at hy;cases hy
   |some b=>rw [z]at hy;cases hy;exact⟨b,rfl,rfl⟩
  subst eb
  obtain⟨row,hrow,erow⟩:=Paired.get hls hb
  have hil:i<ats'.length:=by rw [hs.cur.len];exact(List.getElem?_eq_some_iff.mp hrow).1
  have hk:ats'[i]? =some (ats'.getD i 0):=by rw [List.getElem?_eq_getElem hil];simp [List.getD,hil]
  have s04:=s3.trans s4
  have hG:∀a c,(a,c)∈rowPs rs->(a,c)∈ps++rowPs rs:=fun a c m=>List.mem_append_right _ m
  refine rH _ la p r at_ d b tt i n _ _ ls ats' ks' row xs ps (begun (Lp ls) EE tt B) kvs' g' H4 (s04 _ _ hla) hn (s4 _ _ hat3) hil (tm3.same s4) had hn6 (s04 _ _ erow) (fun j z hj=>⟨hs.cur.beg i row _ hrow hk j z hj,?_⟩) (hs.cur.le i row _ hrow hk) (s04 _ _ hp) (PrsAt.mono (fun c us e=>s04 c _ e) pp) hpl (fun pc w8 mg'=>?_) (fun no w8 w9 H5 s5=>?_)
  ·have:=low z (List.mem_flatten.mpr ⟨row,List.mem_of_getElem? hrow,List.mem_of_getElem? hj⟩);omega
  ·have rdy:=(hs.ready (Lp_pos hpos) nd hrow hk mg'.1).mpr mg'.2
   obtain⟨_,e0,_⟩:=hs.next nd hrow hk (Nat.le_refl _) mg'.1
   have hpcn:=low pc (List.mem_flatten.mpr ⟨row,List.mem_of_getElem? hrow,List.mem_of_getElem? mg'.1⟩)
   intro ks5 kvs5 g5 H5 k5 a5 t5
   rw [<-Lp_eq (by omega), <-begun_snoc e0]at t5
   refine⟨_,_,_,_,B++[pc],_,ks5,kvs5,g5,rfl,fun c o e=>k5 c o (s04 _ _ e) (fun z=>by rw [z,nd0]at e;cases e) (fun z=>by rw [z,nat]at e;cases e),a5,t5,hs.go nd low hG hrow hk mg'.1 rdy⟩
  ·refine⟨_,_,_,_,B,ats',ks',kvs',g',rfl,s04.trans s5,s5 _ _ (s4 _ _ hat3),(tm3.same s4).same s5,hs.skip nd hG hrow hk fun pc hpc rd=>no pc ?_⟩
   exact⟨hpc,(hs.ready (Lp_pos hpos) nd hrow hk hpc).mp rd⟩
 ·rintro σ H3 ⟨u6,u7,u8,u9,B,ats',ks',kvs',g',rfl,s3,hat3,tm3,hs⟩
  rw [List.length_map,hlen]at hs
  exact q B ats' ks' kvs' g' u6 u7 u8 u9 H3 s3 hat3 tm3 hs
theorem valV_mem {kvs:List (Key×V)} {k:Key} {x:V} (h:valV kvs k=some x):(k,x)∈kvs:=by
 unfold valV at h
 cases g:kvs.find? fun kv=>decide (kv.1=k)with
 |none=>rw [g]at h;cases h
 |some kv=>
  rw [g]at h
  cases h
  have h1:=List.find?_some g
  have h2:=List.mem_of_find?_eq_some g
  have e:kv.1=k:=of_decide_eq_true h1
  rw [<-e]
  exact h2
theorem valV_of:∀{kvs:List (Key×V)} {k:Key} {x:V},(kvs.map (·.1)).Nodup->(k,x)∈kvs->valV kvs k=some x
 | [],_,_,_,h=>by cases h
 |kv::r,k,x,nd,h=>by
  rw [List.map_cons,List.nodup_cons]at nd
  unfold valV
  rw [List.find?_cons]
  rcases List.mem_cons.mp h with e|h
  ·subst e
   simp
  ·have:kv.1≠k:=fun z=>nd.1 (List.mem_map.mpr ⟨(k,x),h,z.symm⟩)
   rw [show decide (kv.1=k)=false from decide_eq_false this]
   have ih:=valV_of nd.2 h
   unfold valV at ih
   exact ih
theorem DNat.item {n:Nat} {kvs:List (Key×V)} {ks:List Nat} {f:Nat->Option V} (h:DNat n kvs ks f) {i:Nat} {k:Key} {x:V} (e:kvs[i]? =some (k,x)):∃p,f p=some x:=by
 have m:=List.mem_of_getElem? e
 have mk:k∈kvs.map (·.1):=List.mem_map.mpr ⟨_,m,rfl⟩
 rw [h.keys]at mk
 obtain⟨p,_,rfl⟩:=List.mem_map.mp mk
 refine⟨p,?_⟩
 rw [<-h.val p]
 refine valV_of ?_ m
 rw [h.keys]
 exact List.Pairwise.map _ (fun a b hab he=>hab (keyNat he)) h.nd
theorem DNat.has {n:Nat} {kvs:List (Key×V)} {ks:List Nat} {f:Nat->Option V} (h:DNat n kvs ks f) {p:Nat} {x:V} (e:f p=some x):∃(i:Nat) (k:Key),kvs[i]? =some (k,x):=by
 rw [<-h.val p]at e
 obtain⟨i,hi⟩:=List.mem_iff_getElem?.mp (valV_mem e)
 exact⟨i,_,hi⟩
theorem minD_nat {K:W.Frag} {H:Hp} {p:Addr} {l:List Nat} {Q:VK} (hq:SqL K H p (nats l)) (k0:l=[]->Q .non H) (k:∀b:Nat,b∈l->(∀a∈l,b<=a)->Q (natV b) H):rMinD K [.ref p] [.non] H Q:=by
 rw [nats_ints]at hq
 refine⟨p,_,.non,rfl,rfl,hq,fun e=>k0 (by simpa using e),fun m hm hx=>?_⟩
 obtain⟨b,hb,rfl⟩:=List.mem_map.mp hm
 exact k b hb fun a ha=>by have:=hx _ (List.mem_map.mpr ⟨a,ha,rfl⟩);omega
def spClock:Sp:=fun vs H Q _=>∃(la p r:Addr) (ls:List Nat) (xs:List V) (ps:List Pr) (as:List Addr) (rs:List (List Nat)),vs=[.ref la,.ref p,.ref r]/\H la=some (.lst (nats ls))/\ls.length<=60/\H p=some (.lst xs)/\PrsAt H xs ps/\Below ls.length ps/\ps.length<=100/\
 H r=some (.lst (as.map V.ref))/\ListsAt H as rs/\rs.length<=100/\rs.flatten.Perm (List.range ls.length)/\(∀k∈ls,0<k)/\
 (∀H',Same H H'->(∃S:Nat->Prop,(∃v,S v)/\(∀v,S v->v<ls.length)/\∀v,S v->∃q,(v,q)∈ps++rowPs rs/\S q)->Q .non H')/\
 ∀(q:Addr) (ys:List V) (ts:List Pr) (EE:Nat->Option Nat) (H':Hp),Same H H'->H q=none->H' q=some (.lst ys)->PrsAt H' ys ts->ts.length=ls.length->(∀v,v<ls.length->EE v=some (ts.getD v (0,0)).2)->
  (∀v e,EE v=some e->∃b,e=b+Lp ls v/\IsB (ps++rowPs rs) EE v b)->Q (.ref q) H'
theorem ok_clock {f:Addr} {fd:FuncData} (F:Fun K "_law_clock" "_law_clock" sClock f fd) (T:Txt K mg):FnOk P w K mg base CX0 1 f fd ["_law_lasts","_law_pairs","_law_rows_here"] spClock:=by
 refine F.ok scClock (fun vs H Q E h=>?_) (fun cdv A outer s H vs Q E hr h=>?_)
 ·obtain⟨la,p,r,ls,xs,ps,as,rs,rfl,_⟩:=h
  rfl
 ·have hu:=hu_of hr
  obtain⟨tP,hPs,rP⟩:=clock_pass (P:=P) (w:=w) (K:=K) (mg:=mg) (base:=base) (f:=f) (cdv:=cdv) (A:=A) (outer:=outer) (s:=s) (H:=H) (E:=E) hu T
  obtain⟨la,p,r,ls,xs,ps,as,rs,rfl,hla,hn,hp,pp,hb,hpl,hra,hls,hrl,pm,hpos,qN,qR⟩:=h
  refine⟨_,(pss_cons (ps_cp (i:=3) scClock.nd rfl (Or.inl rfl) (own:=["_law_row"]) (cap:=[]) (g:=gName 0) (defScope sClock) NClock rfl rfl (fun x h=>cell_has h) (by decide+kernel) rfl (pi_list (pv 2)) (fun cl C s2 H2 fp=>(pg_name (i:=0) (show(["_law_row"]:List Str).Nodup by decide+kernel) rfl (Or.inl rfl) (Or.inr rfl))) (fun cl C s2 H2 fp=>pe_int)) (pss_cons (ps_set (i:=4) scClock.nd rfl (Or.inr rfl) pe_dnewK) (pss_cons (ps_set (i:=5) scClock.nd rfl (Or.inr rfl) pe_int) (pss_cons (ps_while PassesOwn.never (pt_cmpR op_notN (pv 5) pe_non (nomark _)) (pss_cons hPs (pss_one (ps_set (i:=5) scClock.nd rfl (Or.inr rfl) (pe_callBK (call_minD rfl) rfl T.min boot_min (pa_cons (pe_thaw (pe_cpF (own:=["_law_pair"]) (cap:=[("_law_now",5)]) (g:=gName 0) (defScope sClock) NClock rfl rfl (fun x h=>cell_has h) (by decide+kernel) rfl (pi_vals (pv 4)) (fun cl C s2 H2 fp=>(pg_name (i:=0) (show(["_law_pair","_law_now"]:List Str).Nodup by decide+kernel) rfl (Or.inl rfl) (Or.inr rfl))) (fun cl C s2 H2 fp=>(pt_cmpR op_gt (pe_ix (r:=rIxT K) ix_tup (pv 0) pe_int (fun _ _=>rfl)) (pv 1) (nomark _))) (fun cl C s2 H2 fp=>(pe_ix (r:=rIxT K) ix_tup (pv 0) pe_int (fun _ _=>rfl))))) pa_nil) (pk_cons pe_non pk_nil)))))) (pss_cons (ps_if (pt_cmpR op_lt (pe_callB call_lenD (by rfl) T.len PySem.boot_len (pa_cons (pv 4) pa_nil)) (pe_callB call_len_seq (by rfl) T.len PySem.boot_len (pa_cons (pv 0) pa_nil)) (nomark _)) (pss_one (ps_ret pe_non)) pss_nil) (pss_one (ps_ret (pe_cp (own:=["_law_piece"]) (cap:=[("_law_times",4)]) (g:=gName 0) (defScope sClock) NClock rfl rfl (fun x h=>cell_has h) (by decide+kernel) rfl (pi_range1 rfl T.range (pa_cons (pe_callB call_len_seq (by rfl) T.len PySem.boot_len (pa_cons (pv 0) pa_nil)) pa_nil)) (fun cl C s2 H2 fp=>(pg_name (i:=0) (show(["_law_piece","_law_times"]:List Str).Nodup by decide+kernel) rfl (Or.inl rfl) (Or.inr rfl))) (fun cl C s2 H2 fp=>(pe_dget hu (pv 1) (pv 0) (fun _ _=>rfl))))))))))),?_⟩
  have hlen:=Paired.length hls
  refine⟨_,rfl,r,rfl,⟨_,SqL.of hra⟩,fun at_ hat0=>?_⟩
  refine comp_list (K:=K) (a:=r) (xs:=as.map V.ref) (fun i acc σ H2=>(∃v0,σ=[v0])/\Same H H2/\H2 at_=some (.lst acc)/\acc=nats (List.replicate i 0)) ⟨⟨_,rfl⟩,sameNew hat0,upd_same,rfl⟩ (fun i acc σ H2 _ ⟨_,s2,_⟩=>SqL.of (s2 _ _ hra)) ?_ ?_
  ·rintro i x acc σ H2 hi hx ⟨⟨v0,rfl⟩,s2,ha2,rfl⟩
   have:=hi
   rw [List.length_map]at this
   unfold tC
   refine cturn ha2 (small (by unfold nats;rw [List.length_map,List.length_replicate];omega)) hi ?_
   refine⟨⟨_,rfl⟩,sameUpd hat0 s2,upd_same,?_⟩
   unfold nats
   rw [List.replicate_succ',List.map_append]
   rfl
  ·rintro acc σ H2 ⟨_,s2,ha2,rfl⟩
   rw [List.length_map,hlen]at ha2
   refine fun d hd=>?_
   have hd0:H d=none:=s2.free hd
   have had:at_≠d:=ne_of_none ha2 hd
   have s3:Same H (upd H2 d (.dK [])):=s2.trans (sameNew hd)
   have ha3:upd H2 d (.dK []) at_=some (.lst (nats (List.replicate rs.length 0))):=by rw [upd_ne had];exact ha2
   have hd3:upd H2 d (.dK []) d=some (.dK []):=upd_same
   generalize upd H2 d (.dK [])=H3 at s3 ha3 hd3
   have tm0:Tms H3 d ls.length [] (fun _=>none) [] (fun _=>none):=⟨hd3,DNat.nil,(fun _ _ h=>nomatch h),(fun _ _=>rfl)⟩
   have cur0:Cur rs (List.replicate rs.length 0) (fun _=>none):=by
    refine⟨by rw [List.length_replicate],fun h row k g1 g2=>?_,fun h row k g1 g2 j q g3=>?_⟩
    ·have:=List.eq_of_mem_replicate (List.mem_of_getElem? g2)
     omega
    ·have:=List.eq_of_mem_replicate (List.mem_of_getElem? g2)
     constructor
     ·intro z;exact absurd rfl z
     ·intro z;omega
   have hG:∀a c,(a,c)∈ps++rowPs rs->c<ls.length:=fun a c m=>by
    rcases List.mem_append.mp m with m|m
    ·exact(hb _ m).2
    ·exact(rowPs_mem (perm_lt pm) _ m).2
   refine⟨fun m σ H4=>∃(now:V) (u6 u7 u8 u9:Option V) (ats ks:List Nat) (EE:Nat->Option Nat) (kvs:List (Key×V)) (g:Nat->Option V),σ=[some (.ref la),some (.ref p),some (.ref r),some (.ref at_),some (.ref d),some now,u6,u7,u8,u9]/\Same H H4/\H4 at_=some (.lst (nats ats))/\Tms H4 d ls.length ks EE kvs g/\Cur rs ats EE/\
    ((∃t:Nat,now=natV t/\CInv ls.length (ps++rowPs rs) (Lp ls) EE t/\m=left ls.length EE t+1)∨(now= .non/\m=0/\(∀v e,EE v=some e->∃b,e=b+Lp ls v/\IsB (ps++rowPs rs) EE v b)/\∀v,v<ls.length->EE v=none->∃q,(v,q)∈ps++rowPs rs/\q<ls.length/\EE q=none)),
    ⟨_,_,none,none,none,none,_,[],fun _=>none,[],fun _=>none,rfl,s3,ha3,tm0,cur0,.inl ⟨0,rfl,cinv_start,rfl⟩⟩,?_⟩
   rintro m σ H4 ⟨now,u6,u7,u8,u9,ats,ks,EE,kvs,g,rfl,s4,ha4,tm4,cur,alt⟩
   refine⟨_,rfl,rfl,_,rfl,?_⟩
   rcases alt with ⟨t,rfl,ci,rfl⟩|⟨rfl,rfl,sys,stuck⟩
   ·refine iteT ⟨_,fun _ _ z=>z,?_⟩
    refine rP _ la p r at_ d t ls.length u6 u7 u8 u9 ls ats ks xs ps as rs EE kvs g H H4 s4 hla rfl hn hp pp hpl hra hls pm hpos hat0 hd0 had ha4 tm4 cur fun B ats' ks' kvs' g' w6 w7 w8 w9 H5 s5 ha5 tm5 hs=>?_
    refine⟨d,kvs',tm5.at_,_,rfl,d,kvs',rfl,tm5.at_,fun ob D hD=>?_⟩
    have Dd:D≠d:=fun z=>by rw [z,upd_same]at hD;cases hD
    have hD5:H5 D=none:=by rw [upd_ne Dd]at hD;exact hD
    have kl5:=tm5.dn.len
    refine compF_vals (d:=d) (o:=ob) (kvs:=kvs') (fun i acc σ H6=>∃(v0:Option V) (l:List Nat),σ=[v0,some (natV t)]/\H6 d=some (.frz ob (.dK kvs'))/\(∀b o,b≠d->H5 b=some o->H6 b=some o)/\H6 D=some (.lst acc)/\acc=nats l/\l.length<=i/\(∀e∈l,t<e/\∃v,begun (Lp ls) EE t B v=some e)/\∀(j:Nat) k tt b e,j<i->kvs'[j]? =some (k,.ref tt)->H5 tt=some (.tup [natV b,natV e])->t<e->e∈l)
     ⟨_,[],rfl,by rw [upd_ne (Ne.symm Dd),upd_same],fun b o nb e=>by rw [upd_ne (ne_of_none e hD5),upd_ne nb];exact e,upd_same,rfl,Nat.le_refl _,(fun _ h=>nomatch h),fun j _ _ _ _ h=>absurd h (Nat.not_lt_zero j)⟩ (fun i acc σ H6 _ ⟨_,_,_,h,_⟩=>h) ?_ ?_
    ·rintro i k x acc σ H6 hx ⟨v0,l,rfl,f6,k6,D6,rfl,hl6,in6,all6⟩
     obtain⟨pz,hpz⟩:=tm5.dn.item hx
     obtain⟨tt,b,e,rfl,htt,hEe⟩:=tm5.tup pz x hpz
     have ntd:tt≠d:=ne_of htt tm5.at_ (by intro z;cases z)
     have hil:i<kvs'.length:=(List.getElem?_eq_some_iff.mp hx).1
     refine⟨_,rfl,tt,_,_,_,rfl,rfl,SqT.of (k6 _ _ ntd htt),rfl,_,rfl,_,_,rfl,rfl,_,rfl,?_⟩
     have new:∀(l':List Nat),(∀z∈l,z∈l')->(t<e->e∈l')->∀(j:Nat) k tt b e,j<i+1->kvs'[j]? =some (k,.ref tt)->H5 tt=some (.tup [natV b,natV e])->t<e->e∈l':=fun l' sub he j k2 t2 b2 e2 hj g1 g2 g3=>by
      rcases Nat.lt_succ_iff_lt_or_eq.mp hj with y|y
      ·exact sub _ (all6 j k2 t2 b2 e2 y g1 g2 g3)
      ·subst y
       rw [hx]at g1
       cases g1
       rw [htt]at g2
       have g4:=HO.tup.inj (Option.some.inj g2)
       have g5:natV e=natV e2:=(List.cons.inj (List.cons.inj g4).2).1
       have g6:e=e2:=by have:=V.int.inj g5;omega
       subst g6
       exact he g3
     by_cases h5:t<e
     ·refine iteTe (decide_eq_true (by omega)) ⟨_,rfl,tt,_,_,_,rfl,rfl,SqT.of (k6 _ _ ntd htt),rfl,?_⟩
      refine cturn D6 (small (by unfold nats;rw [List.length_map];omega)) hil ?_
      refine⟨_,l++[e],rfl,by rw [upd_ne (Ne.symm Dd)];exact f6,fun b o nb h=>by rw [upd_ne (ne_of_none h hD5)];exact k6 _ _ nb h,upd_same,by unfold nats;rw [List.map_append];rfl,by rw [List.length_append];show _+1<=_;omega,fun z hz=>?_,new _ (fun z hz=>List.mem_append_left _ hz) fun _=>by simp⟩
      rcases List.mem_append.mp hz with y|y
      ·exact in6 z y
      ·rw [List.mem_singleton.mp y];exact⟨h5,pz,hEe⟩
     ·refine iteFe (decide_eq_false (by omega)) ?_
      exact cstep hil ⟨_,l,rfl,f6,k6,D6,rfl,by omega,in6,new l (fun z hz=>hz) fun y=>absurd y h5⟩
    ·rintro acc σ H6 ⟨v0,l,rfl,f6,k6,D6,rfl,hl6,in6,all6⟩
     refine⟨⟨ob,f6⟩,?_⟩
     have up:∀b o,b≠d->H5 b=some o->upd H6 d (.dK kvs') b=some o:=fun b o nb e=>by rw [upd_ne nb];exact k6 b o nb e
     have D7:upd H6 d (.dK kvs') D=some (.lst (nats l)):=by rw [upd_ne Dd];exact D6
     have d7:upd H6 d (.dK kvs') d=some (.dK kvs'):=upd_same
     generalize upd H6 d (.dK kvs')=H7 at up D7 d7
     have s7:Same H H7:=fun b o e=>up b o (fun z=>by rw [z,hd0]at e;cases e) (s5 b o e)
     have ha7:=up _ _ had ha5
     have tm7:Tms H7 d ls.length ks' (begun (Lp ls) EE t B) kvs' g':=⟨d7,tm5.dn,fun v x h=>let⟨u,b,e,x1,x2,x3⟩:=tm5.tup v x h;⟨u,b,e,x1,up _ _ (ne_of x2 tm5.at_ (by intro z;cases z)) x2,x3⟩,tm5.non⟩
     have hLp:=Lp_pos hpos
     obtain⟨hA,hAll⟩:=hs.end fun v hv=>pm.mem_iff.mpr (List.mem_range.mpr hv)
     have inl:∀v e,begun (Lp ls) EE t B v=some e->t<e->e∈l:=fun v e h1 h2=>by
      obtain⟨u,b,y1,y2⟩:=tm5.get h1
      obtain⟨i,k,y3⟩:=tm5.dn.has y1
      exact all6 i k u b e (List.getElem?_eq_some_iff.mp y3).1 y3 y2 h2
     refine minD_nat (SqL.of D7) (fun e0=>?_) (fun b hb1 hb2=>?_)
     ·refine⟨0,Nat.succ_pos _,_,_,_,_,_,ats',ks',begun (Lp ls) EE t B,kvs',g',rfl,s7,ha7,tm7,hs.cur,.inr ⟨rfl,rfl,sys_begun hLp ci hA,fun v hv h=>?_⟩⟩
      refine cinv_exit hLp ci hAll (fun v e h=>?_) hG hv h
      by_cases y:t<e
      ·have:=inl v e h y
       rw [e0]at this;cases this
      ·omega
     ·obtain⟨tb,v,hv⟩:=in6 b hb1
      have ci2:=cinv_next hLp ci hA hAll tb fun v e h1 h2=>hb2 e (inl v e h1 h2)
      exact⟨_,Nat.succ_lt_succ (left_less tb (ci2.dom v b hv) hv),_,_,_,_,_,ats',ks',begun (Lp ls) EE t B,kvs',g',rfl,s7,ha7,tm7,hs.cur,.inl ⟨b,rfl,ci2,rfl⟩⟩
   ·refine iteF ?_
    have kl:=tm4.dn.len
    have hll:(nats ls).length=ls.length:=by unfold nats;rw [List.length_map]
    refine⟨_,rfl,d,_,rfl,tm4.at_,_,rfl,la,_,rfl,.inl (SqL.of (s4 _ _ hla)),_,_,rfl,rfl,_,rfl,?_⟩
    rw [hll]
    by_cases few:kvs.length<ls.length
    ·refine iteTe (decide_eq_true (by omega)) ?_
     refine qN H4 s4 ⟨fun v=>v<ls.length/\EE v=none,?_,fun v h=>h.1,fun v h=>?_⟩
     ·obtain⟨v,h1,h2⟩:=missing (n:=ls.length) (W:=ks) (by omega)
      refine⟨v,h1,tm4.non v ?_⟩
      cases z:g v with
      |none=>rfl
      |some x=>exact absurd ((tm4.dn.mem v).mpr (by rw [z];exact fun y=>nomatch y)) h2
     ·obtain⟨q,h1,h2,h3⟩:=stuck v h.1 h.2
      exact⟨q,h1,h2,h3⟩
    ·refine iteFe (decide_eq_false (by omega)) ?_
     have cov:=cover tm4.dn.nd tm4.dn.below (by omega)
     have full:∀v,v<ls.length->∃(t:Addr) (b e:Nat),g v=some (.ref t)/\H4 t=some (.tup [natV b,natV e])/\EE v=some e:=fun v hv=>by
      have:=(tm4.dn.mem v).mp (cov v hv)
      cases z:g v with
      |none=>exact absurd z this
      |some x=>
       obtain⟨t,b,e,rfl,h1,h2⟩:=tm4.tup v x z
       exact⟨t,b,e,rfl,h1,h2⟩
     refine⟨_,rfl,la,_,rfl,.inl (SqL.of (s4 _ _ hla)),_,rfl,by rw [hll];omega,by rw [hll];omega,fun q hq=>?_⟩
     rw [hll]
     refine comp_range (fun i acc σ H5=>∃(v0:Option V) (ts:List Pr),σ=[v0,some (.ref d)]/\Same H4 H5/\H5 q=some (.lst acc)/\PrsAt H5 acc ts/\ts.length=i/\∀v,v<i->EE v=some (ts.getD v (0,0)).2) ⟨_,[],rfl,sameNew hq,upd_same,.nil,rfl,fun v h=>absurd h (Nat.not_lt_zero v)⟩ ?_ ?_
     ·rintro i acc σ H5 hi ⟨v0,ts,rfl,s5,hq5,p5,ht5,he5⟩
      have e0:V.int (0+(i:Int))=natV i:=by show V.int _=V.int _;congr 1;omega
      rw [e0]
      obtain⟨t,b,e,hg,ht,hE⟩:=full i hi
      have dg:=(tm4.same s5).dget i
      rw [hg]at dg
      have la5:=Paired.length p5
      refine⟨_,rfl,_,rfl,d,_,rfl,dg,cturn hq5 (small (by omega)) hi ?_⟩
      refine⟨_,ts++[(b,e)],rfl,sameUpd hq s5,upd_same,?_,by rw [List.length_append,ht5];rfl,fun v hv=>?_⟩
      ·have kt:∀c us,H5 c=some (.tup us)->upd H5 q (.lst (acc++[.ref t])) c=some (.tup us):=fun c us e=>by rw [upd_ne (ne_of e hq5 (by intro z;cases z))];exact e
       exact PrsAt.mono kt (Paired.snoc' p5 ⟨t,rfl,s5 _ _ ht⟩)
      ·by_cases z:v=i
       ·subst z
        rw [hE]
        simp [List.getD, <-ht5]
       ·have:=he5 v (by omega)
        rw [this]
        simp [List.getD,List.getElem?_append_left (show v<ts.length by omega)]
     ·rintro acc σ H5 ⟨v0,ts,rfl,s5,hq5,p5,ht5,he5⟩
      exact qR q acc ts EE H5 (s4.trans s5) (s4.free hq) hq5 p5 ht5 he5 sys
theorem PrsAt.set {H H':Hp} {xs:List V} {ts:List Pr} {i:Nat} {a:Addr} {b e:Nat} (h:PrsAt H xs ts) (s:∀c ys,H c=some (.tup ys)->H' c=some (.tup ys)) (ha:H' a=some (.tup [natV b,natV e])):PrsAt H' (xs.set i (.ref a)) (ts.set i (b,e)):=by
 have h':=PrsAt.mono s h
 clear h
 induction h' generalizing i with
 |nil=>exact .nil
 |cons x t ih=>
  cases i with
  |zero=>exact .cons ⟨a,rfl,ha⟩ t
  |succ i=>exact .cons x (ih (i:=i))
theorem PrsAt.get {H:Hp} {xs:List V} {ts:List Pr} {i:Nat} (h:PrsAt H xs ts) (hi:i<ts.length):∃a,xs[i]? =some (.ref a)/\H a=some (.tup [natV (ts.getD i (0,0)).1,natV (ts.getD i (0,0)).2]):=by
 have hl:=Paired.length h
 obtain⟨p,h1,a,h2,h3⟩:=Paired.get h (i:=i) (x:=xs[i]'(by omega)) (by simp)
 refine⟨a,by rw [<-h2];simp,?_⟩
 have:ts.getD i (0,0)=p:=by simp [List.getD,h1]
 rw [this];exact h3
theorem PrsAt.rep {H:Hp} {a:Addr} (h:H a=some (.tup [natV 0,natV 0])):∀n:Nat,PrsAt H (List.replicate n [V.ref a]).flatten (List.replicate n (0,0))
 |0=> .nil
 |n+1=>by
  rw [List.replicate_succ,List.replicate_succ,List.flatten_cons]
  exact .cons ⟨a,rfl,h⟩ (PrsAt.rep h n)
theorem maxD_nat {K:W.Frag} {H:Hp} {p:Addr} {l:List Nat} {Q:VK} (hq:SqL K H p (nats l)) (k:∀b:Nat,(b=0∨b∈l)->(∀a∈l,a<=b)->Q (natV b) H):rMaxD K [.ref p] [.int 0] H Q:=by
 rw [nats_ints]at hq
 refine⟨p,_,.int 0,rfl,rfl,hq,fun e=>?_,fun m hm hx=>?_⟩
 ·have:l=[]:=by simpa using e
  exact k 0 (.inl rfl) fun a ha=>by rw [this]at ha;cases ha
 ·obtain⟨b,hb,rfl⟩:=List.mem_map.mp hm
  exact k b (.inr hb) fun a ha=>by have:=hx _ (List.mem_map.mpr ⟨a,ha,rfl⟩);omega
theorem nodup_at {ws:List (List Nat)} {i j v:Nat} {wv:List Nat} (h:ws.flatten.Nodup) (hw:ws[i]? =some wv) (hj:wv[j]? =some v):v∉(ws.take i).flatten++wv.take j:=by
 have hi:i<ws.length:=(List.getElem?_eq_some_iff.mp hw).1
 have hjl:j<wv.length:=(List.getElem?_eq_some_iff.mp hj).1
 have e1:ws=ws.take i++wv::ws.drop (i+1):=by
  have:wv=ws[i]:=by rw [List.getElem?_eq_getElem hi]at hw;exact(Option.some.inj hw).symm
  rw [this,List.getElem_cons_drop,List.take_append_drop]
 have e2:wv=wv.take j++v::wv.drop (j+1):=by
  have:v=wv[j]:=by rw [List.getElem?_eq_getElem hjl]at hj;exact(Option.some.inj hj).symm
  rw [this,List.getElem_cons_drop,List.take_append_drop]
 rw [e1,List.flatten_append,List.flatten_cons]at h
 obtain⟨_,hW,dis⟩:=List.nodup_append.mp h
 intro m
 rcases List.mem_append.mp m with m|m
 ·exact dis v m v (List.mem_append_left _ (List.mem_of_getElem? hj)) rfl
 ·have hn:=(List.nodup_append.mp hW).1
  rw [e2]at hn
  exact(List.nodup_append.mp hn).2.2 v m v List.mem_cons_self rfl
abbrev NTimes:List Str:=["lasts","pairs","waves","awaited","waiting","other","times","wave","piece","begin"]
theorem scTimes:FnScope ["lasts","pairs","waves","awaited","waiting","other","times","wave","piece","begin"] ["lasts","pairs"] (defScope sTimes):=⟨rfl,rfl,rfl,by decide+kernel,rfl,by decide+kernel,by decide+kernel⟩
theorem ok_times {f:Addr} {fd:FuncData} (F:Fun K "times_of" "times_of" sTimes f fd) (c_of:Cal P w K mg base CX0 2 "waves_of" ["pairs","many"] spOf) (T:Txt K mg):FnOk P w K mg base CX0 3 f fd ["lasts","pairs"] spTimes:=by
 refine F.ok scTimes (fun vs H Q E h=>?_) (fun cdv A outer s H vs Q E hr h=>?_)
 ·obtain⟨la,p,ls,xs,ps,rfl,_⟩:=h
  rfl
 ·obtain⟨la,p,ls,xs,ps,rfl,hla,hp,hps,hb,hn,hl,qE,qR⟩:=h
  refine⟨_,(pss_cons (ps_set (i:=2) scTimes.nd rfl (Or.inl rfl) (pe_c c_of (hr.mono (by decide)) rfl pass0 (pa_cons (pv 1) (pa_cons (pe_callB call_len_seq (by rfl) T.len PySem.boot_len (pa_cons (pv 0) pa_nil)) pa_nil)))) (pss_cons (ps_if (pt_cmpR op_isN (pv 2) pe_non (nomark _)) (pss_one (ps_nv (pa_cons pe_str pa_nil))) pss_nil) (pss_cons (ps_cp (i:=3) scTimes.nd rfl (Or.inl rfl) (own:=["last"]) (cap:=[]) (g:=gName 0) (defScope sTimes) NTimes rfl rfl (fun x h=>cell_has h) (by decide+kernel) rfl (pi_list (pv 0)) (fun cl C s2 H2 fp=>(pg_name (i:=0) (show(["last"]:List Str).Nodup by decide+kernel) rfl (Or.inl rfl) (Or.inr rfl))) (fun cl C s2 H2 fp=>(pe_lst pa_nil))) (pss_cons (ps_for (g:=gPair K 4 5) PassesOwn.never rfl (pi_list (pv 1)) (pg_tup rfl (pgs_cons (pg_name (i:=4) scTimes.nd rfl (Or.inl rfl)) (pgs_cons (pg_name (i:=5) scTimes.nd rfl (Or.inl rfl)) pgs_nil))) (pss_one (ps_expr (pe_bm PySem.F.plainAttrs_list PySem.F.slot_list_append PySem.F.type_list_append mt_append (pe_ix ix_list (pv 3) (pv 4) (fun _ _=>rfl)) (pa_cons (pv 5) pa_nil))))) (pss_cons (ps_set (i:=6) scTimes.nd rfl (Or.inr rfl) (pe_op op_rep (pe_lst (pa_cons (pe_tup (pa_cons pe_int (pa_cons pe_int pa_nil))) pa_nil)) (pe_callB call_len_seq (by rfl) T.len PySem.boot_len (pa_cons (pv 0) pa_nil)))) (pss_cons (ps_for PassesOwn.never rfl (pi_list (pv 2)) (pg_name (i:=7) scTimes.nd rfl (Or.inl rfl)) (pss_one (ps_for PassesOwn.never rfl (pi_list (pv 7)) (pg_name (i:=8) scTimes.nd rfl (Or.inl rfl)) (pss_cons (ps_set (i:=9) scTimes.nd rfl (Or.inl rfl) (pe_callBK (call_maxD rfl) rfl T.max boot_max (pa_cons (pe_cp (own:=["other"]) (cap:=[("times",6)]) (g:=gName 0) (defScope sTimes) NTimes rfl rfl (fun x h=>cell_has h) (by decide+kernel) rfl (pi_list (pe_ix ix_list (pv 3) (pv 8) (fun _ _=>rfl))) (fun cl C s2 H2 fp=>(pg_name (i:=0) (show(["other","times"]:List Str).Nodup by decide+kernel) rfl (Or.inl rfl) (Or.inr rfl))) (fun cl C s2 H2 fp=>(pe_ix (r:=rIxT K) ix_tup (pe_ix (r:=rIxL K) ix_list (pv 1) (pv 0) (fun _ _=>rfl)) pe_int (fun _ _=>rfl)))) pa_nil) (pk_cons pe_int pk_nil))) (pss_one (ps_asg (pe_tup (pa_cons (pv 9) (pa_cons (pe_op op_add (pv 9) (pe_ix ix_list (pv 0) (pv 8) (fun _ _=>rfl))) pa_nil))) (pg_sub (pv 6) (pv 8) set_list))))))) (pss_one (ps_ret (pv 6))))))))),?_⟩
  refine⟨_,rfl,_,rfl,la,_,rfl,.inl (SqL.of hla),p,xs,ls.length,ps,by unfold nats;rw [List.length_map];rfl,hp,hps,hb,hn,hl,?_,?_⟩
  ·intro H1 s1 rg
   obtain⟨v,hv⟩:=rg
   exact absurd hv (qE v)
  ·intro q aw ws H1 s1 hq lw ok cov
   refine⟨_,rfl,rfl,_,rfl,?_⟩
   refine iteF ?_
   refine⟨_,rfl,la,rfl,⟨_,SqL.of (s1 _ _ hla)⟩,fun D hD=>?_⟩
   refine comp_newsL (K:=K) (by rw [List.length_map];omega) (s1 _ _ hla) ⟨none,rfl⟩ hD fun as H2 s2 ll=>?_
   rw [List.length_map]at ll
   have ll0:NewLL H1 H2 D as (nxG (·.1) (·.2) (ps.take 0) ls.length):=by rw [List.take_zero,nxG_nil];exact ll
   have s12:=s1.trans s2
   refine⟨_,rfl,p,rfl,⟨_,SqL.of (s12 _ _ hp)⟩,?_⟩
   refine for_list (K:=K) (a:=p) (xs:=xs) (fun i σ H3=>∃(v4 v5:Option V),σ=[some (.ref la),some (.ref p),some (.ref q),some (.ref D),v4,v5,none,none,none,none]/\Same H1 H3/\NewLL H1 H3 D as (nxG (·.1) (·.2) (ps.take i) ls.length))
    ⟨none,none,rfl,s2,ll0⟩ (fun i σ H3 _ ⟨_,_,_,s3,_⟩=>SqL.of (s3 _ _ (s1 _ _ hp))) ?_ ?_
   ·rintro i x σ H3 hi ⟨v4,v5,rfl,s3,ll3⟩
    obtain⟨pq,hpq,t,rfl,ht⟩:=Paired.get hps hi
    have hpm:=hb pq (List.mem_of_getElem? hpq)
    refine⟨t,_,rfl,SqT.of (s3 _ _ (s1 _ _ ht)),rfl,_,_,rfl,_,_,rfl,rfl,?_⟩
    have hx:=nxG_get (key:=(·.1)) (val:=(·.2)) (ps:=ps.take i) hpm.1
    obtain⟨b,e1,e2⟩:=listsAt_get ll3.at_ hx
    have hbm:=List.mem_of_getElem? e1
    have hbl:(nats (((ps.take i).filter fun p=>decide (p.1=pq.1)).map (·.2))).length<sizeLine:=by
     refine small ?_
     unfold nats
     rw [List.length_map,List.length_map]
     have:=List.length_filter_le (fun p:Pr=>decide (p.1=pq.1)) (ps.take i)
     rw [List.length_take]at this
     omega
    refine⟨_,rfl,_,rfl,D,_,_,_,rfl,rfl,SqL.of ll3.top,atI_nat (show(as.map V.ref)[pq.1]? =some (.ref b) by rw [List.getElem?_map,e1];rfl),.inl ⟨rfl,_,SqL.of e2⟩,?_⟩
    refine⟨_,rfl,b,_,_,rfl,rfl,e2,hbl,?_⟩
    refine⟨_,_,rfl,sameUpd (ll3.new b hbm).1 s3,?_⟩
    rw [List.take_succ,hpq]
    have:=ll3.app hx e1 pq.2
    rw [nxG_snoc (key:=(·.1)) (val:=(·.2)) hpm.1]at this
    exact this
   ·rintro σ H3 ⟨v4,v5,rfl,s3,ll3⟩
    rw [show xs.length=ps.length from Paired.length hps,List.take_length]at ll3
    refine⟨by show 2<=sizeLine;decide,fun z hz=>⟨by show 1<=sizeLine;decide,fun l0 hl0=>?_⟩⟩
    have sz:Same H3 (upd (upd H3 z (.tup [.int 0,.int 0])) l0 (.lst [.ref z])):=(sameNew hz).trans (sameNew hl0)
    have hz':upd (upd H3 z (.tup [.int 0,.int 0])) l0 (.lst [.ref z]) z=some (.tup [natV 0,natV 0]):=sameNew hl0 _ _ upd_same
    have hl0':upd (upd H3 z (.tup [.int 0,.int 0])) l0 (.lst [.ref z]) l0=some (.lst [.ref z]):=upd_same
    generalize upd (upd H3 z (.tup [.int 0,.int 0])) l0 (.lst [.ref z])=H4 at sz hz' hl0'
    have s4:=s3.trans sz
    refine⟨_,rfl,la,_,rfl,.inl (SqL.of (s4 _ _ (s1 _ _ hla))),l0,_,_,rfl,rfl,hl0',by omega,?_,?_,fun tq htq=>?_⟩
    ·unfold nats;rw [List.length_map];omega
    ·show 1*_<=sizeLine
     have:=small (n:=100) (by decide)
     unfold nats;rw [List.length_map];omega
    have s5:Same H4 (upd H4 tq (.lst (List.replicate (((nats ls).length:Nat):Int).toNat [V.ref z]).flatten)):=sameNew htq
    have h5:upd H4 tq (.lst (List.replicate (((nats ls).length:Nat):Int).toNat [V.ref z]).flatten) tq=some (.lst (List.replicate ls.length [V.ref z]).flatten):=by rw [upd_same];unfold nats;rw [List.length_map];rfl
    have p5:PrsAt (upd H4 tq (.lst (List.replicate (((nats ls).length:Nat):Int).toNat [V.ref z]).flatten)) (List.replicate ls.length [V.ref z]).flatten (List.replicate ls.length (0,0)):=PrsAt.rep (s5 _ _ hz') _
    generalize upd H4 tq (.lst (List.replicate (((nats ls).length:Nat):Int).toNat [V.ref z]).flatten)=H5 at s5 h5 p5
    have tq1:H1 tq=none:=s4.free htq
    have tqD:tq≠D:=Ne.symm (ne_of_none (sz _ _ ll3.top) htq)
    have tqA:tq∉as:=fun m=>by
     obtain⟨j,hj⟩:=List.mem_iff_getElem?.mp m
     obtain⟨l,_,e⟩:=Paired.get ll3.at_ hj
     rw [sz _ _ e]at htq;cases htq
    have ll5:NewLL H1 H5 D as (nxG (·.1) (·.2) ps ls.length):=ll3.keep fun b o _ e=>s5 _ _ (sz _ _ e)
    have wq:H1 q=some (.lst (aw.map V.ref)):=lw.top
    refine⟨_,rfl,q,rfl,⟨_,SqL.of (s5 _ _ (s4 _ _ wq))⟩,?_⟩
    refine for_list (K:=K) (a:=q) (xs:=aw.map V.ref) (fun i σ H6=>∃(v7 v8 v9:Option V) (ys:List V) (ts:List Pr),σ=[some (.ref la),some (.ref p),some (.ref q),some (.ref D),v4,v5,some (.ref tq),v7,v8,v9]/\Same H1 H6/\H6 tq=some (.lst ys)/\PrsAt H6 ys ts/\NewLL H1 H6 D as (nxG (·.1) (·.2) ps ls.length)/\Tm ps ls (ws.take i).flatten ts)
     ⟨none,none,none,_,_,rfl,s4.trans s5,h5,p5,ll5,by rw [List.take_zero];exact Tm.start (by rw [List.length_replicate])⟩ (fun i σ H6 _ ⟨_,_,_,_,_,_,s6,_⟩=>SqL.of (s6 _ _ wq)) ?_ ?_
    ·rintro i x σ H6 hi ⟨v7,v8,v9,ys,ts,rfl,s6,h6,p6,ll6,tm⟩
     rw [List.getElem?_map]at hi
     obtain⟨bw,hbw,ebw⟩:∃bw,aw[i]? =some bw/\x= .ref bw:=by
      cases g:aw[i]? with
      |none=>rw [g]at hi;cases hi
      |some b=>rw [g]at hi;cases hi;exact⟨b,rfl,rfl⟩
     subst ebw
     obtain⟨wv,hwv,ewv⟩:=Paired.get lw.at_ hbw
     refine⟨_,rfl,bw,rfl,⟨_,SqL.of (s6 _ _ ewv)⟩,?_⟩
     refine for_list (K:=K) (a:=bw) (xs:=nats wv) (fun j σ H7=>∃(v8 v9:Option V) (ys:List V) (ts:List Pr),σ=[some (.ref la),some (.ref p),some (.ref q),some (.ref D),v4,v5,some (.ref tq),some (.ref bw),v8,v9]/\Same H1 H7/\H7 tq=some (.lst ys)/\PrsAt H7 ys ts/\NewLL H1 H7 D as (nxG (·.1) (·.2) ps ls.length)/\Tm ps ls ((ws.take i).flatten++wv.take j) ts)
      ⟨v8,v9,ys,ts,rfl,s6,h6,p6,ll6,by rw [List.take_zero,List.append_nil];exact tm⟩ (fun j σ H7 _ ⟨_,_,_,_,_,s7,_⟩=>SqL.of (s7 _ _ ewv)) ?_ ?_
     ·rintro j x σ H7 hj ⟨v8,v9,ys,ts,rfl,s7,h7,p7,ll7,tm⟩
      obtain⟨pc,rfl,hpc⟩:=get_nats hj
      have hpw:=List.mem_of_getElem? hpc
      have hpn:pc<ls.length:=ok.below pc (List.mem_flatten.mpr ⟨wv,List.mem_of_getElem? hwv,hpw⟩)
      have pre:∀r,(pc,r)∈ps->r∈(ws.take i).flatten++wv.take j:=fun r m=>List.mem_append_left _ (ok.lean i wv hwv pc hpw r m)
      have nd:=nodup_at ok.nodup hwv hpc
      have hx:=nxG_get (key:=(·.1)) (val:=(·.2)) (ps:=ps) hpn
      obtain⟨ba,e1,e2⟩:=listsAt_get ll7.at_ hx
      refine⟨_,rfl,_,rfl,D,_,_,_,rfl,rfl,SqL.of ll7.top,atI_nat (show(as.map V.ref)[pc]? =some (.ref ba) by rw [List.getElem?_map,e1];rfl),ba,rfl,⟨_,SqL.of e2⟩,fun D2 hD2=>?_⟩
      refine comp_list (K:=K) (a:=ba) (xs:=nats ((ps.filter fun p=>decide (p.1=pc)).map (·.2))) (fun k acc σ H8=>∃v0,σ=[v0,some (.ref tq)]/\Same H7 H8/\H8 D2=some (.lst acc)/\acc=nats ((((ps.filter fun p=>decide (p.1=pc)).map (·.2)).take k).map fun r=>(ts.getD r (0,0)).2)) ⟨_,rfl,sameNew hD2,upd_same,rfl⟩ (fun k acc σ H8 _ ⟨_,_,s8,_⟩=>SqL.of (s8 _ _ e2)) ?_ ?_
      ·rintro k x acc σ H8 hk hxk ⟨v0,rfl,s8,hD8,rfl⟩
       obtain⟨r,rfl,hr2⟩:=get_nats hxk
       have hrn:r<ts.length:=by
        rw [tm.len]
        exact(hb _ (nx_mem.mp (List.mem_of_getElem? hr2))).2
       obtain⟨t,g1,g2⟩:=PrsAt.get p7 hrn
       refine⟨_,rfl,_,rfl,tq,_,_,_,rfl,rfl,SqL.of (s8 _ _ h7),atI_nat g1,t,_,_,_,rfl,rfl,SqT.of (s8 _ _ g2),rfl,?_⟩
       refine cturn hD8 (small ?_) hk ⟨_,rfl,sameUpd hD2 s8,upd_same,?_⟩
       ·unfold nats
        rw [List.length_map,List.length_map,List.length_take]
        have:=List.length_filter_le (fun p:Pr=>decide (p.1=pc)) ps
        rw [List.length_map]
        omega
       ·unfold nats
        rw [List.take_succ,hr2,List.map_append,List.map_append]
        rfl
      ·rintro acc σ H8 ⟨v0,rfl,s8,hD8,rfl⟩
       have elen:(nats ((ps.filter fun p=>decide (p.1=pc)).map (·.2))).length=((ps.filter fun p=>decide (p.1=pc)).map (·.2)).length:=by unfold nats;rw [List.length_map]
       rw [elen,List.take_length]at hD8
       refine maxD_nat (SqL.of hD8) fun b hb0 hbm=>?_
       have isb:IsB ps (Tf ts) pc b:=by
        refine⟨fun r m=>⟨_,rfl,hbm _ (List.mem_map.mpr ⟨r,nx_mem.mpr m,rfl⟩)⟩,hb0.imp id fun m=>?_⟩
        obtain⟨r,m1,rfl⟩:=List.mem_map.mp m
        exact⟨r,nx_mem.mp m1,rfl⟩
       have h8:=s8 _ _ h7
       have p8:=PrsAt.mono (fun c ys e=>s8 c _ e) p7
       have ll8:=ll7.keep fun c o _ e=>s8 c o e
       have hlen:ys.length=ls.length:=(Paired.length p7).trans tm.len
       have hlp:(nats ls)[pc]? =some (natV (Lf ls pc)):=by unfold nats Lf;rw [List.getElem?_map,List.getElem?_eq_getElem hpn];simp [List.getD,hpn]
       refine⟨_,rfl,_,rfl,_,rfl,_,rfl,la,_,_,_,rfl,rfl,SqL.of (s8 _ _ (s7 _ _ (s1 _ _ hla))),atI_nat hlp,_,_,rfl,rfl,by show 2<=sizeLine;decide,fun t ht=>?_⟩
       have s9:Same H8 (upd H8 t (.tup [natV b,.int ((b:Int)+(Lf ls pc:Nat))])):=sameNew ht
       have t9:upd H8 t (.tup [natV b,.int ((b:Int)+(Lf ls pc:Nat))]) t=some (.tup [natV b,natV (b+Lf ls pc)]):=by rw [upd_same];rfl
       generalize upd H8 t (.tup [natV b,.int ((b:Int)+(Lf ls pc:Nat))])=H9 at s9 t9
       refine⟨_,rfl,_,rfl,tq,_,_,pc,rfl,rfl,s9 _ _ h8,by rw [hlen];exact ix_nat hpn,?_⟩
       have ttq:t≠tq:=Ne.symm (ne_of_none h8 ht)
       have kt:∀c zs,H9 c=some (.tup zs)->upd H9 tq (.lst (ys.set pc (.ref t))) c=some (.tup zs):=fun c zs e=>by
        rw [upd_ne (ne_of e (s9 _ _ h8) (by intro z;cases z))];exact e
       refine⟨_,_,ys.set pc (.ref t),ts.set pc (b,b+Lf ls pc),rfl,sameUpd tq1 (s7.trans (s8.trans s9)),upd_same,PrsAt.set (PrsAt.mono (fun c zs e=>s9 c _ e) p8) kt (by rw [upd_ne ttq];exact t9),?_,?_⟩
       ·refine(ll8.keep fun c o _ e=>s9 c o e).keep fun c o hc e=>?_
        have:c≠tq:=by
         rcases hc with z|z
         ·rw [z];exact Ne.symm tqD
         ·exact fun y=>tqA (y▸z)
        rw [upd_ne this];exact e
       ·have:=tm.step hpn nd pre isb
        rw [List.append_assoc]at this
        have e:wv.take j++[pc]=wv.take (j+1):=by rw [List.take_succ,hpc];rfl
        rw [e]at this
        exact this
     ·rintro σ H7 ⟨v8,v9,ys,ts,rfl,s7,h7,p7,ll7,tm⟩
      refine⟨_,v8,v9,ys,ts,rfl,s7,h7,p7,ll7,?_⟩
      have e:(nats wv).length=wv.length:=by unfold nats;rw [List.length_map]
      rw [e,List.take_length]at tm
      rw [List.take_succ,hwv]
      have e2:(ws.take i++[wv]).flatten=(ws.take i).flatten++wv:=by simp
      exact(show(ws.take i++(some wv).toList).flatten=_ from e2)▸tm
    ·rintro σ H6 ⟨v7,v8,v9,ys,ts,rfl,s6,h6,p6,ll6,tm⟩
     rw [List.length_map,lw.len,List.take_length]at tm
     exact⟨_,rfl,qR tq ys ts ws H6 (s1.trans s6) (s1.free tq1) h6 p6 ⟨tm.len,fun p hp=>tm.sys p (cov p hp)⟩ ok cov⟩
def IsMx (m:Nat) (ts:List Pr):Prop:=(m=0∨∃t∈ts,t.2=m)/\∀t∈ts,t.2<=m
def spLast:Sp:=fun vs H Q _=>∃(t:Addr) (xs:List V) (ts:List Pr),vs=[.ref t]/\H t=some (.lst xs)/\PrsAt H xs ts/\ts.length<=1000/\∀(m:Nat) (H':Hp),Same H H'->IsMx m ts->Q (natV m) H'
abbrev NLast:List Str:=["times"]
theorem scLast:FnScope ["times"] ["times"] (defScope sLast):=⟨rfl,rfl,rfl,by decide+kernel,rfl,by decide+kernel,by decide+kernel⟩
theorem ok_last {f:Addr} {fd:FuncData} (F:Fun K "last_end" "last_end" sLast f fd) (T:Txt K mg):FnOk P w K mg base CX0 1 f fd ["times"] spLast:=by
 refine F.ok scLast (fun vs H Q E h=>?_) (fun cdv A outer s H vs Q E hr h=>?_)
 ·obtain⟨t,xs,ts,rfl,_⟩:=h
  rfl
 ·obtain⟨t,xs,ts,rfl,ht,pt,hl,q⟩:=h
  refine⟨_,(pss_one (ps_ret (pe_callBK (call_maxD rfl) rfl T.max boot_max (pa_cons (pe_cp (own:=["begin","end"]) (cap:=[]) (g:=gPair K 0 1) (defScope sLast) NLast rfl rfl (fun x h=>cell_has h) (by decide+kernel) rfl (pi_list (pv 0)) (fun cl C s2 H2 fp=>(pg_tup rfl (pgs_cons (pg_name (i:=0) (show(["begin","end"]:List Str).Nodup by decide+kernel) rfl (Or.inl rfl) (Or.inr rfl)) (pgs_cons (pg_name (i:=1) (show(["begin","end"]:List Str).Nodup by decide+kernel) rfl (Or.inl rfl) (Or.inr rfl)) pgs_nil)))) (fun cl C s2 H2 fp=>(pv 1))) pa_nil) (pk_cons pe_int pk_nil)))),?_⟩
  refine⟨_,rfl,t,rfl,⟨_,SqL.of ht⟩,fun D hD=>?_⟩
  have hlx:=Paired.length pt
  refine comp_listG (K:=K) (a:=t) (xs:=xs) (fun i acc σ H2=>(∃v0 v1,σ=[v0,v1])/\Same H H2/\H2 D=some (.lst acc)/\acc=nats ((ts.take i).map (·.2))) ⟨⟨_,_,rfl⟩,sameNew hD,upd_same,rfl⟩ (fun i acc σ H2 _ ⟨_,s2,_⟩=>SqL.of (s2 _ _ ht)) ?_ ?_
  ·rintro i x acc σ H2 hi hx ⟨⟨v0,v1,rfl⟩,s2,hD2,rfl⟩
   obtain⟨pq,hpq,b,rfl,hb⟩:=Paired.get pt hx
   refine⟨b,_,rfl,SqT.of (s2 _ _ hb),rfl,_,_,rfl,_,_,rfl,rfl,?_⟩
   refine⟨_,rfl,cturn hD2 (small ?_) hi ⟨⟨_,_,rfl⟩,sameUpd hD s2,upd_same,?_⟩⟩
   ·unfold nats;rw [List.length_map,List.length_map,List.length_take];omega
   ·unfold nats;rw [List.take_succ,hpq,List.map_append,List.map_append];rfl
  ·rintro acc σ H2 ⟨_,s2,hD2,rfl⟩
   rw [hlx,List.take_length]at hD2
   refine maxD_nat (SqL.of hD2) fun b h1 h2=>q b H2 s2 ⟨h1.imp id fun m=>?_,fun t m=>h2 _ (List.mem_map.mpr ⟨t,m,rfl⟩)⟩
   obtain⟨t,m1,e⟩:=List.mem_map.mp m
   exact⟨t,m1,e⟩
structure Ends_ (ls:List Nat) (G:List Pr) (E:Nat->Nat) (m:Nat):Prop where
 sys:∀v,v<ls.length->∃b,E v=b+ls.getD v 0/\(∀q,(v,q)∈G->E q<=b)/\(b=0∨∃q,(v,q)∈G/\E q=b)
 le:∀v,v<ls.length->E v<=m
 is:m=0∨∃v,v<ls.length/\E v=m
def spEnd:Sp:=fun vs H Q _=>∃(la p r:Addr) (ls:List Nat) (xs:List V) (ps:List Pr) (as:List Addr) (rs:List (List Nat)),vs=[.ref la,.ref p,.ref r]/\H la=some (.lst (nats ls))/\ls.length<=60/\H p=some (.lst xs)/\PrsAt H xs ps/\Below ls.length ps/\ps.length<=100/\
 H r=some (.lst (as.map V.ref))/\ListsAt H as rs/\rs.length<=100/\rs.flatten.Perm (List.range ls.length)/\(∀k∈ls,0<k)/\
 (∀H',Same H H'->(∃S:Nat->Prop,(∃v,S v)/\(∀v,S v->v<ls.length)/\∀v,S v->∃q,(v,q)∈ps++rowPs rs/\S q)->Q .non H')/\
 ∀(m:Nat) (E:Nat->Nat) (H':Hp),Same H H'->Ends_ ls (ps++rowPs rs) E m->Q (natV m) H'
abbrev NEnd:List Str:=["_law_lasts","_law_pairs","_law_rows_here","_law_times"]
theorem scEnd:FnScope ["_law_lasts","_law_pairs","_law_rows_here","_law_times"] ["_law_lasts","_law_pairs","_law_rows_here"] (defScope sEnd):=⟨rfl,rfl,rfl,by decide+kernel,rfl,by decide+kernel,by decide+kernel⟩
theorem ok_end {f:Addr} {fd:FuncData} (F:Fun K "_law_rows_end" "_law_rows_end" sEnd f fd) (c_clock:Cal P w K mg base CX0 1 "_law_clock" ["_law_lasts","_law_pairs","_law_rows_here"] spClock) (T:Txt K mg):FnOk P w K mg base CX0 2 f fd ["_law_lasts","_law_pairs","_law_rows_here"] spEnd:=by
 refine F.ok scEnd (fun vs H Q E h=>?_) (fun cdv A outer s H vs Q E hr h=>?_)
 ·obtain⟨la,p,r,ls,xs,ps,as,rs,rfl,_⟩:=h
  rfl
 ·obtain⟨la,p,r,ls,xs,ps,as,rs,rfl,a1,a2,a3,a4,a5,a6,a7,a8,a9,a10,a11,qN,qT⟩:=h
  refine⟨_,(pss_cons (ps_set (i:=3) scEnd.nd rfl (Or.inl rfl) (pe_c c_clock (hr.mono (by decide)) rfl pass0 (pa_cons (pv 0) (pa_cons (pv 1) (pa_cons (pv 2) pa_nil))))) (pss_cons (ps_if (pt_cmpR op_isN (pv 3) pe_non (nomark _)) (pss_one (ps_ret pe_non)) pss_nil) (pss_one (ps_ret (pe_callBK (call_maxD rfl) rfl T.max boot_max (pa_cons (pe_cp (own:=["_law_pair"]) (cap:=[]) (g:=gName 0) (defScope sEnd) NEnd rfl rfl (fun x h=>cell_has h) (by decide+kernel) rfl (pi_list (pv 3)) (fun cl C s2 H2 fp=>(pg_name (i:=0) (show(["_law_pair"]:List Str).Nodup by decide+kernel) rfl (Or.inl rfl) (Or.inr rfl))) (fun cl C s2 H2 fp=>(pe_ix (r:=rIxT K) ix_tup (pv 0) pe_int (fun _ _=>rfl)))) pa_nil) (pk_cons pe_int pk_nil)))))),?_⟩
  refine⟨_,rfl,_,rfl,_,rfl,la,p,r,ls,xs,ps,as,rs,rfl,a1,a2,a3,a4,a5,a6,a7,a8,a9,a10,a11,fun H1 s1 nest=>?_,fun q ys ts EE H1 s1 hq eq pt tl hE sE=>?_⟩
  ·exact⟨_,rfl,rfl,_,rfl,iteT (qN H1 s1 nest)⟩
  ·refine⟨_,rfl,rfl,_,rfl,iteF ?_⟩
   have hlx:=Paired.length pt
   refine⟨_,rfl,q,rfl,⟨_,SqL.of eq⟩,fun D hD=>?_⟩
   refine comp_list (K:=K) (a:=q) (xs:=ys) (fun i acc σ H2=>(∃v0,σ=[v0])/\Same H1 H2/\H2 D=some (.lst acc)/\acc=nats ((ts.take i).map (·.2))) ⟨⟨_,rfl⟩,sameNew hD,upd_same,rfl⟩ (fun i acc σ H2 _ ⟨_,s2,_⟩=>SqL.of (s2 _ _ eq)) ?_ ?_
   ·rintro i x acc σ H2 hi hx ⟨⟨v0,rfl⟩,s2,hD2,rfl⟩
    obtain⟨pq,hpq,b,rfl,hb⟩:=Paired.get pt hx
    refine⟨_,rfl,b,_,_,_,rfl,rfl,SqT.of (s2 _ _ hb),rfl,cturn hD2 (small ?_) hi ⟨⟨_,rfl⟩,sameUpd hD s2,upd_same,?_⟩⟩
    ·unfold nats;rw [List.length_map,List.length_map,List.length_take];omega
    ·unfold nats;rw [List.take_succ,hpq,List.map_append,List.map_append];rfl
   ·rintro acc σ H2 ⟨_,s2,hD2,rfl⟩
    rw [hlx,List.take_length]at hD2
    have gt:∀v,v<ls.length->ts.getD v (0,0)∈ts:=fun v hv=>by
     have:v<ts.length:=by omega
     simp [List.getD,this]
    have bG:Below ls.length (ps++rowPs rs):=fun z hz=>by
     rcases List.mem_append.mp hz with m|m
     ·exact a5 z m
     ·exact rowPs_mem (fun k hk=>List.mem_range.mp (a10.mem_iff.mp hk)) z m
    refine maxD_nat (SqL.of hD2) fun b h1 h2=>qT b (fun v=>(ts.getD v (0,0)).2) H2 (s1.trans s2) ⟨fun v hv=>?_,fun v hv=>h2 _ (List.mem_map.mpr ⟨_,gt v hv,rfl⟩),h1.imp id fun m=>?_⟩
    ·obtain⟨c,e,h3,h4⟩:=sE v _ (hE v hv)
     have lp:Lp ls v=ls.getD v 0:=Lp_eq hv
     refine⟨c,by rw [<-lp];exact e,fun q hq=>?_,h4.imp id fun⟨q,hq,e2⟩=>⟨q,hq,?_⟩⟩
     ·obtain⟨e2,e3,e4⟩:=h3 q hq
      rw [hE q (bG _ hq).2]at e3
      cases e3
      exact e4
     ·rw [hE q (bG _ hq).2]at e2
      cases e2
      rfl
    ·obtain⟨t,m1,e⟩:=List.mem_map.mp m
     obtain⟨v,hv,rfl⟩:=List.getElem_of_mem m1
     exact⟨v,by omega,by rw [<-e];simp [List.getD,hv]⟩
theorem sorted_range {l m:List Nat} {n:Nat} (p:m.Perm l) (o:m.Pairwise (·<=·)):decide (m=List.range n)=decide (l.Perm (List.range n)):=by
 by_cases h:m=List.range n
 ·subst h
  rw [decide_eq_true rfl,decide_eq_true p.symm]
 ·rw [decide_eq_false h,decide_eq_false fun q=>h ?_]
  exact(p.trans q).eq_of_pairwise (le:=(·<=·)) (fun a b _ _ h1 h2=>Nat.le_antisymm h1 h2) o (List.pairwise_lt_range.imp Nat.le_of_lt)
theorem nat_perm {ms:List Int} {l:List Nat} (p:ms.Perm (l.map fun k:Nat=>(k:Int))) (o:ms.Pairwise (·<=·)):∃m:List Nat,ms=m.map (fun k:Nat=>(k:Int))/\m.Perm l/\m.Pairwise (·<=·):=by
 have nn:∀z∈ms,0<=z:=fun z hz=>by
  obtain⟨k,_,rfl⟩:=List.mem_map.mp (p.mem_iff.mp hz)
  exact Int.natCast_nonneg k
 have e:ms=(ms.map Int.toNat).map (fun k:Nat=>(k:Int)):=by
  rw [List.map_map]
  have:∀z∈ms,((fun k:Nat=>(k:Int))∘Int.toNat) z=id z:=fun z hz=>Int.toNat_of_nonneg (nn z hz)
  rw [List.map_congr_left this,List.map_id]
 refine⟨ms.map Int.toNat,e,?_,?_⟩
 ·have:=p.map Int.toNat
  rw [List.map_map]at this
  have id':(l.map (Int.toNat∘fun k:Nat=>(k:Int)))=l:=by
   have:(Int.toNat∘fun k:Nat=>(k:Int))=id:=by funext k;simp
   rw [this,List.map_id]
  rw [id']at this
  exact this
 ·rw [List.pairwise_map]
  exact o.imp fun h=>by omega
def rIsIn (K:W.Frag):List V->Hp->VK->Prop:=fun xs H Q=>∃x n t b,xs=[x,.ty n]/\TyOf K H x t/\W.kitOne K t (.type n)=some b/\Q (.bl b) H
theorem call_isinstK {X:Cx} {K:W.Frag} (h:X.K=K):CallR X (.builtin "isinstance") (rIsIn K):=by
 subst h
 exact call_isinst
def spAre:Sp:=fun vs H Q _=>∃(r:Addr) (n:Nat) (as:List Addr) (rs:List (List Nat)),vs=[.ref r,natV n,natV rs.length]/\H r=some (.lst (as.map V.ref))/\ListsAt H as rs/\rs.flatten.Perm (List.range n)/\n<=60/\∀H',Same H H'->Q (.bl true) H'
abbrev NAre:List Str:=["_law_rows_here","_law_many","_law_hands","_law_all_of_them","_law_row"]
theorem scAre:FnScope ["_law_rows_here","_law_many","_law_hands","_law_all_of_them","_law_row"] ["_law_rows_here","_law_many","_law_hands"] (defScope sAre):=⟨rfl,rfl,rfl,by decide+kernel,rfl,by decide+kernel,by decide+kernel⟩
theorem ok_are {f:Addr} {fd:FuncData} (F:Fun K "_law_are_rows" "_law_are_rows" sAre f fd) (T:Txt K mg):FnOk P w K mg base CX0 1 f fd ["_law_rows_here","_law_many","_law_hands"] spAre:=by
 refine F.ok scAre (fun vs H Q E h=>?_) (fun cdv A outer s H vs Q E hr h=>?_)
 ·obtain⟨r,n,as,rs,rfl,_⟩:=h
  rfl
 ·obtain⟨r,n,as,rs,rfl,hr_,la,pm,hn,q⟩:=h
  have hu:=hu_of hr
  have alen:=Paired.length la
  refine⟨_,(pss_cons (ps_if (PW.pt (pw_or (pt_not (pt_val (pe_callB (call_isinstK (K:=K) rfl) rfl T.isinstance boot_isinstance (pa_cons (pv 0) (pa_cons (pe_ty rfl T.list boot_list) pa_nil))))) (pw_or1 (pt_cmpR op_ne (pe_callB call_len_seq (by rfl) T.len PySem.boot_len (pa_cons (pv 0) pa_nil)) (pv 2) (nomark _))))) (pss_one (ps_ret pe_bl)) pss_nil) (pss_cons (ps_set (i:=3) scAre.nd rfl (Or.inl rfl) (pe_lst pa_nil)) (pss_cons (ps_for PassesOwn.never rfl (pi_list (pv 0)) (pg_name (i:=4) scAre.nd rfl (Or.inl rfl)) (pss_cons (ps_if (pt_not (pt_val (pe_callB (call_isinstK (K:=K) rfl) rfl T.isinstance boot_isinstance (pa_cons (pv 4) (pa_cons (pe_ty rfl T.list boot_list) pa_nil))))) (pss_one (ps_ret pe_bl)) pss_nil) (pss_one (ps_set (i:=3) scAre.nd rfl (Or.inl rfl) (pe_op op_cat (pv 3) (pv 4)))))) (pss_cons (ps_if (pt_cmpR (op_ne2 hu) (pe_cpF (own:=["_law_p"]) (cap:=[]) (g:=gName 0) (defScope sAre) NAre rfl rfl (fun x h=>cell_has h) (by decide+kernel) rfl (pi_list (pv 3)) (fun cl C s2 H2 fp=>(pg_name (i:=0) (show(["_law_p"]:List Str).Nodup by decide+kernel) rfl (Or.inl rfl) (Or.inr rfl))) (fun cl C s2 H2 fp=>(pt_val (pe_callB (call_isinstK (K:=K) rfl) rfl T.isinstance boot_isinstance (pa_cons (pv 0) (pa_cons (pe_ty rfl T.bool boot_bool) pa_nil))))) (fun cl C s2 H2 fp=>(pv 0))) (pe_lst pa_nil) (nomark _)) (pss_one (ps_ret pe_bl)) pss_nil) (pss_one (ps_ret (pe_cmpR (op_eq2 hu) (pe_callB call_sorted rfl T.sorted boot_sorted (pa_cons (pv 3) pa_nil)) (pe_callTy (call_listR rfl) rfl T.list boot_list (pa_cons (pe_callTy call_rangeO rfl T.range boot_range (pa_cons (pv 1) pa_nil)) pa_nil)) (nomark _)))))))),?_⟩
  refine⟨_,rfl,_,_,_,_,rfl,.lst hr_,rfl,_,rfl,iteF ?_⟩
  refine⟨_,rfl,r,_,rfl,.inl (SqL.of hr_),_,rfl,rfl,_,rfl,?_⟩
  have lA:(as.map V.ref).length=rs.length:=by rw [List.length_map,alen]
  refine iteFe (by rw [lA];simp) ?_
  refine⟨Nat.zero_le _,fun l0 hl0=>?_⟩
  generalize g:upd H l0 _=H1
  obtain⟨s1,e1⟩:=new_of hl0 g
  have fl:rs.flatten.length=n:=by rw [pm.length_eq,List.length_range]
  refine⟨_,rfl,r,rfl,⟨_,SqL.of (s1 _ _ hr_)⟩,?_⟩
  refine for_list (K:=K) (a:=r) (xs:=as.map V.ref) (fun i σ H2=>∃(l:Addr) (v4:Option V),σ=[some (.ref r),some (natV n),some (natV rs.length),some (.ref l),v4]/\Same H H2/\H2 l=some (.lst (nats (rs.take i).flatten)))
   ⟨l0,none,rfl,s1,by rw [e1,List.take_zero];rfl⟩ (fun i σ H2 _ ⟨_,_,_,s2,_⟩=>SqL.of (s2 _ _ hr_)) ?_ ?_
  ·rintro i x σ H2 hx ⟨l,v4,rfl,s2,el⟩
   rw [List.getElem?_map]at hx
   obtain⟨b,hb,eb⟩:∃b,as[i]? =some b/\x= .ref b:=by
    cases g:as[i]? with
    |none=>rw [g]at hx;cases hx
    |some b=>rw [g]at hx;cases hx;exact⟨b,rfl,rfl⟩
   subst eb
   obtain⟨row,hrow,erow⟩:=Paired.get la hb
   have tk:(rs.take (i+1)).flatten=(rs.take i).flatten++row:=by rw [List.take_succ,hrow,List.flatten_append];simp
   refine⟨_,rfl,_,_,_,_,rfl,.lst (s2 _ _ erow),rfl,_,rfl,iteF ?_⟩
   refine⟨_,rfl,_,rfl,l,b,_,_,rfl,rfl,el,s2 _ _ erow,?_,fun c hc=>?_⟩
   ·have:(rs.take (i+1)).flatten.length<=rs.flatten.length:=by
     conv=>rhs;rw [<-List.take_append_drop (i+1) rs,List.flatten_append,List.length_append]
     omega
    rw [tk,List.length_append]at this
    unfold nats
    rw [List.length_map,List.length_map]
    exact Nat.le_of_lt (small (by omega))
   ·generalize g:upd H2 c _=H3
    obtain⟨s3,e3⟩:=new_of hc g
    exact⟨c,_,rfl,s2.trans s3,by rw [e3,tk];unfold nats;rw [List.map_append]⟩
  ·rintro σ H2 ⟨l,v4,rfl,s2,el⟩
   rw [lA,List.take_length]at el
   refine⟨_,rfl,l,rfl,⟨_,SqL.of el⟩,fun D hD=>?_⟩
   refine compF_listG (K:=K) (a:=l) (xs:=nats rs.flatten) (fun i acc σ H3=>(∃v0,σ=[v0])/\Same H2 H3/\H3 D=some (.lst acc)/\acc=[]) ⟨⟨_,rfl⟩,sameNew hD,upd_same,rfl⟩ (fun i acc σ H3 _ ⟨_,s3,_⟩=>SqL.of (s3 _ _ el)) ?_ ?_
   ·rintro i x acc σ H3 hi hx ⟨⟨v0,rfl⟩,s3,hD3,rfl⟩
    unfold nats at hx
    rw [List.getElem?_map]at hx
    obtain⟨y,hy,rfl⟩:∃y,rs.flatten[i]? =some y/\x=natV y:=by
     cases g:rs.flatten[i]? with
     |none=>rw [g]at hx;cases hx
     |some b=>rw [g]at hx;cases hx;exact⟨b,rfl,rfl⟩
    exact⟨_,rfl,_,_,_,_,rfl,.int _,rfl,_,rfl,iteF (cstep hi ⟨⟨_,rfl⟩,s3,hD3,rfl⟩)⟩
   ·rintro acc σ H3 ⟨_,s3,hD3,rfl⟩
    refine⟨Nat.zero_le _,fun l2 hl2=>?_⟩
    generalize g:upd H3 l2 _=H4
    obtain⟨s4,e4⟩:=new_of hl2 g
    refine⟨D,l2,nats [],nats [],_,_,rfl,rfl,.inr ⟨SqL.of (s4 _ _ hD3),SqL.of e4⟩,den_nats [],den_nats [],_,rfl,?_⟩
    rw [eqFs_nats]
    refine iteFe rfl ?_
    have el4:=s4 _ _ (s3 _ _ el)
    have el4':H4 l=some (.lst ((rs.flatten.map fun k:Nat=>(k:Int)).map V.int)):=by rw [<-natsI];exact el4
    refine⟨_,rfl,l,_,rfl,SqL.of el4',by rw [List.length_map];omega,fun ms pms srt c hc=>?_⟩
    generalize g:upd H4 c _=H5
    obtain⟨s5,e5⟩:=new_of hc g
    refine⟨_,rfl,n,rfl,fun rg hrg=>?_⟩
    generalize g:upd H5 rg _=H6
    obtain⟨s6,e6⟩:=new_of hrg g
    refine⟨rg,n,rfl,e6,by omega,fun l3 hl3=>?_⟩
    generalize g:upd H6 l3 _=H7
    obtain⟨s7,e7⟩:=new_of hl3 g
    obtain⟨m,rfl,pm',srt'⟩:=nat_perm pms srt
    have e5':H7 c=some (.lst (nats m)):=by rw [natsI];exact s7 _ _ (s6 _ _ e5)
    have e7':H7 l3=some (.lst (nats (List.range n))):=e7
    refine⟨c,l3,nats m,nats (List.range n),_,_,rfl,rfl,.inr ⟨SqL.of e5',SqL.of e7'⟩,den_nats m,den_nats _,?_⟩
    rw [eqFs_nats]
    have ok:decide (m=List.range n)=true:=by rw [sorted_range pm' srt'];exact decide_eq_true pm
    rw [ok]
    exact q H7 (s2.trans (s3.trans (s4.trans (s5.trans (s6.trans s7)))))
structure Tsk (H H':Hp) (a la p:Addr) (most:Nat) (ls:List Nat) (xs:List V) (ps:List Pr):Prop where
 kp:Kp a H H'
 well:WellAt H' a
 nl:H la=none
 np:H p=none
 la:H' la=some (.lst (nats ls))
 p:H' p=some (.lst xs)
 pp:PrsAt H' xs ps
 bel:Below ls.length ps
 n:ls.length<=most
 l:ps.length<=7
 pos:∀k∈ls,0<k/\k<=120
def spTask:Sp:=fun vs H Q _=>∃(a:Addr) (most:Nat),vs=[.ref a,natV most]/\WellAt H a/\most<=20/\∀(t la p:Addr) (ls:List Nat) (xs:List V) (ps:List Pr) (H':Hp),Tsk H H' a la p most ls xs ps->H' t=some (.tup [.ref la,.ref p])->Q (.ref t) H'
theorem Kp.new {a q:Addr} {H H':Hp} {o:HO} (k:Kp a H H') (hq:H' q=none):Kp a H (upd H' q o):=fun b u e n=>by
 have:=k b u e n
 rw [upd_ne (ne_of_none this hq)];exact this
theorem Kp.free {a q:Addr} {H H':Hp} (k:Kp a H H') (w:WellAt H' a) (hq:H' q=none):H q=none:=by
 cases g:H q with
 |none=>rfl
 |some o=>
  have n:q≠a:=fun z=>by obtain⟨x,y,z',e⟩:=w;rw [z,e]at hq;cases hq
  rw [k q o g n]at hq;cases hq
theorem Kp.upd {a q:Addr} {H H':Hp} {o:HO} (k:Kp a H H') (hq:H q=none):Kp a H (upd H' q o):=fun b u e n=>by
 rw [upd_ne (ne_of_none e hq)];exact k b u e n
theorem WellAt.upd {a q:Addr} {H:Hp} {o:HO} (h:WellAt H a) (n:q≠a):WellAt (upd H q o) a:=by
 obtain⟨x,y,z,e⟩:=h
 exact⟨x,y,z,by rw [upd_ne (Ne.symm n)];exact e⟩
theorem pick6 {r:Nat} (h:r<6):∃v:Nat,([V.int 1,V.int 2,V.int 3,V.int 5,V.int 8,V.int 120]:List V)[r]? =some (natV v)/\0<v/\v<=120:=by
 match r,h with
 |0,_=>exact⟨1,rfl,by decide⟩
 |1,_=>exact⟨2,rfl,by decide⟩
 |2,_=>exact⟨3,rfl,by decide⟩
 |3,_=>exact⟨5,rfl,by decide⟩
 |4,_=>exact⟨8,rfl,by decide⟩
 |5,_=>exact⟨120,rfl,by decide⟩
abbrev NTask:List Str:=["_law_tape_here","_law_most","_law_lasts","_law_pairs","_law_k","_law_p","_law_q"]
theorem scTask:FnScope ["_law_tape_here","_law_most","_law_lasts","_law_pairs","_law_k","_law_p","_law_q"] ["_law_tape_here","_law_most"] (defScope sTask):=⟨rfl,rfl,rfl,by decide+kernel,rfl,by decide+kernel,by decide+kernel⟩
abbrev XTask (P:Program) (w:World) (K:W.Frag) (mg:Str->Option Value) (base:Heap) (f:Addr) (cdv:Value) (A:Around) (outer:List Env) (s:Shared) (H:Hp) (E:XK):Cx:=(cxOf CX0 P w K mg base NTask "_law_task" (defScope sTask) f cdv A outer s H E).nox
theorem task_app {f:Addr} {cdv:Value} {A:Around} {outer:List Env} {s:Shared} {H:Hp} {E:XK} (hr:Room 1 (XTask P w K mg base f cdv A outer s H E).A) (c_draw:Cal P w K mg base CX0 1 "_law_draw" ["_law_tape_here","_law_many"] spDraw) (T:Txt K mg):
  ∃t,PSs (XTask P w K mg base f cdv A outer s H E) (loopBody ((loopBody ((defBody sTask).getD 2 (.Pass ⟨0,0,0,0⟩))).getD 2 (.Pass ⟨0,0,0,0⟩))) t/\
  ∀(De:Ends) (a la pl:Addr) (x y:Nat) (v1 v4:Option V) (xs:List V) (H2:Hp),WellAt H2 a->H2 pl=some (.lst xs)->pl≠a->xs.length<=100->
   (∀(t:Addr) (p:Pr) (H3:Hp),Kp a H2 H3->WellAt H3 a->H3 t=some (.tup [natV p.1,natV p.2])->t≠pl->(p=(x,y)∨p=(y,x))->H3 pl=some (.lst xs)->De.nx [some (.ref a),v1,some (.ref la),some (.ref pl),v4,some (natV x),some (natV y)] (upd H3 pl (.lst (xs++[.ref t]))))->
   t De [some (.ref a),v1,some (.ref la),some (.ref pl),v4,some (natV x),some (natV y)] H2:=by
 refine⟨_,(pss_one (ps_expr (pe_bm PySem.F.plainAttrs_list PySem.F.slot_list_append PySem.F.type_list_append mt_append (pv 3) (pa_cons (pe_ix ix_list (pe_lst (pa_cons (pe_tup (pa_cons (pe_callB (call_max2 rfl) rfl T.max boot_max (pa_cons (pv 5) (pa_cons (pv 6) pa_nil))) (pa_cons (pe_callB (call_min2 rfl) rfl T.min boot_min (pa_cons (pv 5) (pa_cons (pv 6) pa_nil))) pa_nil))) (pa_cons (pe_tup (pa_cons (pe_callB (call_min2 rfl) rfl T.min boot_min (pa_cons (pv 5) (pa_cons (pv 6) pa_nil))) (pa_cons (pe_callB (call_max2 rfl) rfl T.max boot_max (pa_cons (pv 5) (pa_cons (pv 6) pa_nil))) pa_nil))) pa_nil))) (pe_callTy call_int1 rfl T.int boot_int (pa_cons (pe_cmpR op_eq (pe_c c_draw (hr.mono (by decide)) rfl pass0 (pa_cons (pv 0) (pa_cons pe_int pa_nil))) pe_int (nomark _)) pa_nil)) (fun _ _=>rfl)) pa_nil)))),?_⟩
 intro De a la pl x y v1 v4 xs H2 wa hp hpa hl q
 refine⟨_,rfl,.inl ⟨rfl,_,SqL.of hp⟩,?_⟩
 refine⟨_,rfl,_,rfl,_,_,rfl,_,rfl,_,rfl,_,_,rfl,by show 2<=sizeLine;decide,fun t1 ht1=>?_⟩
 refine⟨_,rfl,_,rfl,_,_,rfl,_,rfl,_,rfl,_,_,rfl,by show 2<=sizeLine;decide,fun t2 ht2=>⟨by show 2<=sizeLine;decide,fun l hl0=>?_⟩⟩
 have e1:(V.int (if(y:Int)>(x:Int)then(y:Int)else(x:Int)))=natV (max x y):=by show V.int _=V.int _;congr 1;split<;>omega
 have e2:(V.int (if(y:Int)<(x:Int)then(y:Int)else(x:Int)))=natV (min x y):=by show V.int _=V.int _;congr 1;split<;>omega
 rw [e1,e2]at ht2 hl0⊢
 have k5:Same H2 (upd (upd (upd H2 t1 (.tup [natV (max x y),natV (min x y)])) t2 (.tup [natV (min x y),natV (max x y)])) l (.lst [.ref t1,.ref t2])):=((sameNew ht1).trans (sameNew ht2)).trans (sameNew hl0)
 have g1:upd (upd (upd H2 t1 (.tup [natV (max x y),natV (min x y)])) t2 (.tup [natV (min x y),natV (max x y)])) l (.lst [.ref t1,.ref t2]) t1=some (.tup [natV (max x y),natV (min x y)]):=sameNew hl0 _ _ (sameNew ht2 _ _ upd_same)
 have g2:upd (upd (upd H2 t1 (.tup [natV (max x y),natV (min x y)])) t2 (.tup [natV (min x y),natV (max x y)])) l (.lst [.ref t1,.ref t2]) t2=some (.tup [natV (min x y),natV (max x y)]):=sameNew hl0 _ _ upd_same
 have g3:upd (upd (upd H2 t1 (.tup [natV (max x y),natV (min x y)])) t2 (.tup [natV (min x y),natV (max x y)])) l (.lst [.ref t1,.ref t2]) l=some (.lst [.ref t1,.ref t2]):=upd_same
 generalize upd (upd (upd H2 t1 (.tup [natV (max x y),natV (min x y)])) t2 (.tup [natV (min x y),natV (max x y)])) l (.lst [.ref t1,.ref t2])=H3 at k5 g1 g2 g3
 have w3:WellAt H3 a:=by obtain⟨u,v,z,e⟩:=wa;exact⟨u,v,z,k5 _ _ e⟩
 refine⟨_,rfl,a,3,rfl,w3,by decide,by decide,fun c H4 hc k4 w4=>⟨rfl,.inr ⟨_,rfl,?_⟩⟩⟩
 have na:∀{b:Addr} {us:List V},H3 b=some (.tup us)->b≠a:=fun e z=>by obtain⟨u,v,z',e'⟩:=w3;rw [z,e']at e;cases e
 have la':l≠a:=fun z=>by
  obtain⟨u,v,z',e'⟩:=w3
  rw [z,e']at g3
  cases g3
 have k24:Kp a H2 H4:=(Kp.of k5).trans k4
 have hp4:=k24 _ _ hp hpa
 have fin:∀(t:Addr) (p:Pr),H3 t=some (.tup [natV p.1,natV p.2])->(p=(x,y)∨p=(y,x))->De.nx [some (.ref a),v1,some (.ref la),some (.ref pl),v4,some (natV x),some (natV y)] (upd H4 pl (.lst (xs++[.ref t]))):=fun t p e o=>
  q t p H4 k24 w4 (k4 _ _ e (na e)) (ne_of (k4 _ _ e (na e)) hp4 (by intro z;cases z)) o hp4
 have hsz:xs.length<sizeLine:=small (by omega)
 cases decide (natV c=V.int 0)with
 |true=>exact⟨l,_,_,.ref t2,rfl,rfl,SqL.of (k4 _ _ g3 la'),rfl,pl,_,_,rfl,rfl,hp4,hsz,fin t2 (min x y,max x y) g2 (by rcases Nat.le_total x y with h|h<;>simp [h])⟩
 |false=>exact⟨l,_,_,.ref t1,rfl,rfl,SqL.of (k4 _ _ g3 la'),rfl,pl,_,_,rfl,rfl,hp4,hsz,fin t1 (max x y,min x y) g1 (by rcases Nat.le_total x y with h|h<;>simp [h])⟩
theorem ok_task {f:Addr} {fd:FuncData} (F:Fun K "_law_task" "_law_task" sTask f fd) (c_draw:Cal P w K mg base CX0 1 "_law_draw" ["_law_tape_here","_law_many"] spDraw) (T:Txt K mg):FnOk P w K mg base CX0 2 f fd ["_law_tape_here","_law_most"] spTask:=by
 refine F.ok scTask (fun vs H Q E h=>?_) (fun cdv A outer s H vs Q E hr h=>?_)
 ·obtain⟨a,most,rfl,_⟩:=h
  rfl
 ·obtain⟨a,most,rfl,wa,hm,q⟩:=h
  obtain⟨tB,hB,rB⟩:=task_app (P:=P) (w:=w) (K:=K) (mg:=mg) (base:=base) (f:=f) (cdv:=cdv) (A:=A) (outer:=outer) (s:=s) (H:=H) (E:=E) (hr.mono (by decide)) c_draw T
  refine⟨_,(pss_cons (ps_cp (i:=2) scTask.nd rfl (Or.inl rfl) (own:=["_law_k"]) (cap:=[("_law_tape_here",0)]) (g:=gName 0) (defScope sTask) NTask rfl rfl (fun x h=>cell_has h) (by decide+kernel) rfl (pi_range1 rfl T.range (pa_cons (pe_c c_draw (hr.mono (by decide)) rfl pass0 (pa_cons (pv 0) (pa_cons (pe_op op_add (pv 1) pe_int) pa_nil))) pa_nil)) (fun cl C s2 H2 fp=>(pg_name (i:=0) (show(["_law_k","_law_tape_here"]:List Str).Nodup by decide+kernel) rfl (Or.inl rfl) (Or.inr rfl))) (fun cl C s2 H2 fp=>(pe_ix (r:=rIxL K) ix_list (pe_lst (pa_cons pe_int (pa_cons pe_int (pa_cons pe_int (pa_cons pe_int (pa_cons pe_int (pa_cons pe_int pa_nil))))))) (pe_c c_draw (hr.mono (by decide)) rfl pass0 (pa_cons (pv 1) (pa_cons pe_int pa_nil))) (fun _ _=>rfl)))) (pss_cons (ps_set (i:=3) scTask.nd rfl (Or.inl rfl) (pe_lst pa_nil)) (pss_cons (ps_for PassesOwn.never rfl (pi_range1 rfl T.range (pa_cons (pe_op op_mul (pe_c c_draw (hr.mono (by decide)) rfl pass0 (pa_cons (pv 0) (pa_cons pe_int pa_nil))) (pe_callTy call_int1 rfl T.int boot_int (pa_cons (pe_cmpR op_gt (pe_callB call_len_seq (by rfl) T.len PySem.boot_len (pa_cons (pv 2) pa_nil)) pe_int (nomark _)) pa_nil))) pa_nil)) (pg_name (i:=4) scTask.nd rfl (Or.inl rfl)) (pss_cons (ps_set (i:=5) scTask.nd rfl (Or.inl rfl) (pe_c c_draw (hr.mono (by decide)) rfl pass0 (pa_cons (pv 0) (pa_cons (pe_callB call_len_seq (by rfl) T.len PySem.boot_len (pa_cons (pv 2) pa_nil)) pa_nil)))) (pss_cons (ps_set (i:=6) scTask.nd rfl (Or.inl rfl) (pe_c c_draw (hr.mono (by decide)) rfl pass0 (pa_cons (pv 0) (pa_cons (pe_callB call_len_seq (by rfl) T.len PySem.boot_len (pa_cons (pv 2) pa_nil)) pa_nil)))) (pss_one (ps_if (PW.pt (pw_or (pt_cmpR op_ne (pv 5) (pv 6) (nomark _)) (pw_or1 (pt_cmpR op_eq (pe_c c_draw (hr.mono (by decide)) rfl pass0 (pa_cons (pv 0) (pa_cons pe_int pa_nil))) pe_int (nomark _))))) hB pss_nil))))) (pss_one (ps_ret (pe_tup (pa_cons (pv 2) (pa_cons (pv 3) pa_nil)))))))),?_⟩
  refine⟨_,rfl,_,rfl,_,_,rfl,rfl,a,_,rfl,wa,by omega,by omega,fun n0 H1 hn0 k1 w1=>?_⟩
  refine⟨_,rfl,by omega,by omega,fun D hD=>?_⟩
  have hDn:=k1.free w1 hD
  have hDa:D≠a:=w1.ne hD
  refine comp_range (fun i acc σ H2=>∃(v0:Option V) (ls:List Nat),σ=[v0,some (.ref a)]/\Kp a H H2/\WellAt H2 a/\H2 D=some (.lst acc)/\acc=nats ls/\ls.length=i/\∀k∈ls,0<k/\k<=120) ⟨_,[],rfl,k1.new hD,w1.new hD,upd_same,rfl,rfl,fun _ h=>by cases h⟩ ?_ ?_
  ·rintro i acc σ H2 hi ⟨v0,ls,rfl,k2,w2,hD2,rfl,hll,hpos⟩
   refine⟨by show 6<=sizeLine;decide,fun l hl=>⟨_,rfl,a,6,rfl,w2.new hl,by decide,by decide,fun r H3 hr3 k3 w3=>?_⟩⟩
   have hla:l≠a:=w2.ne hl
   have lD:D≠l:=ne_of_none hD2 hl
   obtain⟨v,hv,hv0⟩:=pick6 (show r<6 by omega)
   refine⟨l,_,_,_,rfl,rfl,SqL.of (k3 _ _ upd_same hla),atI_nat hv,?_⟩
   have hD3:H3 D=some (.lst (nats ls)):=k3 _ _ (by rw [upd_ne lD];exact hD2) hDa
   refine cturn hD3 (small (by unfold nats;rw [List.length_map];omega)) hi ⟨_,ls++[v],rfl,((k2.new hl).trans k3).upd hDn,w3.upd hDa,upd_same,by unfold nats;rw [List.map_append];rfl,by rw [List.length_append,hll];rfl,fun k hk=>?_⟩
   rcases List.mem_append.mp hk with z|z
   ·exact hpos k z
   ·rw [List.mem_singleton.mp z];exact hv0
  ·rintro acc σ H2 ⟨v0,ls,rfl,k2,w2,hD2,rfl,hll,hpos⟩
   refine⟨by show 0<=sizeLine;decide,fun pl hpl=>?_⟩
   have hpln:=k2.free w2 hpl
   have hpla:pl≠a:=w2.ne hpl
   have pD:D≠pl:=ne_of_none hD2 hpl
   have k3:Kp a H (upd H2 pl (.lst [])):=k2.new hpl
   have w3:WellAt (upd H2 pl (.lst [])) a:=w2.new hpl
   have hD3:upd H2 pl (.lst []) D=some (.lst (nats ls)):=by rw [upd_ne pD];exact hD2
   have hp3:upd H2 pl (.lst []) pl=some (.lst []):=upd_same
   generalize upd H2 pl (.lst [])=H3 at k3 w3 hD3 hp3
   refine⟨_,rfl,a,8,rfl,w3,by decide,by decide,fun c H4 hc k4 w4=>?_⟩
   have hD4:=k4 _ _ hD3 hDa
   have hp4:=k4 _ _ hp3 hpla
   refine⟨_,rfl,D,_,rfl,.inl (SqL.of hD4),_,_,rfl,rfl,.inr ⟨_,rfl,_,_,rfl,rfl,.inl ?_,?_⟩⟩
   ·omega
   have hc8:c<8:=by omega
   obtain⟨Nn,hN⟩:∃Nn:Int,(c:Int)*(if decide (1<(((nats ls).length:Nat):Int))=true then 1 else 0)=Nn:=⟨_,rfl⟩
   have hl0:(nats ls).length=ls.length:=by unfold nats;rw [List.length_map]
   have hNn:0<=Nn/\Nn<=7/\(0<Nn->2<=ls.length):=by
    rw [<-hN,hl0]
    by_cases h1:1<(((ls.length:Nat):Int))
    ·rw [if_pos (decide_eq_true h1)];omega
    ·rw [if_neg (fun z=>h1 (of_decide_eq_true z))];omega
   refine⟨Nn,by rw [<-hN],by omega,by omega,?_⟩
   refine for_range (fun i σ H5=>∃(v4 v5 v6:Option V) (xs:List V) (ps:List Pr),σ=[some (.ref a),some (natV most),some (.ref D),some (.ref pl),v4,v5,v6]/\Kp a H H5/\WellAt H5 a/\H5 D=some (.lst (nats ls))/\H5 pl=some (.lst xs)/\PrsAt H5 xs ps/\Below ls.length ps/\ps.length<=i)
    ⟨none,none,none,[],[],rfl,k3.trans k4,w4,hD4,hp4,.nil,(fun _ h=>nomatch h),Nat.le_refl _⟩ ?_ ?_
   ·rintro i σ H5 hi ⟨v4,v5,v6,xs,ps,rfl,k5,w5,hD5,hp5,pp5,hb5,hl5⟩
    have h2:2<=ls.length:=hNn.2.2 (by omega)
    have hlm:ls.length<=most:=by omega
    refine⟨_,rfl,_,rfl,D,_,rfl,.inl (SqL.of hD5),a,_,rfl,w5,by rw [hl0];omega,by rw [hl0];omega,fun x H6 hx k6 w6=>?_⟩
    have hD6:=k6 _ _ hD5 hDa
    have hp6:=k6 _ _ hp5 hpla
    refine⟨_,rfl,_,rfl,D,_,rfl,.inl (SqL.of hD6),a,_,rfl,w6,by rw [hl0];omega,by rw [hl0];omega,fun y H7 hy k7 w7=>?_⟩
    rw [hl0]at hx hy
    have hD7:=k7 _ _ hD6 hDa
    have hp7:=k7 _ _ hp6 hpla
    have pp7:PrsAt H7 xs ps:=PrsAt.mono (fun c us e=>k7.tup w6 (k6.tup w5 e)) pp5
    have k57:Kp a H H7:=k5.trans (k6.trans k7)
    have hxl:xs.length<=100:=by have:=Paired.length pp5;omega
    have app:∀(De:Ends) (H8:Hp),(∀σ H5,(∃(v4 v5 v6:Option V) (xs:List V) (ps:List Pr),σ=[some (.ref a),some (natV most),some (.ref D),some (.ref pl),v4,v5,v6]/\Kp a H H5/\WellAt H5 a/\H5 D=some (.lst (nats ls))/\H5 pl=some (.lst xs)/\PrsAt H5 xs ps/\Below ls.length ps/\ps.length<=i+1)->De.nx σ H5)->Kp a H7 H8->WellAt H8 a->tB De [some (.ref a),some (natV most),some (.ref D),some (.ref pl),some (.int (0+i)),some (natV x),some (natV y)] H8:=by
     intro De H8 nx k8 w8
     refine rB De a D pl x y _ _ xs H8 w8 (k8 _ _ hp7 hpla) hpla hxl fun t p H9 k9 w9 ht htp hpr hp9=>nx _ _ ?_
     have hD9:=k9 _ _ (k8 _ _ hD7 hDa) hDa
     have kt:∀c us,H9 c=some (.tup us)->upd H9 pl (.lst (xs++[.ref t])) c=some (.tup us):=fun c us e=>by rw [upd_ne (ne_of e hp9 (by intro z;cases z))];exact e
     refine⟨_,_,_,xs++[.ref t],ps++[p],rfl,((k57.trans k8).trans k9).upd hpln,w9.upd hpla,by rw [upd_ne pD];exact hD9,upd_same,?_,?_,by rw [List.length_append];show _+1<=_;omega⟩
     ·exact PrsAt.mono kt (Paired.snoc' (PrsAt.mono (fun c us e=>k9.tup w8 (k8.tup w7 e)) pp7) ⟨t,rfl,ht⟩)
     ·intro z hz
      rcases List.mem_append.mp hz with m|m
      ·exact hb5 z m
      ·rw [List.mem_singleton.mp m]
       rcases hpr with e|e<;>rw [e]<;>exact⟨by omega,by omega⟩
    refine⟨_,rfl,_,rfl,rfl,_,rfl,?_⟩
    refine ite2 (fun _=>iteT (app _ H7 (fun _ _ h=>h) (Kp.of (Same.refl H7)) w7)) (fun _=>?_)
    refine⟨_,rfl,a,9,rfl,w7,by decide,by decide,fun c9 H8 _ k8 w8=>⟨rfl,_,rfl,?_⟩⟩
    refine ite2 (fun _=>app _ H8 (fun _ _ h=>h) k8 w8) (fun _=>?_)
    exact⟨_,_,_,xs,ps,rfl,k57.trans k8,w8,k8 _ _ hD7 hDa,k8 _ _ hp7 hpla,PrsAt.mono (fun c us e=>k8.tup w7 e) pp7,hb5,by omega⟩
   ·rintro σ H5 ⟨v4,v5,v6,xs,ps,rfl,k5,w5,hD5,hp5,pp5,hb5,hl5⟩
    refine⟨_,rfl,_,rfl,by show 2<=sizeLine;decide,fun t ht=>?_⟩
    have n1:H5 t=none:=ht
    refine q t D pl ls xs ps _ ⟨k5.new ht,w5.new ht,hDn,hpln,sameNew ht _ _ hD5,sameNew ht _ _ hp5,PrsAt.mono (fun c us e=>sameNew ht _ _ e) pp5,hb5,by omega,by omega,hpos⟩ upd_same
structure Rws (H H':Hp) (a r:Addr) (as:List Addr) (rs:List (List Nat)) (n hands:Nat):Prop where
 kp:Kp a H H'
 well:WellAt H' a
 nr:H r=none
 ll:NewLL H H' r as rs
 len:rs.length=hands
 perm:rs.flatten.Perm (List.range n)
def spRows:Sp:=fun vs H Q _=>∃(a:Addr) (n hands:Nat),vs=[natV n,natV hands,.ref a]/\WellAt H a/\n<=20/\0<hands/\hands<=10/\∀(r:Addr) (as:List Addr) (rs:List (List Nat)) (H':Hp),Rws H H' a r as rs n hands->Q (.ref r) H'
theorem flatten_set_perm {x:Nat}:∀{rs:List (List Nat)} {i:Nat} {l m:List Nat},rs[i]? =some l->m.Perm (x::l)->(rs.set i m).flatten.Perm (x::rs.flatten)
 | [],_,_,_,h,_=>by simp at h
 |r::rs,0,l,m,h,p=>by
  have e:r=l:=by simpa using h
  subst e
  rw [List.set_cons_zero,List.flatten_cons,List.flatten_cons]
  exact p.append_right rs.flatten
 |r::rs,i+1,l,m,h,p=>by
  rw [List.set_cons_succ,List.flatten_cons,List.flatten_cons]
  refine((flatten_set_perm (i:=i) (by simpa using h) p).append_left r).trans ?_
  exact List.perm_middle
theorem NewLL.put {H H3:Hp} {D b:Addr} {as:List Addr} {ls:List (List Nat)} (h:NewLL H H3 D as ls) {i:Nat} (eb:as[i]? =some b) (m:List Nat):NewLL H (upd H3 b (.lst (nats m))) D as (ls.set i m):=by
 have hbD:=(h.new b (List.mem_of_getElem? eb)).2
 refine⟨by rw [upd_ne (Ne.symm hbD)];exact h.top,h.nd,h.new,listsAt_of (by rw [List.length_set];exact h.len) fun j c l g1 g2=>?_⟩
 by_cases hij:i=j
 ·subst hij
  rw [eb]at g1
  cases g1
  have hi:i<ls.length:=by rw [<-h.len];exact(List.getElem?_eq_some_iff.mp eb).1
  rw [List.getElem?_set_self hi]at g2
  cases g2
  exact upd_same
 ·rw [List.getElem?_set_ne hij]at g2
  have hcb:c≠b:=fun z=>by
   subst z
   obtain⟨h1,h2⟩:=List.getElem?_eq_some_iff.mp eb
   obtain⟨h3,h4⟩:=List.getElem?_eq_some_iff.mp g1
   exact hij ((List.getElem_inj h.nd).mp (h2.trans h4.symm))
  rw [upd_ne hcb]
  obtain⟨c',f1,f2⟩:=listsAt_get h.at_ g2
  rw [g1]at f1
  cases f1
  exact f2
abbrev NRows:List Str:=["_law_many","_law_hands","_law_tape_here","_law_rows_here","_law_piece","_law_row"]
theorem scRows:FnScope ["_law_many","_law_hands","_law_tape_here","_law_rows_here","_law_piece","_law_row"] ["_law_many","_law_hands","_law_tape_here"] (defScope sRows):=⟨rfl,rfl,rfl,by decide+kernel,rfl,by decide+kernel,by decide+kernel⟩
theorem ok_rows {f:Addr} {fd:FuncData} (F:Fun K "_law_rows" "_law_rows" sRows f fd) (c_draw:Cal P w K mg base CX0 1 "_law_draw" ["_law_tape_here","_law_many"] spDraw) (T:Txt K mg):FnOk P w K mg base CX0 2 f fd ["_law_many","_law_hands","_law_tape_here"] spRows:=by
 refine F.ok scRows (fun vs H Q E h=>?_) (fun cdv A outer s H vs Q E hr h=>?_)
 ·obtain⟨a,n,hands,rfl,_⟩:=h
  rfl
 ·obtain⟨a,n,hands,rfl,wa,hn,hh0,hh,q⟩:=h
  refine⟨_,(pss_cons (ps_cp (i:=3) scRows.nd rfl (Or.inl rfl) (own:=["_law_k"]) (cap:=[]) (g:=gName 0) (defScope sRows) NRows rfl rfl (fun x h=>cell_has h) (by decide+kernel) rfl (pi_range1 rfl T.range (pa_cons (pv 1) pa_nil)) (fun cl C s2 H2 fp=>(pg_name (i:=0) (show(["_law_k"]:List Str).Nodup by decide+kernel) rfl (Or.inl rfl) (Or.inr rfl))) (fun cl C s2 H2 fp=>(pe_lst pa_nil))) (pss_cons (ps_for PassesOwn.never rfl (pi_range1 rfl T.range (pa_cons (pv 0) pa_nil)) (pg_name (i:=4) scRows.nd rfl (Or.inl rfl)) (pss_cons (ps_set (i:=5) scRows.nd rfl (Or.inl rfl) (pe_ix ix_list (pv 3) (pe_c c_draw (hr.mono (by decide)) rfl pass0 (pa_cons (pv 2) (pa_cons (pv 1) pa_nil))) (fun _ _=>rfl))) (pss_one (ps_expr (pe_bm PySem.F.plainAttrs_list PySem.F.slot_list_insert PySem.F.type_list_insert mt_insert (pv 5) (pa_cons (pe_c c_draw (hr.mono (by decide)) rfl pass0 (pa_cons (pv 2) (pa_cons (pe_op op_add (pe_callB call_len_seq (by rfl) T.len PySem.boot_len (pa_cons (pv 5) pa_nil)) pe_int) pa_nil))) (pa_cons (pv 4) pa_nil))))))) (pss_one (ps_ret (pv 3))))),?_⟩
  refine⟨_,rfl,_,rfl,by omega,by omega,fun D hD=>?_⟩
  have hDa:D≠a:=wa.ne hD
  refine comp_news (n:=hands) (by omega) ⟨none,rfl⟩ hD fun as H2 s2 ll=>?_
  have w2:WellAt H2 a:=by obtain⟨x,y,z,e⟩:=wa;exact⟨x,y,z,s2 _ _ e⟩
  have asa:a∉as:=fun m=>by
   have:=(ll.new a m).1
   obtain⟨x,y,z,e⟩:=wa
   rw [e]at this;cases this
  refine⟨_,rfl,_,rfl,by omega,by omega,?_⟩
  refine for_range (fun i σ H3=>∃(v4 v5:Option V) (rs:List (List Nat)),σ=[some (natV n),some (natV hands),some (.ref a),some (.ref D),v4,v5]/\Kp a H H3/\WellAt H3 a/\NewLL H H3 D as rs/\rs.length=hands/\rs.flatten.Perm (List.range i))
   ⟨none,none,_,rfl,Kp.of s2,w2,ll,by rw [List.length_replicate],by simp⟩ ?_ ?_
  ·rintro i σ H3 hi ⟨v4,v5,rs,rfl,k3,w3,ll3,hl3,pm3⟩
   refine⟨_,rfl,_,rfl,_,rfl,a,_,rfl,w3,by omega,by omega,fun x H4 hx k4 w4=>?_⟩
   have kpS:∀b,b=D∨b∈as->b≠a:=fun b hb=>by
    rcases hb with z|z
    ·rw [z];exact hDa
    ·exact fun y=>asa (y▸z)
   have ll4:NewLL H H4 D as rs:=ll3.keep fun b o hb e=>k4 b o e (kpS b hb)
   have hxr:rs[x]? =some rs[x]:=List.getElem?_eq_getElem (by omega)
   obtain⟨b,e1,e2⟩:=listsAt_get ll4.at_ hxr
   have hbm:=List.mem_of_getElem? e1
   have hba:b≠a:=fun y=>asa (y▸hbm)
   refine⟨D,_,_,_,rfl,rfl,SqL.of ll4.top,atI_nat (show(as.map V.ref)[x]? =some (.ref b) by rw [List.getElem?_map,e1];rfl),?_⟩
   refine⟨_,rfl,.inl ⟨rfl,_,SqL.of e2⟩,?_⟩
   have fl:rs.flatten.length=i:=by rw [pm3.length_eq,List.length_range]
   have rl:(rs[x]'(by omega)).length<=i:=by rw [<-fl];exact(List.sublist_flatten_of_mem (List.mem_of_getElem? hxr)).length_le
   refine⟨_,rfl,_,rfl,b,_,rfl,.inl (SqL.of e2),_,_,rfl,rfl,a,_,rfl,w4,?_,?_,fun y H5 hy k5 w5=>?_⟩
   ·show(0:Int)<_+1;omega
   ·unfold nats;rw [List.length_map];show _+1<_;omega
   have ll5:NewLL H H5 D as rs:=ll4.keep fun b o hb e=>k5 b o e (kpS b hb)
   have e5:=k5 _ _ e2 hba
   have hln:(nats (rs[x]'(by omega))).length=(rs[x]'(by omega)).length:=by unfold nats;rw [List.length_map]
   have hyl:y<=(rs[x]'(by omega)).length:=by rw [hln]at hy;omega
   refine⟨_,rfl,b,_,_,y,rfl,rfl,e5,by rw [hln];exact hyl,small (by rw [hln];omega),?_⟩
   have en:(nats (rs[x]'(by omega))).take y++V.int (0+(i:Int))::(nats (rs[x]'(by omega))).drop y=nats ((rs[x]'(by omega)).take y++i::(rs[x]'(by omega)).drop y):=by
    unfold nats
    rw [List.map_append,List.map_cons,List.map_take,List.map_drop]
    congr 2
    show V.int _=V.int _
    congr 1
    omega
   rw [en]
   refine⟨_,_,rs.set x ((rs[x]'(by omega)).take y++i::(rs[x]'(by omega)).drop y),rfl,((k3.trans k4).trans k5).upd (ll5.new b hbm).1,w5.upd hba,ll5.put e1 _,by rw [List.length_set];exact hl3,?_⟩
   refine(flatten_set_perm (x:=i) hxr ?_).trans ?_
   ·refine List.perm_middle.trans ?_
    rw [List.take_append_drop]
   ·rw [List.range_succ]
    exact((List.Perm.cons i pm3).trans (List.perm_append_singleton i (List.range i)).symm)
  ·rintro σ H3 ⟨v4,v5,rs,rfl,k3,w3,ll3,hl3,pm3⟩
   exact⟨_,rfl,q D as rs H3 ⟨k3,w3,hD,ll3,hl3,pm3⟩⟩
def En (ts:List Pr) (v:Nat):Nat:=(ts.getD v (0,0)).2
theorem lf_pos {ls:List Nat} (pos:∀k∈ls,0<k) {v:Nat} (h:v<ls.length):0<Lf ls v:=by
 unfold Lf
 have e:ls.getD v 0=ls[v]:=by simp [List.getD,h]
 rw [e]
 exact pos _ (List.getElem_mem h)
theorem sys_le {ps G:List Pr} {ls:List Nat} {ts us:List Pr} (hb:Below ls.length (ps++G)) (pos:∀k∈ls,0<k) (s1:Sys ps ls ts) (s2:Sys (ps++G) ls us):∀e v,v<ls.length->En us v=e->En ts v<=e:=by
 intro e
 induction e using Nat.strongRecOn with
 |ind e ih=>
  intro v hv he
  obtain⟨a1,a2,a3⟩:=s1.sys v hv
  obtain⟨b1,b2,b3⟩:=s2.sys v hv
  have hp:=lf_pos pos hv
  unfold En at he⊢
  have le:(ts.getD v (0,0)).1<=(us.getD v (0,0)).1:=by
   rcases a3 with z|⟨q,m,z⟩
   ·omega
   ·obtain⟨x,x1,x2⟩:=b2 q (List.mem_append_left _ m)
    have hx:En us q=x:=by unfold Tf at x1;exact Option.some.inj x1
    have:=ih x (by omega) q (hb _ (List.mem_append_left _ m)).2 hx
    have hz:En ts q=(ts.getD v (0,0)).1:=by unfold Tf at z;exact Option.some.inj z
    omega
  omega
theorem mem_end {ts:List Pr} {t:Pr} (h:t∈ts):∃v,v<ts.length/\En ts v=t.2:=by
 obtain⟨i,hi,e⟩:=List.getElem_of_mem h
 exact⟨i,hi,by unfold En;simp [List.getD,hi,e]⟩
theorem end_mem {ts:List Pr} {v:Nat} (h:v<ts.length):∃t∈ts,t.2=En ts v:=⟨ts[v],List.getElem_mem h,by unfold En;simp [List.getD,h]⟩
theorem mx_le {ps G:List Pr} {ls:List Nat} {ts us:List Pr} {m k:Nat} (hb:Below ls.length (ps++G)) (pos:∀k∈ls,0<k) (s1:Sys ps ls ts) (s2:Sys (ps++G) ls us) (h1:IsMx m ts) (h2:IsMx k us):m<=k:=by
 rcases h1.1 with z|⟨t,ht,z⟩
 ·omega
 ·obtain⟨v,hv,e⟩:=mem_end ht
  rw [s1.len]at hv
  have:=sys_le hb pos s1 s2 _ v hv rfl
  obtain⟨u,hu,eu⟩:=end_mem (ts:=us) (v:=v) (by rw [s2.len];exact hv)
  have:=h2.2 u hu
  omega
theorem row_pre {G:List Pr} {ls:List Nat} {us:List Pr} (s:Sys G ls us) {row:List Nat} (low:∀v∈row,v<ls.length) (hG:∀j a b,row[j+1]? =some a->row[j]? =some b->(a,b)∈G):∀j v,row[j]? =some v->((row.take (j+1)).map (Lf ls)).sum<=En us v
 |0,v,h=>by
  rw [List.take_succ,h,List.take_zero]
  obtain⟨a1,a2⟩:=s.sys v (low v (List.mem_of_getElem? h))
  have hs:(([]++(some v).toList).map (Lf ls)).sum=Lf ls v:=by simp
  rw [hs]
  unfold En
  omega
 |j+1,v,h=>by
  have hj:j<row.length:=by have:=(List.getElem?_eq_some_iff.mp h).1;omega
  have hu:row[j]? =some row[j]:=List.getElem?_eq_getElem hj
  have ih:=row_pre s low hG j _ hu
  rw [List.take_succ,h,List.map_append,List.sum_append]
  obtain⟨a1,a2,_⟩:=s.sys v (low v (List.mem_of_getElem? h))
  obtain⟨x,x1,x2⟩:=a2 _ (hG j v _ h hu)
  have hx:En us row[j]=x:=by unfold Tf at x1;exact Option.some.inj x1
  have hs:((some v).toList.map (Lf ls)).sum=Lf ls v:=by simp
  rw [hs]
  show _<=(us.getD v (0,0)).2
  omega
theorem row_le_mx {G:List Pr} {ls:List Nat} {us:List Pr} {m:Nat} (s:Sys G ls us) (mx:IsMx m us) {row:List Nat} (low:∀v∈row,v<ls.length) (hG:∀j a b,row[j+1]? =some a->row[j]? =some b->(a,b)∈G):(row.map (Lf ls)).sum<=m:=by
 cases hr:row.length with
 |zero=>
  rw [List.eq_nil_of_length_eq_zero hr]
  exact Nat.zero_le _
 |succ k=>
  have hk:row[k]? =some (row[k]'(by omega)):=List.getElem?_eq_getElem (by omega)
  have h1:=row_pre s low hG k _ hk
  rw [List.take_of_length_le (by omega)]at h1
  obtain⟨t,ht,et⟩:=end_mem (ts:=us) (v:=row[k]'(by omega)) (by rw [s.len];exact low _ (List.getElem_mem _))
  have:=mx.2 t ht
  omega
theorem flat_sum {rs:List (List Nat)} {f:Nat->Nat} {m:Nat} (h:∀r∈rs,(r.map f).sum<=m):(rs.flatten.map f).sum<=rs.length*m:=by
 induction rs with
 |nil=>exact Nat.zero_le _
 |cons r rs ih=>
  rw [List.flatten_cons,List.map_append,List.sum_append,List.length_cons,Nat.succ_mul]
  have h1:=h r (List.mem_cons_self ..)
  have h2:=ih fun x hx=>h x (List.mem_cons_of_mem _ hx)
  omega
theorem range_lf (ls:List Nat):(List.range ls.length).map (Lf ls)=ls:=by
 apply List.ext_getElem
 ·simp
 ·intro i h1 h2
  rw [List.getElem_map,List.getElem_range]
  unfold Lf
  simp [List.getD,h2]
theorem work_le {ps:List Pr} {ls:List Nat} {rs:List (List Nat)} {us:List Pr} {m:Nat} (s:Sys (ps++rowPs rs) ls us) (mx:IsMx m us) (pm:rs.flatten.Perm (List.range ls.length)):ls.sum<=rs.length*m:=by
 have h:=flat_sum (rs:=rs) (f:=Lf ls) (m:=m) fun r hr=>row_le_mx s mx (fun v hv=>perm_lt pm v (List.mem_flatten.mpr ⟨r,hr,hv⟩)) fun j a b h1 h2=>by
  obtain⟨i,hi⟩:=List.mem_iff_getElem?.mp hr
  exact List.mem_append_right _ (rowPs_iff.mpr ⟨i,j,r,hi,h1,h2⟩)
 rw [(pm.map (Lf ls)).sum_nat,range_lf]at h
 exact h
theorem ceil_le {S h m:Nat} (h0:0<h) (hs:S<=h*m):((S:Int)+(h:Int)-1) / (h:Int)<=(m:Int):=by
 have:((S:Int)+(h:Int)-1) / (h:Int)<(m:Int)+1:=by
  refine Int.ediv_lt_of_lt_mul (by omega) ?_
  have e:((h*m:Nat):Int)=(h:Int)*(m:Int):=by push_cast;rfl
  have e2:((m:Int)+1)*(h:Int)=(h:Int)*(m:Int)+(h:Int):=by rw [Int.add_mul,Int.one_mul,Int.mul_comm]
  rw [e2]
  omega
 omega
theorem perm_of_ord {n:Nat} {os:List Nat} (nd:os.Nodup) (lt:∀v∈os,v<n) (len:os.length=n):os.Perm (List.range n):=by
 refine(List.perm_ext_iff_of_nodup nd List.nodup_range).mpr fun v=>⟨fun h=>List.mem_range.mpr (lt v h),fun h=>?_⟩
 apply Decidable.byContradiction
 intro no
 have nd':(v::os).Nodup:=List.nodup_cons.mpr ⟨no,nd⟩
 have:=nd'.length_le_of_subset (l₂:=List.range n) fun a ha=>by
  rcases List.mem_cons.mp ha with rfl|g
  ·exact h
  ·exact List.mem_range.mpr (lt a g)
 rw [List.length_range,List.length_cons,len]at this
 omega
theorem getD_pos {ls:List Nat} (pos:∀k∈ls,0<k) {v:Nat} (hv:v<ls.length):0<ls.getD v 0:=by
 have:ls.getD v 0=ls[v]:=by simp [List.getD,hv]
 rw [this]
 exact pos _ (List.getElem_mem hv)
structure Own (ls:List Nat) (G:List Pr) (st:Wst) (E:Nat->Nat):Prop where
 e:Ends_ ls G E (mxN st.ff)
 perm:st.rw.flatten.Perm (List.range ls.length)
 len:st.rw.length=st.ff.length
theorem own_of {ls:List Nat} {ps ps':List Pr} {h:Nat} {os:List Nat} (h0:0<h) (pos:∀k∈ls,0<k) (mem:∀z,z∈ps'↔z∈ps) (ord:os∈ords ps' ls.length ls.length):
  ∃E,Own ls (ps++rowPs (walk ls ps' h os).rw) (walk ls ps' h os) E:=by
 obtain⟨nd,fit⟩:=ords_fit _ os ord
 have ol:=(ords_len ps' (n:=ls.length) ls.length).2 os ord
 obtain⟨done,pm,g⟩:=walk_sys (ls:=ls) h0 nd fit os.length (Nat.le_refl _)
 rw [List.take_length]at pm g
 have po:os.Perm (List.range ls.length):=perm_of_ord nd (fun v hv=>by
  obtain⟨i,hi,e⟩:=List.getElem_of_mem hv
  exact(fit i v (by rw [List.getElem?_eq_getElem hi,e])).1) ol
 have dn:∀v,v∈done↔v<ls.length:=fun v=>by rw [pm.mem_iff,po.mem_iff,List.mem_range]
 generalize walk ls ps' h os=st at g⊢
 have prm:st.rw.flatten.Perm (List.range ls.length):=g.perm.trans (pm.trans po)
 have mG:∀z,z∈ps'++rowPs st.rw↔z∈ps++rowPs st.rw:=fun z=>by rw [List.mem_append,List.mem_append,mem z]
 have sys:∀v,v<ls.length->∃b,(st.en v).getD 0=b+ls.getD v 0/\(∀q,(v,q)∈ps++rowPs st.rw->(st.en q).getD 0<=b)/\(b=0∨∃q,(v,q)∈ps++rowPs st.rw/\(st.en q).getD 0=b):=fun v hv=>by
  obtain⟨b,e,h1,h2⟩:=g.sys v ((dn v).mpr hv)
  refine⟨b,by rw [e];rfl,fun q hq=>?_,h2.imp id fun⟨q,hq,e2⟩=>⟨q,(mG _).mp hq,by rw [e2];rfl⟩⟩
  obtain⟨e2,h3,h4⟩:=h1 q ((mG _).mpr hq)
  rw [h3]
  exact h4
 have rise:∀(k:Nat) (row:List Nat),st.rw[k]? =some row->∀(d i:Nat) (v:Nat),i+d+1=row.length->row[i]? =some v->∃u,row.getLast? =some u/\(st.en v).getD 0<=(st.en u).getD 0:=by
  intro k row hk d
  induction d with
  |zero=>
   intro i v hl hv
   refine⟨v,?_,Nat.le_refl _⟩
   rw [List.getLast?_eq_getElem?, <-hv]
   congr 1
   omega
  |succ d ih=>
   intro i v hl hv
   have hi:i+1<row.length:=by omega
   obtain⟨u,hu,le⟩:=ih (i+1) row[i+1] (by omega) (List.getElem?_eq_getElem hi)
   refine⟨u,hu,Nat.le_trans ?_ le⟩
   have m:(row[i+1],v)∈rowPs st.rw:=mem_rowPs.mpr ⟨k,row,i,hk,List.getElem?_eq_getElem hi,hv⟩
   have lt:row[i+1]<ls.length:=perm_lt prm _ (List.mem_flatten.mpr ⟨row,List.mem_of_getElem? hk,List.getElem_mem hi⟩)
   obtain⟨b,e,h1,_⟩:=sys _ lt
   have:=h1 v (List.mem_append_right _ m)
   omega
 have hne:st.ff≠[]:=fun z=>by have:=g.l1;rw [z]at this;simp at this;omega
 obtain⟨mx1,mx2⟩:=mxN_mem hne
 refine⟨fun v=>(st.en v).getD 0,⟨sys,fun v hv=>?_,?_⟩,prm,by rw [g.l1,g.l2]⟩
 ·obtain⟨row,hr,hv'⟩:=List.mem_flatten.mp (prm.mem_iff.mpr (List.mem_range.mpr hv))
  obtain⟨k,hk,ek⟩:=List.getElem_of_mem hr
  obtain⟨i,hi,ei⟩:=List.getElem_of_mem hv'
  have hrow:st.rw[k]? =some row:=by rw [List.getElem?_eq_getElem hk,ek]
  obtain⟨u,hu,le⟩:=rise k row hrow (row.length-i-1) i v (by omega) (by rw [List.getElem?_eq_getElem hi,ei])
  rcases g.last k row hrow with ⟨z,_⟩|⟨u',hu',e⟩
  ·rw [z]at hi;simp at hi
  ·rw [hu]at hu'
   cases hu'
   rw [e]at le
   have hk':k<st.ff.length:=by rw [g.l1, <-g.l2];exact hk
   have:st.ff.getD k 0∈st.ff:=by
    have:st.ff.getD k 0=st.ff[k]:=by simp [List.getD,hk']
    rw [this];exact List.getElem_mem hk'
   exact Nat.le_trans le (mx2 _ this)
 ·obtain⟨k,hk,ek⟩:=List.getElem_of_mem mx1
  have hk':k<st.rw.length:=by rw [g.l2, <-g.l1];exact hk
  have gd:st.ff.getD k 0=mxN st.ff:=by rw [<-ek];simp [List.getD,hk]
  rcases g.last k _ (List.getElem?_eq_getElem hk')with ⟨_,z⟩|⟨u,hu,e⟩
  ·exact .inl (by rw [<-gd,z])
  ·refine .inr ⟨u,perm_lt prm _ (List.mem_flatten.mpr ⟨_,List.getElem_mem hk',List.mem_of_getLast? hu⟩),?_⟩
   show(st.en u).getD 0=mxN st.ff
   rw [e, <-gd]
   rfl
theorem ends_no {ls:List Nat} {G:List Pr} {E:Nat->Nat} {m:Nat} (pos:∀k∈ls,0<k) (e:Ends_ ls G E m) {S:Nat->Prop} (lt:∀v,S v->v<ls.length) (st:∀v,S v->∃q,(v,q)∈G/\S q):∀(N v:Nat),E v<=N->¬S v
 |0,v,h,hv=>by
  obtain⟨b,e1,_⟩:=e.sys v (lt v hv)
  have:=getD_pos pos (lt v hv)
  omega
 |N+1,v,h,hv=>by
  obtain⟨b,e1,h1,_⟩:=e.sys v (lt v hv)
  have:=getD_pos pos (lt v hv)
  obtain⟨q,hq,sq⟩:=st v hv
  have:=h1 q hq
  exact ends_no pos e lt st N q (by omega) sq
theorem ends_eq {ls:List Nat} {G:List Pr} {E E':Nat->Nat} {m m':Nat} (pos:∀k∈ls,0<k) (bel:Below ls.length G) (e:Ends_ ls G E m) (e':Ends_ ls G E' m'):∀(N v:Nat),v<ls.length->E v<=N->E' v=E v
 |0,v,hv,h=>by
  obtain⟨b,e1,_⟩:=e.sys v hv
  have:=getD_pos pos hv
  omega
 |N+1,v,hv,h=>by
  obtain⟨b,e1,h1,h2⟩:=e.sys v hv
  obtain⟨b',e1',h1',h2'⟩:=e'.sys v hv
  have lv:=getD_pos pos hv
  have ih:∀q,(v,q)∈G->E' q=E q:=fun q hq=>ends_eq pos bel e e' N q (bel _ hq).2 (by have:=h1 q hq;omega)
  have le:b'<=b:=by
   rcases h2' with z|⟨q,hq,z⟩
   ·omega
   ·rw [<-z,ih q hq];exact h1 q hq
  have ge:b<=b':=by
   rcases h2 with z|⟨q,hq,z⟩
   ·omega
   ·rw [<-z, <-ih q hq];exact h1' q hq
  omega
theorem ends_max {ls:List Nat} {G:List Pr} {E E':Nat->Nat} {m m':Nat} (pos:∀k∈ls,0<k) (bel:Below ls.length G) (e:Ends_ ls G E m) (e':Ends_ ls G E' m'):m'=m:=by
 have q:∀v,v<ls.length->E' v=E v:=fun v hv=>ends_eq pos bel e e' (E v) v hv (Nat.le_refl _)
 have a:m'<=m:=by
  rcases e'.is with z|⟨v,hv,z⟩
  ·omega
  ·rw [<-z,q v hv];exact e.le v hv
 have b:m<=m':=by
  rcases e.is with z|⟨v,hv,z⟩
  ·omega
  ·rw [<-z, <-q v hv];exact e'.le v hv
 omega
theorem below_rows {ls:List Nat} {ps:List Pr} {rs:List (List Nat)} (bel:Below ls.length ps) (pm:rs.flatten.Perm (List.range ls.length)):Below ls.length (ps++rowPs rs):=fun z hz=>by
 rcases List.mem_append.mp hz with m|m
 ·exact bel z m
 ·exact rowPs_mem (perm_lt pm) z m
theorem ends_sys {ls:List Nat} {G:List Pr} {E:Nat->Nat} {m:Nat} (bel:Below ls.length G) (e:Ends_ ls G E m):∃us,Sys G ls us/\IsMx m us:=by
 have gd:∀v,v<ls.length->((List.range ls.length).map fun v=>(E v-ls.getD v 0,E v)).getD v (0,0)=(E v-ls.getD v 0,E v):=fun v hv=>by
  simp [List.getD,hv]
 refine⟨(List.range ls.length).map fun v=>(E v-ls.getD v 0,E v),⟨by rw [List.length_map,List.length_range],fun v hv=>?_⟩,?_,?_⟩
 ·obtain⟨b,e1,h1,h2⟩:=e.sys v hv
  have bb:E v-ls.getD v 0=b:=by omega
  have tf:∀q,(v,q)∈G->Tf ((List.range ls.length).map fun v=>(E v-ls.getD v 0,E v)) q=some (E q):=fun q hq=>by
   unfold Tf
   rw [gd q (bel _ hq).2]
  rw [gd v hv]
  refine⟨?_,fun q hq=>⟨_,tf q hq,?_⟩,?_⟩
  ·show E v=E v-ls.getD v 0+Lf ls v
   unfold Lf
   omega
  ·have:=h1 q hq
   show E q<=E v-ls.getD v 0
   omega
  ·show E v-ls.getD v 0=0∨_
   rw [bb]
   exact h2.imp id fun⟨q,hq,z⟩=>⟨q,hq,by rw [tf q hq,z]⟩
 ·exact e.is.imp id fun⟨v,hv,z⟩=>⟨_,List.mem_map.mpr ⟨v,List.mem_range.mpr hv,rfl⟩,z⟩
 ·intro t ht
  obtain⟨v,hv,rfl⟩:=List.mem_map.mp ht
  exact e.le v (List.mem_range.mp hv)
theorem ends_rise {ls:List Nat} {G:List Pr} {E:Nat->Nat} {m:Nat} {row:List Nat} (e:Ends_ ls G E m) (lt:∀v∈row,v<ls.length) (hG:∀j a b,row[j+1]? =some a->row[j]? =some b->(a,b)∈G):∀(d i v u:Nat),row[i]? =some v->row[i+d]? =some u->E v<=E u
 |0,i,v,u,h1,h2=>by
  rw [Nat.add_zero,h1]at h2
  cases h2
  exact Nat.le_refl _
 |d+1,i,v,u,h1,h2=>by
  have hl:=(List.getElem?_eq_some_iff.mp h2).1
  have hd:i+d<row.length:=by omega
  have h3:row[i+d]? =some row[i+d]:=List.getElem?_eq_getElem hd
  have:=ends_rise e lt hG d i v _ h1 h3
  obtain⟨b,e1,h4,_⟩:=e.sys u (lt u (List.mem_of_getElem? h2))
  have:=h4 _ (hG (i+d) _ _ h2 h3)
  omega
theorem one_le {ls:List Nat} {ps:List Pr} {E:Nat->Nat} {m:Nat} {row:List Nat} (pos:∀k∈ls,0<k) (bel:Below ls.length ps) (pm:row.Perm (List.range ls.length)) (e:Ends_ ls (ps++rowPs [row]) E m):
  ∀N i v,row[i]? =some v->E v<=N->E v<=((row.take (i+1)).map (Lf ls)).sum:=by
 have lt:∀v∈row,v<ls.length:=fun v hv=>List.mem_range.mp (pm.mem_iff.mp hv)
 have hG:∀j a b,row[j+1]? =some a->row[j]? =some b->(a,b)∈ps++rowPs [row]:=fun j a b h1 h2=>List.mem_append_right _ (mem_rowPs.mpr ⟨0,row,j,rfl,h1,h2⟩)
 have bG:Below ls.length (ps++rowPs [row]):=below_rows bel (by simpa using pm)
 intro N
 induction N with
 |zero=>
  intro i v hv hN
  omega
 |succ N ih=>
  intro i v hv hN
  have vl:=lt v (List.mem_of_getElem? hv)
  obtain⟨b,e1,h1,h2⟩:=e.sys v vl
  have lv:=getD_pos pos vl
  have sp:((row.take (i+1)).map (Lf ls)).sum=((row.take i).map (Lf ls)).sum+Lf ls v:=by
   rw [List.take_succ,hv,List.map_append,List.sum_append]
   simp
  have lf:Lf ls v=ls.getD v 0:=rfl
  rcases h2 with z|⟨q,hq,z⟩
  ·omega
  ·have ql:=(bG _ hq).2
   obtain⟨j,hj⟩:=List.mem_iff_getElem?.mp (pm.mem_iff.mpr (List.mem_range.mpr ql))
   have ji:j<i:=Decidable.byContradiction fun no=>by
    have:=ends_rise e lt hG (j-i) i v q hv (by rw [show i+(j-i)=j by omega];exact hj)
    omega
   have h3:=ih j q hj (by omega)
   have mono:((row.take (j+1)).map (Lf ls)).sum<=((row.take i).map (Lf ls)).sum:=by
    have:row.take i=row.take (j+1)++(row.drop (j+1)).take (i-(j+1)):=by
     rw [<-List.take_add]
     congr 1
     omega
    rw [this,List.map_append,List.sum_append]
    omega
   omega
theorem one_sum {ls:List Nat} {ps:List Pr} {E:Nat->Nat} {m:Nat} {rs:List (List Nat)} (pos:∀k∈ls,0<k) (bel:Below ls.length ps) (pm:rs.flatten.Perm (List.range ls.length)) (l1:rs.length=1) (e:Ends_ ls (ps++rowPs rs) E m):m=ls.sum:=by
 obtain⟨us,sy,mx⟩:=ends_sys (below_rows bel pm) e
 have ge:=work_le sy mx pm
 obtain⟨row,rfl⟩:∃row,rs=[row]:=by
  match rs,l1 with
  | [r],_=>exact⟨r,rfl⟩
 have pm':row.Perm (List.range ls.length):=by simpa using pm
 have le:m<=ls.sum:=by
  rcases e.is with z|⟨v,hv,z⟩
  ·omega
  ·obtain⟨i,hi⟩:=List.mem_iff_getElem?.mp (pm'.mem_iff.mpr (List.mem_range.mpr hv))
   have h1:=one_le pos bel pm' e (E v) i v hi (Nat.le_refl _)
   have h2:((row.take (i+1)).map (Lf ls)).sum<=(row.map (Lf ls)).sum:=by
    have:row=row.take (i+1)++row.drop (i+1):=(List.take_append_drop _ _).symm
    conv=>rhs;rw [this,List.map_append,List.sum_append]
    omega
   have h3:(row.map (Lf ls)).sum=ls.sum:=by rw [(pm'.map (Lf ls)).sum_nat,range_lf]
   omega
 rw [l1]at ge
 omega
def dealt (f:Nat->Nat) (n h:Nat):List (List Nat):=(List.range h).map fun k=>(List.range n).filter fun v=>decide (f v=k)
theorem dealt_perm {f:Nat->Nat} {n h:Nat} (hf:∀v,v<n->f v<h):(dealt f n h).flatten.Perm (List.range n):=by
 have nd:∀h,(dealt f n h).flatten.Nodup/\∀v∈(dealt f n h).flatten,f v<h:=by
  intro h
  induction h with
  |zero=>exact⟨List.nodup_nil,fun v hv=>nomatch hv⟩
  |succ h ih=>
   have e:(dealt f n (h+1)).flatten=(dealt f n h).flatten++(List.range n).filter fun v=>decide (f v=h):=by
    unfold dealt
    rw [List.range_succ,List.map_append,List.flatten_append]
    simp
   rw [e]
   refine⟨List.nodup_append.mpr ⟨ih.1,List.nodup_range.filter _,fun a ha b hb z=>?_⟩,fun v hv=>?_⟩
   ·have h1:=ih.2 a ha
    have h2:=of_decide_eq_true (List.mem_filter.mp hb).2
    subst z
    omega
   ·rcases List.mem_append.mp hv with m|m
    ·have:=ih.2 v m
     omega
    ·have:=of_decide_eq_true (List.mem_filter.mp m).2
     omega
 refine(List.perm_ext_iff_of_nodup (nd h).1 List.nodup_range).mpr fun v=>⟨fun hv=>?_,fun hv=>?_⟩
 ·obtain⟨r,hr,hv⟩:=List.mem_flatten.mp hv
  obtain⟨k,_,rfl⟩:=List.mem_map.mp hr
  exact(List.mem_filter.mp hv).1
 ·exact List.mem_flatten.mpr ⟨_,List.mem_map.mpr ⟨f v,List.mem_range.mpr (hf v (List.mem_range.mp hv)),rfl⟩,List.mem_filter.mpr ⟨hv,decide_eq_true rfl⟩⟩
def spChain:Sp:=fun vs H Q _=>∃(la p:Addr) (ls:List Nat) (xs:List V) (ps:List Pr),vs=[.ref la,.ref p]/\LwIn H la p ls xs ps/\(∀v,¬Reach ps v v)/\
 ∀(m:Nat) (ts:List Pr) (H':Hp),Same H H'->Sys ps ls ts->IsMx m ts->Q (natV m) H'
def spWork:Sp:=fun vs H Q _=>∃(la:Addr) (ls:List Nat) (h:Int),vs=[.ref la,.int h]/\H la=some (.lst (nats ls))/\ls.length<=1000/\(∀k∈ls,k<=1000)/\0<h/\h<2 ^ 62/\Q (.int (((ls.sum:Nat)+h-1) / h)) H
def spCell (K:W.Frag):Sp:=fun vs H Q _=>∃(a:Addr) (ns:List Int) (k:Nat),vs=[.ref a,natV k]/\SqL K H a (ns.map V.int)/\∀c:Int,Q (.int c) H
theorem sum_nats (l:List Nat):(l.map fun k:Nat=>(k:Int)).sum=((l.sum:Nat):Int):=by
 induction l with
 |nil=>rfl
 |cons a l ih=>rw [List.map_cons,List.sum_cons,List.sum_cons,ih];omega
theorem sum_ok {K:W.Frag} {la:Addr} {ls:List Nat} {H:Hp} {Q:VK} (h:H la=some (.lst (nats ls))) (hn:ls.length<=1000) (hk:∀k∈ls,k<=1000) (q:Q (natV ls.sum) H):rSum K [.ref la] H Q:=by
 rw [nats_ints]at h
 refine⟨la,ls.map fun k:Nat=>(k:Int),rfl,SqL.of h,by rw [List.length_map];exact hn,fun x hx=>?_,by rw [sum_nats];exact q⟩
 obtain⟨k,hm,rfl⟩:=List.mem_map.mp hx
 have:=hk k hm
 exact⟨by omega,by omega⟩
theorem scChain:FnScope ["lasts","pairs"] ["lasts","pairs"] (defScope sChain):=⟨rfl,rfl,rfl,by decide+kernel,rfl,by decide+kernel,by decide+kernel⟩
theorem ok_chain {f:Addr} {fd:FuncData} (F:Fun K "chain_bound" "chain_bound" sChain f fd) (c_times:Cal P w K mg base CX0 3 "times_of" ["lasts","pairs"] spTimes) (c_last:Cal P w K mg base CX0 1 "last_end" ["times"] spLast):FnOk P w K mg base CX0 4 f fd ["lasts","pairs"] spChain:=by
 refine F.ok scChain (fun vs H Q E h=>?_) (fun cdv A outer s H vs Q E hr h=>?_)
 ·obtain⟨la,p,ls,xs,ps,rfl,_⟩:=h
  rfl
 ·obtain⟨la,p,ls,xs,ps,rfl,I,no,qO⟩:=h
  refine⟨_,(pss_one (ps_ret (pe_c c_last (hr.mono (by decide)) rfl pass0 (pa_cons (pe_c c_times (hr.mono (by decide)) rfl pass0 (pa_cons (pv 0) (pa_cons (pv 1) pa_nil))) pa_nil)))),?_⟩
  have n60:=I.n
  have l18:=I.l
  refine⟨_,rfl,_,rfl,la,p,ls,xs,ps,rfl,I.la,I.p,I.pp,I.bel,I.n,by omega,no,fun q ys ts ws H1 s1 _ e1 p1 sy ok cov=>?_⟩
  exact⟨q,ys,ts,rfl,e1,p1,by rw [sy.len];omega,fun m H2 s2 mx=>qO m ts H2 (s1.trans s2) sy mx⟩
theorem scWork:FnScope ["lasts","hands"] ["lasts","hands"] (defScope sWork):=⟨rfl,rfl,rfl,by decide+kernel,rfl,by decide+kernel,by decide+kernel⟩
theorem ok_work {f:Addr} {fd:FuncData} (F:Fun K "work_bound" "work_bound" sWork f fd) (T:Txt K mg):FnOk P w K mg base CX0 1 f fd ["lasts","hands"] spWork:=by
 refine F.ok scWork (fun vs H Q E h=>?_) (fun cdv A outer s H vs Q E hr h=>?_)
 ·obtain⟨la,ls,h,rfl,_⟩:=h
  rfl
 ·obtain⟨la,ls,h,rfl,hla,hn,hk,h0,h1,q⟩:=h
  refine⟨_,(pss_one (ps_ret (pe_op op_fdivM (pe_op op_sub (pe_op op_add (pe_callB (call_sum rfl) rfl T.sum boot_sum (pa_cons (pv 0) pa_nil)) (pv 1)) pe_int) (pv 1)))),?_⟩
  refine⟨_,rfl,?_⟩
  dsimp only [tNil]
  refine sum_ok hla hn hk ?_
  exact⟨_,rfl,_,_,rfl,rfl,_,_,rfl,rfl,_,rfl,_,_,rfl,rfl,⟨h0,h1⟩,q⟩
theorem scCell:FnScope ["_law_script","_law_k"] ["_law_script","_law_k"] (defScope sCell):=⟨rfl,rfl,rfl,by decide+kernel,rfl,by decide+kernel,by decide+kernel⟩
theorem ok_cell {f:Addr} {fd:FuncData} (F:Fun K "_law_cell_at" "_law_cell_at" sCell f fd) (T:Txt K mg):FnOk P w K mg base CX0 1 f fd ["_law_script","_law_k"] (spCell K):=by
 refine F.ok scCell (fun vs H Q E h=>?_) (fun cdv A outer s H vs Q E hr h=>?_)
 ·obtain⟨a,ns,k,rfl,_⟩:=h
  rfl
 ·obtain⟨a,ns,k,rfl,hS,q⟩:=h
  refine⟨_,(pss_cons (ps_if (pt_cmpR op_lt (pv 1) (pe_callB call_len_seq (by rfl) T.len PySem.boot_len (pa_cons (pv 0) pa_nil)) (nomark _)) (pss_one (ps_ret (pe_ix ix_list (pv 0) (pv 1) (fun _ _=>rfl)))) pss_nil) (pss_one (ps_ret pe_int))),?_⟩
  refine⟨_,rfl,_,rfl,a,_,rfl,.inl hS,_,_,rfl,rfl,_,rfl,?_⟩
  by_cases h:k<ns.length
  ·refine iteTe (decide_eq_true (by rw [List.length_map];omega)) ?_
   exact⟨_,rfl,_,rfl,a,_,_,_,rfl,rfl,hS,atI_nat (show(ns.map V.int)[k]? =some (.int ns[k]) by rw [List.getElem?_map,List.getElem?_eq_getElem h];rfl),q _⟩
  ·exact iteFe (decide_eq_false (by rw [List.length_map];omega)) (q 0)
theorem kpSame {a:Addr} {H H1 H2:Hp} (k:Kp a H1 H2) (s:Same H H1) (n:H a=none):Same H H2:=fun b o e=>k b o (s b o e) (ne_of_none e n)
theorem WellAt.same {a:Addr} {H H':Hp} (s:Same H H') (h:WellAt H a):WellAt H' a:=by
 obtain⟨x,y,z,e⟩:=h
 exact⟨x,y,z,s _ _ e⟩
theorem PrsAt.same {H H':Hp} {xs:List V} {ps:List Pr} (s:Same H H') (h:PrsAt H xs ps):PrsAt H' xs ps:=PrsAt.mono (fun c _ e=>s c _ e) h
structure Gd (H H':Hp) (a la p:Addr) (ls:List Nat) (xs:List V) (ps:List Pr):Prop where
 kp:Kp a H H'
 well:WellAt H' a
 nl:H la=none
 np:H p=none
 la:H' la=some (.lst (nats ls))
 p:H' p=some (.lst xs)
 pp:PrsAt H' xs ps
 bel:Below ls.length ps
 n:ls.length<=6
 l:ps.length<=7
 pos:∀k∈ls,0<k/\k<=120
 no:∀S,Nest ls.length ps S->∀v,¬S v
def spGood:Sp:=fun vs H Q _=>∃(a:Addr) (most:Nat),vs=[.ref a,natV most]/\WellAt H a/\most<=6/\∀(t la p:Addr) (ls:List Nat) (xs:List V) (ps:List Pr) (H':Hp),Gd H H' a la p ls xs ps->H' t=some (.tup [.ref la,.ref p])->Q (.ref t) H'
theorem scGood:FnScope ["_law_tape_here","_law_most","_law_lasts","_law_pairs","_law_good","_law_pair"] ["_law_tape_here","_law_most"] (defScope sGood):=⟨rfl,rfl,rfl,by decide+kernel,rfl,by decide+kernel,by decide+kernel⟩
theorem ok_good {f:Addr} {fd:FuncData} (F:Fun K "_law_good_task" "_law_good_task" sGood f fd) (c_task:Cal P w K mg base CX0 2 "_law_task" ["_law_tape_here","_law_most"] spTask) (c_round:Cal P w K mg base CX0 1 "_law_goes_round" ["_law_many","_law_pairs"] spRound) (T:Txt K mg):FnOk P w K mg base CX0 3 f fd ["_law_tape_here","_law_most"] spGood:=by
 refine F.ok scGood (fun vs H Q E h=>?_) (fun cdv A outer s H vs Q E hr h=>?_)
 ·obtain⟨a,most,rfl,_⟩:=h
  rfl
 ·obtain⟨a,most,rfl,wa,m6,q⟩:=h
  refine⟨_,(pss_cons (ps_asg (pe_c c_task (hr.mono (by decide)) rfl pass0 (pa_cons (pv 0) (pa_cons (pv 1) pa_nil))) (pg_tup rfl (pgs_cons (pg_name (i:=2) scGood.nd rfl (Or.inl rfl)) (pgs_cons (pg_name (i:=3) scGood.nd rfl (Or.inl rfl)) pgs_nil)))) (pss_cons (ps_set (i:=4) scGood.nd rfl (Or.inl rfl) (pe_lst pa_nil)) (pss_cons (ps_for PassesOwn.never rfl (pi_list (pv 3)) (pg_name (i:=5) scGood.nd rfl (Or.inl rfl)) (pss_one (ps_if (pt_not (pt_val (pe_c c_round (hr.mono (by decide)) rfl pass0 (pa_cons (pe_callB call_len_seq (by rfl) T.len PySem.boot_len (pa_cons (pv 2) pa_nil)) (pa_cons (pe_op op_cat (pv 4) (pe_lst (pa_cons (pv 5) pa_nil))) pa_nil))))) (pss_one (ps_expr (pe_bm PySem.F.plainAttrs_list PySem.F.slot_list_append PySem.F.type_list_append mt_append (pv 4) (pa_cons (pv 5) pa_nil)))) pss_nil))) (pss_one (ps_ret (pe_tup (pa_cons (pv 2) (pa_cons (pv 4) pa_nil)))))))),?_⟩
  refine⟨_,rfl,_,rfl,a,most,rfl,wa,by omega,fun t la p ls xs ps H1 tk et=>?_⟩
  have nl:(nats ls).length=ls.length:=by unfold nats;rw [List.length_map]
  have n6:=tk.n
  have l7:=tk.l
  refine⟨t,_,rfl,SqT.of et,rfl,_,_,rfl,_,_,rfl,rfl,?_⟩
  refine⟨by show 0<=sizeLine;decide,fun g hg=>?_⟩
  have gn:=tk.kp.free tk.well hg
  have ga:g≠a:=tk.well.ne hg
  generalize e:upd H1 g _=H2
  obtain⟨s2,e2⟩:=new_of hg e
  have gl:la≠g:=ne_of_none tk.la hg
  have gp:p≠g:=ne_of_none tk.p hg
  refine⟨_,rfl,p,rfl,⟨_,SqL.of (s2 _ _ tk.p)⟩,?_⟩
  refine for_list (K:=K) (a:=p) (xs:=xs) (fun i σ H3=>∃(v5:Option V) (ys:List V) (qs:List Pr),σ=[some (.ref a),some (natV most),some (.ref la),some (.ref p),some (.ref g),v5]/\Kp a H H3/\WellAt H3 a/\H3 la=some (.lst (nats ls))/\H3 p=some (.lst xs)/\PrsAt H3 xs ps/\H3 g=some (.lst ys)/\PrsAt H3 ys qs/\Below ls.length qs/\qs.length<=i/\∀S,Nest ls.length qs S->∀v,¬S v)
   ⟨none,[],[],rfl,tk.kp.same s2,tk.well.same s2,s2 _ _ tk.la,s2 _ _ tk.p,PrsAt.same s2 tk.pp,e2,.nil,(fun _ h=>nomatch h),Nat.le_refl _,fun S N v sv=>by obtain⟨q,h,_⟩:=N.2 v sv;cases h⟩ (fun i σ H3 _ ⟨_,_,_,_,_,_,_,h3,_⟩=>SqL.of h3) ?_ ?_
  ·rintro i x σ H3 hx ⟨v5,ys,qs,rfl,k3,w3,hl3,hp3,pp3,hg3,pq3,bel3,len3,no3⟩
   obtain⟨pr,hpr,b,rfl,hb⟩:=Paired.get pp3 hx
   have il:i<ps.length:=(List.getElem?_eq_some_iff.mp hpr).1
   have ly:=Paired.length pq3
   refine⟨_,rfl,la,_,rfl,.inl (SqL.of hl3),_,rfl,_,rfl,by show 1<=sizeLine;decide,fun l1 n1=>?_⟩
   generalize e:upd H3 l1 _=H4
   obtain⟨s4,e4⟩:=new_of n1 e
   refine⟨g,l1,_,_,rfl,rfl,s4 _ _ hg3,e4,Nat.le_of_lt (small (by show _+1<=_;omega)),fun c hc=>?_⟩
   generalize e:upd H4 c _=H5
   obtain⟨s5,e5⟩:=new_of hc e
   have s35:=s4.trans s5
   have bel:Below ls.length (qs++[pr]):=fun z hz=>by
    rcases List.mem_append.mp hz with m|m
    ·exact bel3 z m
    ·rw [List.mem_singleton.mp m];exact tk.bel pr (List.mem_of_getElem? hpr)
   refine⟨ls.length,c,ys++[.ref b],qs++[pr],by rw [nl];rfl,by omega,e5,Paired.app (PrsAt.same s35 pq3) (.cons ⟨b,rfl,s35 _ _ hb⟩ .nil),by rw [List.length_append];show _+1<=_;omega,bel,fun H6 s6 _=>⟨_,rfl,iteF ?_⟩,fun H6 s6 no=>⟨_,rfl,iteT ?_⟩⟩
   ·have s36:=s35.trans s6
    exact⟨_,ys,qs,rfl,k3.same s36,w3.same s36,s36 _ _ hl3,s36 _ _ hp3,PrsAt.same s36 pp3,s36 _ _ hg3,PrsAt.same s36 pq3,bel3,by omega,no3⟩
   ·have s36:=s35.trans s6
    have hg6:=s36 _ _ hg3
    refine⟨_,rfl,.inl ⟨rfl,_,SqL.of hg6⟩,_,rfl,g,_,_,rfl,rfl,hg6,small (by omega),?_⟩
    have up:∀c zs,H6 c=some (.tup zs)->upd H6 g (.lst (ys++[.ref b])) c=some (.tup zs):=fun c zs e=>by
     rw [upd_ne (ne_of e hg6 (by intro z;cases z))];exact e
    refine⟨_,ys++[.ref b],qs++[pr],rfl,(k3.same s36).upd gn,(w3.same s36).upd ga,by rw [upd_ne gl];exact s36 _ _ hl3,by rw [upd_ne gp];exact s36 _ _ hp3,PrsAt.mono up (PrsAt.same s36 pp3),upd_same,Paired.app (PrsAt.mono up (PrsAt.same s36 pq3)) (.cons ⟨b,rfl,up _ _ (s36 _ _ hb)⟩ .nil),bel,by rw [List.length_append];show _+1<=_;omega,no⟩
  ·rintro σ H3 ⟨v5,ys,qs,rfl,k3,w3,hl3,hp3,pp3,hg3,pq3,bel3,len3,no3⟩
   rw [Paired.length tk.pp]at len3
   refine⟨_,rfl,_,rfl,by show 2<=sizeLine;decide,fun t2 ht2=>?_⟩
   generalize e:upd H3 t2 _=H4
   obtain⟨s4,e4⟩:=new_of ht2 e
   exact q t2 la g ls ys qs H4 ⟨k3.same s4,w3.same s4,tk.nl,gn,s4 _ _ hl3,s4 _ _ hg3,PrsAt.same s4 pq3,bel3,by omega,by omega,tk.pos,no3⟩ e4
def hsum (k:Nat) (zs:List Pr):Nat:=((zs.filter fun z=>decide (z.1=k)).map (·.2)).sum
theorem hsum_app (k:Nat) (a b:List Pr):hsum k (a++b)=hsum k a+hsum k b:=by
 unfold hsum
 rw [List.filter_append,List.map_append,List.sum_append]
theorem hsum_cons (k:Nat) (z:Pr) (b:List Pr):hsum k (z::b)=(if z.1=k then z.2 else 0)+hsum k b:=by
 unfold hsum
 rw [List.filter_cons]
 by_cases h:z.1=k
 ·rw [if_pos (decide_eq_true h),if_pos h,List.map_cons,List.sum_cons]
 ·rw [if_neg (fun q=>h (of_decide_eq_true q)),if_neg h,Nat.zero_add]
theorem hsum_ins (k i:Nat) (z:Pr) (zs:List Pr):hsum k (zs.take i++z::zs.drop i)=(if z.1=k then z.2 else 0)+hsum k zs:=by
 rw [hsum_app,hsum_cons]
 have:hsum k zs=hsum k (zs.take i)+hsum k (zs.drop i):=by rw [<-hsum_app,List.take_append_drop]
 omega
theorem sum_add (f g:Nat->Nat):∀l:List Nat,(l.map fun k=>f k+g k).sum=(l.map f).sum+(l.map g).sum
 | []=>rfl
 |a::l=>by
  rw [List.map_cons,List.map_cons,List.map_cons,List.sum_cons,List.sum_cons,List.sum_cons,sum_add f g l]
  omega
theorem sum_pick (j x:Nat):∀h,((List.range h).map fun k=>if j=k then x else 0).sum=if j<h then x else 0
 |0=>rfl
 |h+1=>by
  rw [List.range_succ,List.map_append,List.sum_append,sum_pick j x h]
  simp
  by_cases e:j=h
  ·subst e;simp
  ·by_cases l:j<h
   ·simp [l,e,show j<h+1 by omega]
   ·simp [l,e,show¬j<h+1 by omega]
theorem hsum_all {h:Nat}:∀{zs:List Pr},(∀z∈zs,z.1<h)->((List.range h).map fun k=>hsum k zs).sum=(zs.map (·.2)).sum
 | [],_=>by
  have:∀l:List Nat,(l.map fun k=>hsum k []).sum=0:=fun l=>by
   induction l with
   |nil=>rfl
   |cons a l ih=>rw [List.map_cons,List.sum_cons,ih];rfl
  rw [this];rfl
 |z::zs,lt=>by
  have e:(fun k=>hsum k (z::zs))=fun k=>(if z.1=k then z.2 else 0)+hsum k zs:=funext fun k=>hsum_cons k z zs
  rw [e,sum_add,sum_pick,if_pos (lt z List.mem_cons_self),hsum_all fun y hy=>lt y (List.mem_cons_of_mem _ hy),List.map_cons,List.sum_cons]
theorem sum_const (m:Nat) (f:Nat->Nat):∀l:List Nat,(∀k∈l,f k=m)->(l.map f).sum=l.length*m
 | [],_=>by simp
 |a::l,h=>by
  rw [List.map_cons,List.sum_cons,sum_const m f l fun k hk=>h k (List.mem_cons_of_mem _ hk),h a List.mem_cons_self,List.length_cons,Nat.succ_mul]
  omega
structure Cut (zs:List Pr) (h most:Nat):Prop where
 lt:∀z∈zs,z.1<h
 sum:∀k,k<h->hsum k zs=most
theorem cut_sum {zs:List Pr} {h most:Nat} (c:Cut zs h most):(zs.map (·.2)).sum=h*most:=by
 rw [<-hsum_all c.lt,sum_const most _ _ fun k hk=>c.sum k (List.mem_range.mp hk),List.length_range]
theorem hsum_take {zs:List Pr} {k i j:Nat} (h:i<=j):hsum k (zs.take i)<=hsum k (zs.take j):=by
 have:zs.take j=zs.take i++(zs.drop i).take (j-i):=by
  rw [<-List.take_add]
  congr 1
  omega
 rw [this,hsum_app]
 omega
theorem cut_le {zs:List Pr} {ps':List Pr} {h most a:Nat} (h0:0<h) (pos:∀z∈zs,0<z.2) (c:Cut zs h most) (mem:∀z,z∉ps')
  (least:∀os'∈ords ps' zs.length zs.length,a<=mxN (walk (zs.map (·.2)) ps' h os').ff):a<=most:=by
 have lt:∀v,v<zs.length->(zs.getD v (0,0)).1<h:=fun v hv=>by
  have:zs.getD v (0,0)=zs[v]:=by simp [List.getD,hv]
  rw [this]
  exact c.lt _ (List.getElem_mem hv)
 have gd:∀v,v<zs.length->(zs.map (·.2)).getD v 0=(zs.getD v (0,0)).2:=fun v hv=>by simp [List.getD,hv]
 have up:∀v,v<zs.length->hsum (zs.getD v (0,0)).1 (zs.take v)+(zs.map (·.2)).getD v 0=hsum (zs.getD v (0,0)).1 (zs.take (v+1)):=fun v hv=>by
  have e:zs.getD v (0,0)=zs[v]:=by simp [List.getD,hv]
  rw [gd v hv,List.take_succ,List.getElem?_eq_getElem hv,hsum_app,e]
  show _=_+hsum zs[v].1 [zs[v]]
  rw [hsum_cons,if_pos rfl]
  rfl
 obtain⟨os,ho,hM⟩:=least_le (ls:=zs.map (·.2)) (ps:=ps') (n:=zs.length) (h:=h) (rs:=dealt (fun v=>(zs.getD v (0,0)).1) zs.length h) (B:=fun v=>hsum (zs.getD v (0,0)).1 (zs.take v)) h0 (by unfold dealt;rw [List.length_map,List.length_range]) (dealt_perm lt) (fun z hz=>absurd hz (mem z)) (fun v hv=>by
  rw [gd v hv]
  have:zs.getD v (0,0)=zs[v]:=by simp [List.getD,hv]
  rw [this]
  exact pos _ (List.getElem_mem hv)) fun v hv q hq=>by
  rcases List.mem_append.mp hq with z|z
  ·exact absurd z (mem _)
  ·obtain⟨k,row,i,hk,h1,h2⟩:=mem_rowPs.mp z
   obtain⟨rfl⟩:row=(List.range zs.length).filter fun v=>decide ((zs.getD v (0,0)).1=k):=by
    unfold dealt at hk
    rw [List.getElem?_map]at hk
    cases g:(List.range h)[k]? with
    |none=>rw [g]at hk;cases hk
    |some k'=>
     rw [g]at hk
     cases hk
     have:=(List.getElem?_eq_some_iff.mp g).2
     rw [List.getElem_range]at this
     rw [this]
   have m1:=List.mem_filter.mp (List.mem_of_getElem? h1)
   have m2:=List.mem_filter.mp (List.mem_of_getElem? h2)
   have k1:=of_decide_eq_true m1.2
   have k2:=of_decide_eq_true m2.2
   have ql:=List.mem_range.mp m2.1
   have qv:q<v:=by
    have srt:((List.range zs.length).filter fun v=>decide ((zs.getD v (0,0)).1=k)).Pairwise (·<·):=List.Pairwise.filter _ List.pairwise_lt_range
    have l1:=(List.getElem?_eq_some_iff.mp h1)
    have l2:=(List.getElem?_eq_some_iff.mp h2)
    have:=List.pairwise_iff_getElem.mp srt i (i+1) l2.1 l1.1 (by omega)
    rw [l1.2,l2.2]at this
    exact this
   show hsum (zs.getD q (0,0)).1 (zs.take q)+_<=hsum (zs.getD v (0,0)).1 (zs.take v)
   rw [up q ql]
   dsimp only at k1 k2
   rw [k1,k2]
   exact hsum_take (by omega)
 refine Nat.le_trans (least os ho) (hM most fun v hv=>?_)
 show hsum (zs.getD v (0,0)).1 (zs.take v)+_<=most
 rw [up v hv, <-c.sum _ (lt v hv)]
 have:=hsum_app (zs.getD v (0,0)).1 (zs.take (v+1)) (zs.drop (v+1))
 rw [List.take_append_drop]at this
 omega
def spBeats:Sp:=fun vs H Q _=>∃(la p a:Addr) (ls:List Nat) (xs:List V) (ps:List Pr) (h e:Nat),vs=[.ref la,.ref p,natV h,natV e,.ref a]/\LwIn H la p ls xs ps/\ls.length<=20/\(∀k∈ls,0<k)/\WellAt H a/\la≠a/\p≠a/\0<h/\h<=10/\
 (∀(rs:List (List Nat)) (E:Nat->Nat) (m:Nat),rs.length=h->rs.flatten.Perm (List.range ls.length)->Ends_ ls (ps++rowPs rs) E m->e<=m)/\∀H',Kp a H H'->WellAt H' a->Q (.bl false) H'
abbrev NBeats:List Str:=["_law_lasts","_law_pairs","_law_hands","_law_end","_law_tape_here","_law_many","_law_k","_law_other"]
theorem scBeats:FnScope ["_law_lasts","_law_pairs","_law_hands","_law_end","_law_tape_here","_law_many","_law_k","_law_other"] ["_law_lasts","_law_pairs","_law_hands","_law_end","_law_tape_here"] (defScope sBeats):=⟨rfl,rfl,rfl,by decide+kernel,rfl,by decide+kernel,by decide+kernel⟩
theorem ok_beats {f:Addr} {fd:FuncData} (F:Fun K "_law_beats" "_law_beats" sBeats f fd) (c_rows:Cal P w K mg base CX0 2 "_law_rows" ["_law_many","_law_hands","_law_tape_here"] spRows) (c_end:Cal P w K mg base CX0 2 "_law_rows_end" ["_law_lasts","_law_pairs","_law_rows_here"] spEnd) (T:Txt K mg):
  FnOk P w K mg base CX0 3 f fd ["_law_lasts","_law_pairs","_law_hands","_law_end","_law_tape_here"] spBeats:=by
 refine F.ok scBeats (fun vs H Q E h=>?_) (fun cdv A outer s H vs Q E hr h=>?_)
 ·obtain⟨la,p,a,ls,xs,ps,h,e,rfl,_⟩:=h
  rfl
 ·obtain⟨la,p,a,ls,xs,ps,h,e,rfl,I,hn,pos,wa,nla,np,h0,h10,hle,q⟩:=h
  refine⟨_,(pss_cons (ps_set (i:=5) scBeats.nd rfl (Or.inr rfl) (pe_callB call_len_seq (by rfl) T.len PySem.boot_len (pa_cons (pv 0) pa_nil))) (pss_cons (ps_for PassesOwn.never rfl (pi_range1 rfl T.range (pa_cons pe_int pa_nil)) (pg_name (i:=6) scBeats.nd rfl (Or.inl rfl)) (pss_cons (ps_set (i:=7) scBeats.nd rfl (Or.inl rfl) (pe_c c_end (hr.mono (by decide)) rfl pass0 (pa_cons (pv 0) (pa_cons (pv 1) (pa_cons (pe_c c_rows (hr.mono (by decide)) rfl pass0 (pa_cons (pv 5) (pa_cons (pv 2) (pa_cons (pv 4) pa_nil)))) pa_nil))))) (pss_one (ps_if (PW.pt (pw_and (pt_cmpR op_notN (pv 7) pe_non (nomark _)) (pw_and1 (pt_cmpR op_lt (pv 7) (pv 3) (nomark _))))) (pss_one (ps_ret pe_bl)) pss_nil)))) (pss_cons (ps_set (i:=7) scBeats.nd rfl (Or.inl rfl) (pe_c c_end (hr.mono (by decide)) rfl pass0 (pa_cons (pv 0) (pa_cons (pv 1) (pa_cons (pe_cpC (own:=["_law_hand"]) (cap:=[("_law_hands",2),("_law_many",5)]) (defScope sBeats) NBeats rfl rfl (fun x h=>cell_has h) (by decide+kernel) rfl (pi_range1 rfl T.range (pa_cons (pv 2) pa_nil)) (fun cs cf C s2 H2 fp=>(pg_name (i:=0) (show(["_law_hand","_law_hands","_law_many"]:List Str).Nodup by decide+kernel) rfl (Or.inr rfl) (Or.inl rfl))) (fun cs cf C s2 H2 fp=>(pe_cpFN (own:=["_law_p"]) (icap:=[("_law_hand",0),("_law_hands",1)]) (g:=gName 0) (defScope sBeats) cf rfl rfl (by decide+kernel) rfl (pi_range1 rfl T.range (pa_cons (pv 2) pa_nil)) (fun cl C' s3 H3 fp'=>(pg_name (i:=0) (show(["_law_p","_law_hand","_law_hands"]:List Str).Nodup by decide+kernel) rfl (Or.inl rfl) (Or.inr rfl))) (fun cl C' s3 H3 fp'=>(pt_cmpR op_eq (pe_op op_mod (pv 0) (pv 2)) (pv 1) (nomark _))) (fun cl C' s3 H3 fp'=>(pv 0))))) pa_nil))))) (pss_one (ps_ret (pe_and (pe_cmpR op_notN (pv 7) pe_non (nomark _)) (pe_one (pe_cmpR op_lt (pv 7) (pv 3) (nomark _))))))))),?_⟩
  have nl:(nats ls).length=ls.length:=by unfold nats;rw [List.length_map]
  have l18:=I.l
  refine⟨_,rfl,la,_,rfl,.inl (SqL.of I.la),?_⟩
  rw [nl]
  refine⟨10,rfl,by decide,by decide,?_⟩
  refine for_range (fun i σ H2=>∃(v6 v7:Option V),σ=[some (.ref la),some (.ref p),some (natV h),some (natV e),some (.ref a),some (natV ls.length),v6,v7]/\Kp a H H2/\WellAt H2 a) ⟨_,_,rfl,fun _ _ e _=>e,wa⟩ ?_ ?_
  ·rintro i σ H2 hi ⟨v6,v7,rfl,k2,w2⟩
   refine⟨_,rfl,_,rfl,_,rfl,_,rfl,_,rfl,a,ls.length,h,rfl,w2,hn,h0,h10,fun r as rs H3 rw3=>?_⟩
   have k3:=k2.trans rw3.kp
   have pp3:PrsAt H3 xs ps:=PrsAt.mono (fun c zs e=>k3.tup wa e) I.pp
   refine⟨la,p,r,ls,xs,ps,as,rs,rfl,k3 _ _ I.la nla,by omega,k3 _ _ I.p np,pp3,I.bel,by omega,rw3.ll.top,rw3.ll.at_,by rw [rw3.len];omega,rw3.perm,pos,fun H4 s4 _=>?_,fun m E1 H4 s4 en=>?_⟩
   ·refine⟨_,rfl,rfl,_,rfl,iteF (iteF ⟨_,_,rfl,k3.same s4,rw3.well.same s4⟩)⟩
   ·have:=hle rs E1 m rw3.len rw3.perm en
    refine⟨_,rfl,rfl,_,rfl,iteT ⟨_,rfl,_,rfl,_,_,rfl,rfl,_,rfl,iteFe (decide_eq_false (by omega)) ⟨_,_,rfl,k3.same s4,rw3.well.same s4⟩⟩⟩
  ·rintro σ H2 ⟨v6,v7,rfl,k2,w2⟩
   refine⟨_,rfl,_,rfl,_,rfl,(h:Int),rfl,by omega,by omega,fun D hD=>?_⟩
   refine comp_range (fun i acc σ H3=>∃(v0:Option V) (as:List Addr),σ=[v0,some (natV h),some (natV ls.length)]/\Same H2 H3/\H3 D=some (.lst acc)/\acc=as.map V.ref/\ListsAt H3 as ((List.range i).map fun k=>(List.range ls.length).filter fun v=>decide (v % h=k))/\∀b∈as,b≠D) ⟨_,[],rfl,sameNew hD,upd_same,rfl,.nil,fun _ h=>nomatch h⟩ ?_ ?_
   ·rintro i acc σ H3 hi ⟨v0,as,rfl,s3,hD3,rfl,la3,nD⟩
    refine⟨_,rfl,(ls.length:Int),rfl,by omega,by omega,fun D2 hD2=>?_⟩
    have e2:D2≠D:=Ne.symm (ne_of_none hD3 hD2)
    rw [Int.zero_add]
    refine compF_range (lo:=0) (n:=ls.length) (fun j acc σ H4=>(∃v0,σ=[v0,some (natV i),some (natV h)])/\Same H3 H4/\H4 D2=some (.lst acc)/\acc=nats ((List.range j).filter fun v=>decide (v % h=i))) ⟨⟨_,rfl⟩,sameNew hD2,upd_same,rfl⟩ ?_ ?_
    ·rintro j acc σ H4 hj ⟨⟨v0,rfl⟩,s4,hD4,rfl⟩
     rw [Int.zero_add]
     refine⟨_,rfl,_,rfl,_,_,rfl,rfl,by omega,_,rfl,rfl,_,rfl,?_⟩
     by_cases e:j % h=i
     ·refine iteTe (decide_eq_true (show V.int ((j % h:Nat):Int)=natV i by rw [e])) ⟨_,rfl,cturn hD4 (small ?_) (by omega) ⟨⟨_,rfl⟩,sameUpd hD2 s4,upd_same,?_⟩⟩
      ·unfold nats
       rw [List.length_map]
       have:=List.length_filter_le (fun v=>decide (v % h=i)) (List.range j)
       rw [List.length_range]at this
       omega
      ·rw [List.range_succ,List.filter_append]
       unfold nats
       rw [List.map_append]
       simp [e]
     ·refine iteFe (decide_eq_false fun z=>e (by have:((j % h:Nat):Int)=(i:Int):=V.int.inj z;omega)) (cstep (by omega) ⟨⟨_,rfl⟩,s4,hD4,?_⟩)
      rw [List.range_succ,List.filter_append]
      simp [e]
    ·rintro acc σ H4 ⟨_,s4,hD4,rfl⟩
     have hD':=s4 _ _ hD3
     have up:∀b o,b≠D->H4 b=some o->upd H4 D (.lst (as.map V.ref++[.ref D2])) b=some o:=fun b o n e=>by rw [upd_ne n];exact e
     have al:=Paired.length la3
     rw [List.length_map,List.length_range]at al
     refine cturn hD' (small (by rw [List.length_map];omega)) (by omega) ⟨_,as++[D2],rfl,sameUpd hD (s3.trans s4),upd_same,by rw [List.map_append];rfl,?_,fun b hb=>?_⟩
     ·rw [List.range_succ,List.map_append]
      exact Paired.app (lists_keep la3 fun b hb o e=>up b o (nD b hb) (s4 _ _ e)) (.cons (up _ _ e2 hD4) .nil)
     ·rcases List.mem_append.mp hb with m|m
      ·exact nD b m
      ·rw [List.mem_singleton.mp m];exact e2
   ·rintro acc σ H3 ⟨v0,as,rfl,s3,hD3,rfl,la3,nD⟩
    have dp:(dealt (fun v=>v % h) ls.length h).flatten.Perm (List.range ls.length):=dealt_perm fun v _=>Nat.mod_lt v h0
    have dl:(dealt (fun v=>v % h) ls.length h).length=h:=by unfold dealt;rw [List.length_map,List.length_range]
    have k3:=k2.same s3
    have w3:=w2.same s3
    have pp3:PrsAt H3 xs ps:=PrsAt.mono (fun c zs e=>k3.tup wa e) I.pp
    refine⟨la,p,D,ls,xs,ps,as,dealt (fun v=>v % h) ls.length h,rfl,k3 _ _ I.la nla,by omega,k3 _ _ I.p np,pp3,I.bel,by omega,hD3,la3,by omega,dp,pos,fun H4 s4 _=>?_,fun m E1 H4 s4 en=>?_⟩
    ·exact⟨_,rfl,rfl,_,rfl,q H4 (k3.same s4) (w3.same s4)⟩
    ·have:=hle _ E1 m dl dp en
     refine⟨_,rfl,rfl,_,rfl,?_⟩
     refine iteT ⟨_,rfl,_,rfl,_,_,rfl,rfl,?_⟩
     show Q (.bl (decide ((m:Int)<(e:Int)))) H4
     rw [decide_eq_false (show¬(m:Int)<(e:Int) by omega)]
     exact q H4 (k3.same s4) (w3.same s4)
theorem hsum_none {k:Nat}:∀{zs:List Pr},(∀z∈zs,z.1<k)->hsum k zs=0
 | [],_=>rfl
 |z::zs,h=>by
  have:=h z List.mem_cons_self
  rw [hsum_cons,if_neg (by omega),hsum_none fun y hy=>h y (List.mem_cons_of_mem _ hy)]
def spEven:Sp:=fun vs H Q _=>∃(a:Addr),vs=[.ref a]/\WellAt H a/\∀H',Q (.bl true) H'
structure Cutting (zs:List Pr) (hd most left:Nat):Prop where
 lt:∀z∈zs,z.1<=hd
 sum:∀k,k<hd->hsum k zs=most
 now:hsum hd zs+left=most
 pos:∀z∈zs,0<z.2/\z.2<=120
theorem Cutting.ins {zs:List Pr} {hd most left x i:Nat} (c:Cutting zs hd most left) (x0:0<x) (xl:x<=left) (x1:x<=120):Cutting (zs.take i++(hd,x)::zs.drop i) hd most (left-x):=by
 have mem:∀z,z∈zs.take i++(hd,x)::zs.drop i->z=(hd,x)∨z∈zs:=fun z hz=>by
  rcases List.mem_append.mp hz with m|m
  ·exact .inr (List.mem_of_mem_take m)
  ·rcases List.mem_cons.mp m with m|m
   ·exact .inl m
   ·exact .inr (List.mem_of_mem_drop m)
 refine⟨fun z hz=>?_,fun k hk=>?_,?_,fun z hz=>?_⟩
 ·rcases mem z hz with rfl|m
  ·exact Nat.le_refl _
  ·exact c.lt z m
 ·rw [hsum_ins,if_neg (by show¬hd=k;omega),c.sum k hk];omega
 ·rw [hsum_ins,if_pos rfl]
  have:=c.now
  show x+hsum hd zs+(left-x)=most
  omega
 ·rcases mem z hz with rfl|m
  ·exact⟨x0,x1⟩
  ·exact c.pos z m
theorem ins_nats {zs:List Pr} {hd x i:Nat}:(nats (zs.map (·.2))).take i++natV x::(nats (zs.map (·.2))).drop i=nats ((zs.take i++(hd,x)::zs.drop i).map (·.2)):=by
 unfold nats
 simp [List.map_take,List.map_drop]
theorem scEven:FnScope ["_law_tape_here","_law_hands","_law_most","_law_lasts","_law_hand","_law_left","_law_more","_law_piece","_law_end","_law_rows_here"] ["_law_tape_here"] (defScope sEven):=⟨rfl,rfl,rfl,by decide+kernel,rfl,by decide+kernel,by decide+kernel⟩
theorem ok_even {f:Addr} {fd:FuncData} (F:Fun K "_law_even_right" "_law_even_right" sEven f fd) (c_draw:Cal P w K mg base CX0 1 "_law_draw" ["_law_tape_here","_law_many"] spDraw) (c_least:Cal P w K mg base CX0 3 "least_walk" ["lasts","pairs","hands"] spLeast) (c_are:Cal P w K mg base CX0 1 "_law_are_rows" ["_law_rows_here","_law_many","_law_hands"] spAre)
  (c_end:Cal P w K mg base CX0 2 "_law_rows_end" ["_law_lasts","_law_pairs","_law_rows_here"] spEnd) (T:Txt K mg):FnOk P w K mg base CX0 4 f fd ["_law_tape_here"] spEven:=by
 refine F.ok scEven (fun vs H Q E h=>?_) (fun cdv A outer s H vs Q E hr h=>?_)
 ·obtain⟨a,rfl,_⟩:=h
  rfl
 ·obtain⟨a,rfl,wa,q⟩:=h
  refine⟨_,(pss_cons (ps_set (i:=1) scEven.nd rfl (Or.inl rfl) (pe_op op_add pe_int (pe_c c_draw (hr.mono (by decide)) rfl pass0 (pa_cons (pv 0) (pa_cons pe_int pa_nil))))) (pss_cons (ps_set (i:=2) scEven.nd rfl (Or.inl rfl) (pe_op op_add pe_int (pe_c c_draw (hr.mono (by decide)) rfl pass0 (pa_cons (pv 0) (pa_cons pe_int pa_nil))))) (pss_cons (ps_set (i:=3) scEven.nd rfl (Or.inl rfl) (pe_lst pa_nil)) (pss_cons (ps_for PassesOwn.never rfl (pi_range1 rfl T.range (pa_cons (pv 1) pa_nil)) (pg_name (i:=4) scEven.nd rfl (Or.inl rfl)) (pss_cons (ps_set (i:=5) scEven.nd rfl (Or.inl rfl) (pv 2)) (pss_cons (ps_for PassesOwn.never rfl (pi_range3 rfl T.range (pa_cons (pe_op op_sub (pe_op op_fdiv pe_int (pv 1)) pe_int) (pa_cons pe_int (pa_cons (pe_un un_neg pe_int) pa_nil)))) (pg_name (i:=6) scEven.nd rfl (Or.inl rfl)) (pss_cons (ps_set (i:=7) scEven.nd rfl (Or.inl rfl) (pe_op op_add pe_int (pe_c c_draw (hr.mono (by decide)) rfl pass0 (pa_cons (pv 0) (pa_cons (pe_op op_sub (pv 5) (pv 6)) pa_nil))))) (pss_cons (ps_expr (pe_bm PySem.F.plainAttrs_list PySem.F.slot_list_insert PySem.F.type_list_insert mt_insert (pv 3) (pa_cons (pe_c c_draw (hr.mono (by decide)) rfl pass0 (pa_cons (pv 0) (pa_cons (pe_op op_add (pe_callB call_len_seq (by rfl) T.len PySem.boot_len (pa_cons (pv 3) pa_nil)) pe_int) pa_nil))) (pa_cons (pv 7) pa_nil)))) (pss_one (ps_set (i:=5) scEven.nd rfl (Or.inl rfl) (pe_op op_sub (pv 5) (pv 7))))))) (pss_one (ps_expr (pe_bm PySem.F.plainAttrs_list PySem.F.slot_list_insert PySem.F.type_list_insert mt_insert (pv 3) (pa_cons (pe_c c_draw (hr.mono (by decide)) rfl pass0 (pa_cons (pv 0) (pa_cons (pe_op op_add (pe_callB call_len_seq (by rfl) T.len PySem.boot_len (pa_cons (pv 3) pa_nil)) pe_int) pa_nil))) (pa_cons (pv 5) pa_nil)))))))) (pss_cons (ps_asg (pe_c c_least (hr.mono (by decide)) rfl pass0 (pa_cons (pv 3) (pa_cons (pe_lst pa_nil) (pa_cons (pv 1) pa_nil)))) (pg_tup rfl (pgs_cons (pg_name (i:=8) scEven.nd rfl (Or.inl rfl)) (pgs_cons (pg_name (i:=9) scEven.nd rfl (Or.inl rfl)) pgs_nil)))) (pss_one (ps_ret (pe_and (pe_cmpR op_eq (pv 8) (pv 2) (nomark _)) (pe_and (pe_c c_are (hr.mono (by decide)) rfl pass0 (pa_cons (pv 9) (pa_cons pe_int (pa_cons (pv 1) pa_nil)))) (pe_one (pe_cmpR op_eq (pe_c c_end (hr.mono (by decide)) rfl pass0 (pa_cons (pv 3) (pa_cons (pe_lst pa_nil) (pa_cons (pv 9) pa_nil)))) (pv 2) (nomark _)))))))))))),?_⟩
  refine⟨_,rfl,a,2,rfl,wa,by decide,by decide,fun r1 H1 l1 k1 w1=>⟨_,_,rfl,rfl,?_⟩⟩
  refine⟨_,rfl,a,108,rfl,w1,by decide,by decide,fun r2 H2 l2 k2 w2=>⟨_,_,rfl,rfl,?_⟩⟩
  obtain⟨h,hh⟩:∃h,h=2+r1:=⟨_,rfl⟩
  obtain⟨most,hm⟩:∃most,most=12+r2:=⟨_,rfl⟩
  obtain⟨c,hc,c1,c2,c3⟩:∃c:Nat,(6:Int) / (h:Int)-1=(c:Int)/\h*(c+1)=6/\1<=c/\c<=2:=by
   rcases (show h=2∨h=3 by omega)with rfl|rfl
   ·exact⟨2,rfl,rfl,by decide,by decide⟩
   ·exact⟨1,rfl,rfl,by decide,by decide⟩
  refine⟨by show 0<=sizeLine;decide,fun la hla=>?_⟩
  have la_a:la≠a:=w2.ne hla
  generalize e:upd H2 la _=H3
  obtain⟨s3,e3⟩:=new_of hla e
  refine⟨_,rfl,(h:Int),by rw [hh];rfl,by omega,by omega,?_⟩
  refine for_range (fun i σ H4=>∃(v4 v5 v6 v7:Option V) (zs:List Pr),σ=[some (.ref a),some (natV h),some (natV most),some (.ref la),v4,v5,v6,v7,none,none]/\WellAt H4 a/\H4 la=some (.lst (nats (zs.map (·.2))))/\zs.length=i*(c+1)/\(∀z∈zs,z.1<i)/\(∀k,k<i->hsum k zs=most)/\∀z∈zs,0<z.2/\z.2<=120)
   ⟨_,_,_,_,[],by rw [hh,hm];rfl,w2.same s3,e3,(Nat.zero_mul _).symm,(fun _ h=>nomatch h),(fun _ h=>absurd h (Nat.not_lt_zero _)),fun _ h=>nomatch h⟩ ?_ ?_
  ·rintro i σ H4 hi ⟨v4,v5,v6,v7,zs,rfl,w4,hl4,zl,lt,sm,pos⟩
   rw [Int.zero_add]
   have hi':i<h:=by omega
   have len6:i*(c+1)+(c+1)<=6:=by
    rw [<-c1, <-Nat.succ_mul]
    exact Nat.mul_le_mul_right _ hi'
   refine⟨_,rfl,_,rfl,_,_,rfl,rfl,⟨by omega,by omega⟩,_,_,rfl,rfl,_,rfl,(c:Int),0,?_,?_,?_⟩
   ·rw [<-hc]
   ·rcases (show c=1∨c=2 by omega)with z|z<;>rw [z]<;>decide
   rw [show(((c:Int)-0).toNat)=c by omega]
   refine for_down (fun t σ H5=>∃(v6 v7:Option V) (zs:List Pr) (left:Nat),σ=[some (.ref a),some (natV h),some (natV most),some (.ref la),some (natV i),some (natV left),v6,v7,none,none]/\WellAt H5 a/\H5 la=some (.lst (nats (zs.map (·.2))))/\zs.length=i*(c+1)+t/\Cutting zs i most left/\c+1<=left+t)
    ⟨_,_,zs,most,rfl,w4,hl4,zl,⟨fun z hz=>Nat.le_of_lt (lt z hz),sm,by rw [hsum_none lt];omega,pos⟩,by omega⟩ ?_ ?_
   ·rintro t σ H5 ht ⟨v6,v7,zs,left,rfl,w5,hl5,zl,cu,lo⟩
    have now:=cu.now
    refine⟨_,rfl,_,rfl,_,rfl,_,_,rfl,rfl,a,((left-(c-t):Nat):Int),?_,w5,by omega,by omega,fun r H6 r1 k6 w6=>?_⟩
    ·show [V.ref a,V.int ((left:Int)-((c:Int)-(t:Int)))]=_
     rw [show(left:Int)-((c:Int)-(t:Int))=((left-(c-t):Nat):Int) by omega]
    have hl6:=k6 _ _ hl5 la_a
    have nl:(nats (zs.map (·.2))).length=zs.length:=by unfold nats;rw [List.length_map,List.length_map]
    refine⟨_,_,rfl,rfl,?_⟩
    refine⟨_,rfl,.inl ⟨rfl,_,SqL.of hl6⟩,_,rfl,_,rfl,la,_,rfl,.inl (SqL.of hl6),_,_,rfl,rfl,a,((zs.length+1:Nat):Int),by rw [nl];rfl,w6,by omega,by omega,fun r' H7 r2 k7 w7=>?_⟩
    have hl7:=k7 _ _ hl6 la_a
    refine⟨_,rfl,la,_,natV (1+r),r',rfl,?_,hl7,by omega,small (by omega),?_⟩
    ·show [V.int (r':Int),V.int (1+(r:Int))]=_
     rw [show(1:Int)+(r:Int)=((1+r:Nat):Int) by omega]
    refine⟨_,rfl,_,rfl,_,_,rfl,rfl,?_⟩
    refine⟨some (V.int ((c:Int)-(t:Int))),some (V.int (1+(r:Int))),zs.take r'++(i,1+r)::zs.drop r',left-(1+r),?_,w7.upd la_a,by rw [upd_same,ins_nats],?_,cu.ins (by omega) (by omega) (by omega),by omega⟩
    ·show [some (V.ref a),some (natV h),some (natV most),some (.ref la),some (natV i),some (V.int ((left:Int)-(1+(r:Int)))),_,_,none,none]=_
     rw [show(left:Int)-(1+(r:Int))=((left-(1+r):Nat):Int) by omega]
    ·rw [List.length_append,List.length_cons,List.length_take,List.length_drop]
     omega
   ·rintro σ H5 ⟨v6,v7,zs,left,rfl,w5,hl5,zl,cu,lo⟩
    have now:=cu.now
    have nl:(nats (zs.map (·.2))).length=zs.length:=by unfold nats;rw [List.length_map,List.length_map]
    refine⟨_,rfl,.inl ⟨rfl,_,SqL.of hl5⟩,_,rfl,_,rfl,la,_,rfl,.inl (SqL.of hl5),_,_,rfl,rfl,a,((zs.length+1:Nat):Int),by rw [nl];rfl,w5,by omega,by omega,fun r' H7 r2 k7 w7=>?_⟩
    have hl7:=k7 _ _ hl5 la_a
    refine⟨_,rfl,la,_,natV left,r',rfl,rfl,hl7,by omega,small (by omega),?_⟩
    have cu2:=cu.ins (x:=left) (i:=r') (by omega) (Nat.le_refl _) (by omega)
    refine⟨_,_,_,_,zs.take r'++(i,left)::zs.drop r',rfl,w7.upd la_a,by rw [upd_same,ins_nats],?_,fun z hz=>Nat.lt_succ_of_le (cu2.lt z hz),fun k hk=>?_,cu2.pos⟩
    ·rw [List.length_append,List.length_cons,List.length_take,List.length_drop,Nat.succ_mul]
     omega
    ·rcases Nat.lt_or_ge k i with l|g
     ·exact cu2.sum k l
     ·obtain rfl:k=i:=by omega
      have:=cu2.now
      omega
  ·rintro σ H4 ⟨v4,v5,v6,v7,zs,rfl,w4,hl4,zl,lt,sm,pos⟩
   rw [show((h:Int).toNat)=h by omega]at zl lt sm
   rw [c1]at zl
   have cut:Cut zs h most:=⟨lt,sm⟩
   have ll:(zs.map (·.2)).length=6:=by rw [List.length_map,zl]
   have pos1:∀k∈zs.map (·.2),0<k:=fun k hk=>by
    obtain⟨z,hz,rfl⟩:=List.mem_map.mp hk
    exact(pos z hz).1
   have bel0:Below (zs.map (·.2)).length []:=fun _ h=>nomatch h
   refine⟨_,rfl,by show 0<=sizeLine;decide,fun p hp=>?_⟩
   generalize e:upd H4 p _=H5
   obtain⟨s5,e5⟩:=new_of hp e
   have I5:LwIn H5 la p (zs.map (·.2)) [] []:=⟨s5 _ _ hl4,e5,.nil,bel0,by omega,by show 0<18;decide⟩
   refine⟨_,rfl,la,p,zs.map (·.2),[],[],h,rfl,I5,by omega,by omega,by omega,(fun S N v sv=>by obtain⟨q,h,_⟩:=N.2 v sv;cases h),fun u os ps' r as H6 s6 td=>?_⟩
   obtain⟨E0,own⟩:=own_of (ls:=zs.map (·.2)) (h:=h) (by omega) pos1 td.mem td.ord
   have wl:=walk_len (zs.map (·.2)) ps' h os
   have le:=cut_le (a:=mxN (walk (zs.map (·.2)) ps' h os).ff) (by omega) (fun z hz=>(pos z hz).1) cut (fun z hz=>nomatch (td.mem z).mp hz) (by rw [<-List.length_map (f:=(·.2)) (as:=zs)];exact td.least)
   have eu:=td.tup
   have er:=td.rows
   have ea:=td.at_
   clear td
   generalize walk (zs.map (·.2)) ps' h os=st at own wl eu ea le
   have ge:most<=mxN st.ff:=by
    obtain⟨us,sy,mx⟩:=ends_sys (below_rows bel0 own.perm) own.e
    have:=work_le sy mx own.perm
    rw [cut_sum cut,wl.2]at this
    exact Nat.le_of_mul_le_mul_left this (by omega)
   have em:mxN st.ff=most:=by omega
   rw [em]at eu
   refine⟨u,_,rfl,SqT.of eu,rfl,_,_,rfl,_,_,rfl,rfl,?_⟩
   refine⟨_,rfl,_,rfl,rfl,_,rfl,iteTe (by simp) ?_⟩
   have pm6:st.rw.flatten.Perm (List.range 6):=by rw [<-ll];exact own.perm
   refine⟨_,rfl,_,rfl,r,6,as,st.rw,by rw [wl.2];rfl,er,ea,pm6,by decide,fun H7 s7=>⟨_,rfl,iteT ?_⟩⟩
   refine⟨_,rfl,by show 0<=sizeLine;decide,fun p2 hp2=>?_⟩
   generalize e:upd H7 p2 _=H8
   obtain⟨s8,e8⟩:=new_of hp2 e
   have s58:=s6.trans (s7.trans s8)
   refine⟨_,rfl,la,p2,r,zs.map (·.2),[],[],as,st.rw,rfl,s58 _ _ I5.la,by omega,e8,.nil,bel0,by show 0<=100;decide,s8 _ _ (s7 _ _ er),L2.Paired.mapP ea (fun _ _ e=>s8 _ _ (s7 _ _ e)),by omega,own.perm,pos1,fun H9 s9 ⟨S,⟨v,sv⟩,lt,stp⟩=>absurd sv (ends_no pos1 own.e lt stp (E0 v) v (Nat.le_refl _)),fun m E1 H9 s9 en=>?_⟩
   have em2:m=mxN st.ff:=ends_max pos1 (below_rows bel0 own.perm) own.e en
   rw [em2,em]
   refine⟨_,rfl,rfl,?_⟩
   show Q (.bl (decide (natV most=natV most))) H9
   rw [decide_eq_true rfl]
   exact q H9
theorem other_le {ls:List Nat} {ps ps':List Pr} {h m a:Nat} {rs:List (List Nat)} {E:Nat->Nat} (h0:0<h) (pos:∀k∈ls,0<k) (bel:Below ls.length ps) (sub:∀z,z∈ps'->z∈ps) (hr:rs.length=h) (pm:rs.flatten.Perm (List.range ls.length))
  (e:Ends_ ls (ps++rowPs rs) E m) (least:∀os'∈ords ps' ls.length ls.length,a<=mxN (walk ls ps' h os').ff):a<=m:=by
 have bG:=below_rows bel pm
 have be:∀v,v<ls.length->E v-ls.getD v 0+ls.getD v 0=E v:=fun v hv=>by
  obtain⟨b,e1,_⟩:=e.sys v hv
  omega
 obtain⟨os,ho,hM⟩:=least_le (ls:=ls) (ps:=ps') (B:=fun v=>E v-ls.getD v 0) h0 hr pm (fun z hz=>bel z (sub z hz)) (fun v hv=>getD_pos pos hv) (fun v hv q hq=>by
  have hq':(v,q)∈ps++rowPs rs:=by
   rcases List.mem_append.mp hq with g|g
   ·exact List.mem_append_left _ (sub _ g)
   ·exact List.mem_append_right _ g
  obtain⟨b,e1,h1,_⟩:=e.sys v hv
  have:=h1 q hq'
  have:=be q (bG _ hq').2
  show E q-ls.getD q 0+ls.getD q 0<=E v-ls.getD v 0
  omega)
 exact Nat.le_trans (least os ho) (hM m fun v hv=>by
  have:=be v hv
  have:=e.le v hv
  show E v-ls.getD v 0+ls.getD v 0<=m
  omega)
theorem ends_mem {ls:List Nat} {G G':List Pr} {E:Nat->Nat} {m:Nat} (h:∀z,z∈G'↔z∈G) (e:Ends_ ls G E m):Ends_ ls G' E m:=
 ⟨fun v hv=>let⟨b,e1,h1,h2⟩:=e.sys v hv;⟨b,e1,fun q hq=>h1 q ((h _).mp hq),h2.imp id fun⟨q,hq,z⟩=>⟨q,(h _).mpr hq,z⟩⟩,e.le,e.is⟩
theorem prs_rev {H:Hp}:∀{xs:List V} {ps:List Pr},PrsAt H xs ps->PrsAt H xs.reverse ps.reverse
 |_,_,.nil=> .nil
 |_,_,.cons h t=>by
  rw [List.reverse_cons,List.reverse_cons]
  exact Paired.app (prs_rev t) (.cons h .nil)
theorem rowPs_more (rs:List (List Nat)):rowPs (rs++[[]])=rowPs rs:=by
 unfold rowPs
 simp
theorem nest_sub {n:Nat} {ps qs:List Pr} (sub:∀z,z∈qs->z∈ps) (no:∀S,Nest n ps S->∀v,¬S v):∀S,Nest n qs S->∀v,¬S v:=
 fun S N=>no S ⟨N.1,fun v sv=>let⟨q,h,s⟩:=N.2 v sv;⟨q,sub _ h,s⟩⟩
theorem no_reach {n:Nat} {ps:List Pr} (bel:Below n ps) (no:∀S,Nest n ps S->∀v,¬S v) (v:Nat) (r:Reach ps v v):False:=by
 obtain⟨S,sv,low,nest⟩:=ring_nest bel r
 exact no S ⟨low,nest⟩ v sv
structure Tw (ls:List Nat) (ps:List Pr) (h m:Nat) (rs:List (List Nat)):Prop where
 ends:∃E,Ends_ ls (ps++rowPs rs) E m
 perm:rs.flatten.Perm (List.range ls.length)
 len:rs.length=h
 least:∀(qs:List Pr) (rs':List (List Nat)) (E:Nat->Nat) (m':Nat),Below ls.length qs->(∀z,z∈ps->z∈qs)->rs'.length=h->rs'.flatten.Perm (List.range ls.length)->Ends_ ls (qs++rowPs rs') E m'->m<=m'
theorem tw_of {H H':Hp} {t r:Addr} {as:List Addr} {ls os:List Nat} {ps ps':List Pr} {h:Nat} (h0:0<h) (pos:∀k∈ls,0<k) (td:Told H H' t ls ps h os ps' r as):∃m rs,Tw ls ps h m rs/\H t=none/\H r=none/\(∀b∈as,H b=none)/\H' t=some (.tup [natV m,.ref r])/\H' r=some (.lst (as.map V.ref))/\ListsAt H' as rs:=by
 obtain⟨E0,own⟩:=own_of (ls:=ls) (h:=h) h0 pos td.mem td.ord
 have wl:=walk_len ls ps' h os
 exact⟨_,_,⟨⟨E0,own.e⟩,own.perm,wl.2,fun qs rs' E m' bel sub hr pm e=>other_le h0 pos bel (fun z hz=>sub z ((td.mem z).mp hz)) hr pm e td.least⟩,td.new,td.nr,td.na,td.tup,td.rows,td.at_⟩
abbrev Av0:Addr->Prop:=fun _=>False
def dP (ps:List Pr):D:= .ls (ps.map fun p=> .tp [.fl (natV p.1),.fl (natV p.2)])
theorem denD_prs {H:Hp}:∀{xs:List V} {ps:List Pr},PrsAt H xs ps->DensN Av0 H (ps.map fun p=> .tp [.fl (natV p.1),.fl (natV p.2)]) xs
 |_,_,.nil=>rfl
 |_,_,.cons ⟨b,e,h⟩ t=>⟨_,_,rfl,⟨b,_,e,h,.cons .fl (.cons .fl .nil)⟩,denD_prs t⟩
theorem dep_prs:∀l:List Pr,D.deps (l.map fun p=> .tp [.fl (natV p.1),.fl (natV p.2)])<=1
 | []=>by rw [List.map_nil,D.deps];decide
 |n::ns=>by
  rw [List.map_cons,D.deps]
  refine Nat.max_le.mpr ⟨?_,dep_prs ns⟩
  simp [D.dep,D.deps]
def spRt:Sp:=fun vs H Q _=>∃(la p a:Addr) (ls:List Nat) (xs:List V) (ps:List Pr) (h:Nat),vs=[.ref la,.ref p,natV h,.ref a]/\LwIn H la p ls xs ps/\WellAt H a/\la≠a/\p≠a/\ls.length<=6/\ps.length<=7/\(∀k∈ls,0<k/\k<=120)/\(∀S,Nest ls.length ps S->∀v,¬S v)/\1<=h/\h<=3/\∀H',Kp a H H'->Q (.bl true) H'
theorem scRight:FnScope ["_law_lasts","_law_pairs","_law_hands","_law_tape_here","_law_end","_law_rows_here","_law_row","_law_again"] ["_law_lasts","_law_pairs","_law_hands","_law_tape_here"] (defScope sRight):=⟨rfl,rfl,rfl,by decide+kernel,rfl,by decide+kernel,by decide+kernel⟩
theorem ok_right {f:Addr} {fd:FuncData} (F:Fun K "_law_right" "_law_right" sRight f fd) (c_least:Cal P w K mg base CX0 3 "least_walk" ["lasts","pairs","hands"] spLeast) (c_are:Cal P w K mg base CX0 1 "_law_are_rows" ["_law_rows_here","_law_many","_law_hands"] spAre)
  (c_end:Cal P w K mg base CX0 2 "_law_rows_end" ["_law_lasts","_law_pairs","_law_rows_here"] spEnd) (c_chain:Cal P w K mg base CX0 4 "chain_bound" ["lasts","pairs"] spChain) (c_work:Cal P w K mg base CX0 1 "work_bound" ["lasts","hands"] spWork)
  (c_beats:Cal P w K mg base CX0 3 "_law_beats" ["_law_lasts","_law_pairs","_law_hands","_law_end","_law_tape_here"] spBeats) (T:Txt K mg):FnOk P w K mg base CX0 5 f fd ["_law_lasts","_law_pairs","_law_hands","_law_tape_here"] spRt:=by
 refine F.ok scRight (fun vs H Q E h=>?_) (fun cdv A outer s H vs Q E hr h=>?_)
 ·obtain⟨la,p,a,ls,xs,ps,h,rfl,_⟩:=h
  rfl
 ·obtain⟨la,p,a,ls,xs,ps,h,rfl,I,wa,nla,npa,n6,l7,pos',no,h0,h3,q⟩:=h
  have hu:=hu_of2 hr
  refine⟨_,(pss_cons (ps_asg (pe_c c_least (hr.mono (by decide)) rfl pass0 (pa_cons (pe_callTy call_list_of rfl T.list boot_list (pa_cons (pv 0) pa_nil)) (pa_cons (pe_callTy call_list_of rfl T.list boot_list (pa_cons (pv 1) pa_nil)) (pa_cons (pv 2) pa_nil)))) (pg_tup rfl (pgs_cons (pg_name (i:=4) scRight.nd rfl (Or.inl rfl)) (pgs_cons (pg_name (i:=5) scRight.nd rfl (Or.inl rfl)) pgs_nil)))) (pss_cons (ps_if (PW.pt (pw_or (pt_not (pt_val (pe_c c_are (hr.mono (by decide)) rfl pass0 (pa_cons (pv 5) (pa_cons (pe_callB call_len_seq (by rfl) T.len PySem.boot_len (pa_cons (pv 0) pa_nil)) (pa_cons (pv 2) pa_nil)))))) (pw_or1 (pt_cmpR op_ne (pe_c c_end (hr.mono (by decide)) rfl pass0 (pa_cons (pv 0) (pa_cons (pv 1) (pa_cons (pv 5) pa_nil)))) (pv 4) (nomark _))))) (pss_one (ps_ret pe_bl)) pss_nil) (pss_cons (ps_if (PW.pt (pw_or (pt_cmpR op_lt (pv 4) (pe_c c_chain (hr.mono (by decide)) rfl pass0 (pa_cons (pv 0) (pa_cons (pv 1) pa_nil))) (nomark _)) (pw_or (pt_cmpR op_lt (pv 4) (pe_c c_work (hr.mono (by decide)) rfl pass0 (pa_cons (pv 0) (pa_cons (pv 2) pa_nil))) (nomark _)) (pw_or1 (pt_val (pe_c c_beats (hr.mono (by decide)) rfl pass0 (pa_cons (pv 0) (pa_cons (pv 1) (pa_cons (pv 2) (pa_cons (pv 4) (pa_cons (pv 3) pa_nil))))))))))) (pss_one (ps_ret pe_bl)) pss_nil) (pss_cons (ps_for PassesOwn.never rfl (pi_list (pv 5)) (pg_name (i:=6) scRight.nd rfl (Or.inl rfl)) (pss_one (ps_expr (pe_bm0 PySem.F.plainAttrs_list PySem.F.slot_list_clear PySem.F.type_list_clear mt_clear (pv 6))))) (pss_cons (ps_expr (pe_bm0 PySem.F.plainAttrs_list PySem.F.slot_list_clear PySem.F.type_list_clear mt_clear (pv 5))) (pss_cons (ps_if (pt_cmpR op_ne (pe_ix ix_tup (pe_c c_least (hr.mono (by decide)) rfl pass0 (pa_cons (pv 0) (pa_cons (pv 1) (pa_cons pe_int pa_nil)))) pe_int (fun _ _=>rfl)) (pe_callB (call_sum rfl) rfl T.sum boot_sum (pa_cons (pv 0) pa_nil)) (nomark _)) (pss_one (ps_ret pe_bl)) pss_nil) (pss_cons (ps_if (pt_cmpR op_gt (pe_callB call_len_seq (by rfl) T.len PySem.boot_len (pa_cons (pv 0) pa_nil)) pe_int (nomark _)) (pss_one (ps_ret pe_bl)) pss_nil) (pss_cons (ps_set (i:=7) scRight.nd rfl (Or.inl rfl) (pe_c c_least (hr.mono (by decide)) rfl pass0 (pa_cons (pv 0) (pa_cons (pe_op op_cat (pe_rev (pv 1)) (pv 1)) (pa_cons (pv 2) pa_nil))))) (pss_cons (ps_if (PW.pt (pw_or (pt_cmpR op_ne (pe_ix ix_tup (pv 7) pe_int (fun _ _=>rfl)) (pv 4) (nomark _)) (pw_or1 (pt_cmpR op_ne (pe_c c_end (hr.mono (by decide)) rfl pass0 (pa_cons (pv 0) (pa_cons (pv 1) (pa_cons (pe_ix ix_tup (pv 7) pe_int (fun _ _=>rfl)) pa_nil)))) (pv 4) (nomark _))))) (pss_one (ps_ret pe_bl)) pss_nil) (pss_cons (ps_if (PW.pt (pw_and (pt_cmpR op_lt (pv 2) pe_int (nomark _)) (pw_and1 (pt_cmpR op_gt (pe_ix ix_tup (pe_c c_least (hr.mono (by decide)) rfl pass0 (pa_cons (pv 0) (pa_cons (pv 1) (pa_cons (pe_op op_add (pv 2) pe_int) pa_nil)))) pe_int (fun _ _=>rfl)) (pv 4) (nomark _))))) (pss_one (ps_ret pe_bl)) pss_nil) (pss_one (ps_ret (pe_or (pe_cmpR (op_eqD hu) (pv 1) (pe_lst pa_nil) (nomark _)) (pe_one (pe_cmpR op_le (pe_ix ix_tup (pe_c c_least (hr.mono (by decide)) rfl pass0 (pa_cons (pv 0) (pa_cons (pe_slice sl_list (pv 1) (po_some pe_int) po_none) (pa_cons (pv 2) pa_nil)))) pe_int (fun _ _=>rfl)) (pv 4) (nomark _)))))))))))))))),?_⟩
  have pos:∀k∈ls,0<k:=fun k hk=>(pos' k hk).1
  have nl:(nats ls).length=ls.length:=by unfold nats;rw [List.length_map]
  refine⟨_,rfl,la,_,rfl,.inl (SqL.of I.la),fun l1 n1=>?_⟩
  generalize g:upd H l1 _=H1
  obtain⟨s1,e1⟩:=new_of n1 g
  refine⟨_,rfl,p,_,rfl,.inl (SqL.of (s1 _ _ I.p)),fun l2 n2=>?_⟩
  generalize g:upd H1 l2 _=H2
  obtain⟨s2,e2⟩:=new_of n2 g
  have s02:=s1.trans s2
  have I2:=I.same s02
  refine⟨_,rfl,l1,l2,ls,xs,ps,h,rfl,⟨s2 _ _ e1,e2,I2.pp,I.bel,I.n,I.l⟩,by omega,h0,h3,no,fun u os ps' r as H3 s3 td=>?_⟩
  obtain⟨m,rs,tw,_,rn,an,eu,er,ea⟩:=tw_of h0 pos td
  have rn0:=s02.free rn
  have an0:∀b∈as,H b=none:=fun b hb=>s02.free (an b hb)
  clear td
  obtain⟨E0,en0⟩:=tw.ends
  have I3:=I2.same s3
  have s03:=s02.trans s3
  have rl:=tw.len
  have bG:=below_rows I.bel tw.perm
  refine⟨u,_,rfl,SqT.of eu,rfl,_,_,rfl,_,_,rfl,rfl,?_⟩
  refine⟨_,rfl,_,rfl,la,_,rfl,.inl (SqL.of I3.la),_,rfl,r,ls.length,as,rs,by rw [nl,rl];rfl,er,ea,tw.perm,by omega,fun H4 s4=>⟨_,rfl,iteF ?_⟩⟩
  have I4:=I3.same s4
  refine⟨_,rfl,_,rfl,_,rfl,la,p,r,ls,xs,ps,as,rs,rfl,I4.la,I.n,I4.p,I4.pp,I.bel,by omega,s4 _ _ er,L2.Paired.mapP ea (fun _ _ e=>s4 _ _ e),by omega,tw.perm,pos,fun H5 s5 ⟨S,⟨v,sv⟩,lt,stp⟩=>absurd sv (ends_no pos en0 lt stp (E0 v) v (Nat.le_refl _)),fun m1 E1 H5 s5 en=>?_⟩
  have em:m1=m:=ends_max pos bG en0 en
  subst em
  refine⟨_,rfl,rfl,_,rfl,iteFe (by simp) ?_⟩
  have I5:=I4.same s5
  obtain⟨us,sy0,mx0⟩:=ends_sys bG en0
  refine⟨_,rfl,_,rfl,_,rfl,la,p,ls,xs,ps,rfl,I5,no_reach I.bel no,fun m2 ts H6 s6 sy mx=>⟨_,_,rfl,rfl,_,rfl,iteFe (decide_eq_false (by have:=mx_le bG pos sy sy0 mx mx0;omega)) ?_⟩⟩
  have I6:=I5.same s6
  refine⟨_,rfl,_,rfl,_,rfl,la,ls,h,rfl,I6.la,by omega,fun k hk=>by have:=(pos' k hk).2;omega,by omega,by omega,_,_,rfl,rfl,_,rfl,iteFe (decide_eq_false (by
   have:=ceil_le (S:=ls.sum) (h:=h) (m:=m1) h0 (by rw [<-rl];exact work_le sy0 mx0 tw.perm)
   omega)) ?_⟩
  have s06:=s03.trans (s4.trans (s5.trans s6))
  have w6:=wa.same s06
  refine⟨_,rfl,_,rfl,_,rfl,_,rfl,_,rfl,la,p,a,ls,xs,ps,h,m1,rfl,I6,by omega,pos,w6,nla,npa,h0,by omega,(fun rs' E' m' hl pm e=>tw.least ps rs' E' m' I.bel (fun _ h=>h) hl pm e),fun H7 k7 w7=>⟨_,rfl,iteF ?_⟩⟩
  have k07:Kp a H H7:=(Kp.of s06).trans k7
  have lw:∀H',Kp a H H'->LwIn H' la p ls xs ps:=fun H' k=>⟨k _ _ I.la nla,k _ _ I.p npa,PrsAt.mono (fun c zs e=>k.tup wa e) I.pp,I.bel,I.n,I.l⟩
  have ra:r≠a:=wa.ne rn0
  have r7:H7 r=some (.lst (as.map V.ref)):=k7 _ _ (s6 _ _ (s5 _ _ (s4 _ _ er))) ra
  have a7:∀b∈as,∃ys,H7 b=some (.lst ys):=fun b hb=>by
   obtain⟨j,hj⟩:=List.mem_iff_getElem?.mp hb
   obtain⟨l,_,e⟩:=Paired.get ea hj
   exact⟨_,k7 _ _ (s6 _ _ (s5 _ _ (s4 _ _ e))) (wa.ne (an0 b hb))⟩
  have nr:∀b∈as,b≠r:=fun b hb z=>by
   obtain⟨j,hj⟩:=List.mem_iff_getElem?.mp hb
   obtain⟨l,_,e⟩:=Paired.get ea hj
   have e:H3 b=some (.lst (nats l)):=e
   rw [z,er]at e
   have e:=HO.lst.inj (Option.some.inj e)
   match as,hb,e with
   |b'::as,_,e=>
    match l,e with
    |k::l,e=>cases (List.cons.inj e).1
  refine⟨_,rfl,r,rfl,⟨_,SqL.of r7⟩,?_⟩
  refine for_list (K:=K) (a:=r) (xs:=as.map V.ref) (fun i σ H8=>(∃v6,σ=[some (.ref la),some (.ref p),some (natV h),some (.ref a),some (natV m1),some (.ref r),v6,none])/\Kp a H H8/\H8 r=some (.lst (as.map V.ref))/\∀b∈as,∃ys,H8 b=some (.lst ys)) ⟨⟨_,rfl⟩,k07,r7,a7⟩ (fun i σ H8 _ ⟨_,_,h8,_⟩=>SqL.of h8) ?_ ?_
  ·rintro i x σ H8 hx ⟨⟨v6,rfl⟩,k8,r8,a8⟩
   obtain⟨b,hb,rfl⟩:=List.mem_map.mp (List.mem_of_getElem? hx)
   obtain⟨ys,hy⟩:=a8 b hb
   refine⟨_,rfl,.inl ⟨rfl,_,SqL.of hy⟩,b,_,rfl,rfl,hy,?_⟩
   refine⟨⟨_,rfl⟩,k8.upd (an0 b hb),by rw [upd_ne (Ne.symm (nr b hb))];exact r8,fun c hc=>?_⟩
   by_cases e:c=b
   ·exact⟨[],by rw [e,upd_same]⟩
   ·rw [upd_ne e];exact a8 c hc
  ·rintro σ H8 ⟨⟨v6,rfl⟩,k8,r8,a8⟩
   refine⟨_,rfl,.inl ⟨rfl,_,SqL.of r8⟩,r,_,rfl,rfl,r8,?_⟩
   have k9:=k8.upd (o:= .lst []) rn0
   generalize upd H8 r _=H9 at k9⊢
   have I9:=lw H9 k9
   refine⟨_,rfl,_,rfl,la,p,ls,xs,ps,1,rfl,I9,by omega,by decide,by decide,no,fun u1 os1 ps1 r1 as1 H10 s10 td1=>?_⟩
   obtain⟨n1,rs1,tw1,_,_,_,eu1,_,_⟩:=tw_of (by decide) pos td1
   clear td1
   obtain⟨E1,en1⟩:=tw1.ends
   have es:=one_sum pos I.bel tw1.perm tw1.len en1
   subst es
   have k10:=k9.same s10
   have I10:=lw _ k10
   refine⟨u1,_,_,_,rfl,rfl,SqT.of eu1,rfl,_,rfl,?_⟩
   dsimp only [tNil]
   refine sum_ok I10.la (by omega) (fun k hk=>by have:=(pos' k hk).2;omega) ?_
   refine⟨rfl,_,rfl,iteFe (by simp) ?_⟩
   refine⟨_,rfl,la,_,rfl,.inl (SqL.of I10.la),_,_,rfl,rfl,_,rfl,?_⟩
   rw [nl]
   by_cases l4:4<ls.length
   ·exact iteTe (decide_eq_true (by omega)) (q H10 k10)
   refine iteFe (decide_eq_false (by omega)) ?_
   have lx:=Paired.length I.pp
   refine⟨_,rfl,_,rfl,p,_,rfl,SqL.of I10.p,fun d1 m1'=>?_⟩
   generalize g:upd H10 d1 _=H11
   obtain⟨s11,e11⟩:=new_of m1' g
   have I11:=I10.same s11
   refine⟨_,rfl,d1,p,_,_,rfl,rfl,e11,I11.p,Nat.le_of_lt (small (by rw [List.length_reverse];omega)),fun d2 m2'=>?_⟩
   generalize g:upd H11 d2 _=H12
   obtain⟨s12,e12⟩:=new_of m2' g
   have I12:=I11.same s12
   have mem2:∀z,z∈ps.reverse++ps↔z∈ps:=fun z=>by rw [List.mem_append,List.mem_reverse];exact or_self_iff
   have memG:∀(G:List Pr) (z:Pr),z∈(ps.reverse++ps)++G↔z∈ps++G:=fun G z=>⟨fun h=>(List.mem_append.mp h).elim (fun m=>List.mem_append_left _ ((mem2 z).mp m)) (List.mem_append_right _),fun h=>(List.mem_append.mp h).elim (fun m=>List.mem_append_left _ ((mem2 z).mpr m)) (List.mem_append_right _)⟩
   have prev:PrsAt H12 xs.reverse ps.reverse:=prs_rev I12.pp
   have bel2:Below ls.length (ps.reverse++ps):=fun z hz=>I.bel z ((mem2 z).mp hz)
   refine⟨_,rfl,la,d2,ls,_,ps.reverse++ps,h,rfl,⟨I12.la,e12,Paired.app prev I12.pp,bel2,I.n,by rw [List.length_append,List.length_reverse];omega⟩,by omega,h0,h3,nest_sub (fun z=>(mem2 z).mp) no,fun u2 os2 ps2 r2 as2 H13 s13 td2=>?_⟩
   obtain⟨n2,rs2,tw2,_,_,_,eu2,er2,ea2⟩:=tw_of h0 pos td2
   clear td2
   obtain⟨E2,en2⟩:=tw2.ends
   have en2':Ends_ ls (ps++rowPs rs2) E2 n2:=ends_mem (fun z=>(memG _ z).symm) en2
   have e21:n2=m1:=Nat.le_antisymm (tw2.least _ rs E0 m1 bel2 (fun _ h=>h) rl tw.perm (ends_mem (memG _) en0)) (tw.least ps rs2 E2 n2 I.bel (fun _ h=>h) tw2.len tw2.perm en2')
   subst e21
   have I13:=I12.same s13
   refine⟨_,rfl,u2,_,_,_,rfl,rfl,SqT.of eu2,rfl,_,rfl,rfl,_,rfl,iteFe (by simp) ?_⟩
   refine⟨_,rfl,_,rfl,_,rfl,u2,_,_,_,rfl,rfl,SqT.of eu2,rfl,la,p,r2,ls,xs,ps,as2,rs2,rfl,I13.la,I.n,I13.p,I13.pp,I.bel,by omega,er2,ea2,by rw [tw2.len];omega,tw2.perm,pos,fun H14 s14 ⟨S,⟨v,sv⟩,lt,stp⟩=>absurd sv (ends_no pos en2' lt stp (E2 v) v (Nat.le_refl _)),fun m3 E3 H14 s14 en3=>?_⟩
   have em3:m3=n2:=ends_max pos (below_rows I.bel tw2.perm) en2' en3
   subst em3
   refine⟨_,rfl,rfl,_,rfl,iteFe (by simp) ?_⟩
   have k14:Kp a H H14:=k10.same (s11.trans (s12.trans (s13.trans s14)))
   refine(fun(fin:∀H15,Kp a H H15->(?T:Hp->Prop) H15)=> ?main) ?fin
   case main=>
    refine⟨_,rfl,_,_,rfl,rfl,_,rfl,?_⟩
    by_cases h2:h<3
    ·refine iteTe (decide_eq_true (by omega)) ?_
     have I14:=lw _ k14
     refine⟨_,rfl,_,rfl,_,rfl,_,_,rfl,rfl,la,p,ls,xs,ps,h+1,rfl,I14,by omega,by omega,by omega,no,fun u4 os4 ps4 r4 as4 H15 s15 td4=>?_⟩
     obtain⟨n4,rs4,tw4,_,_,_,eu4,_,_⟩:=tw_of (by omega) pos td4
     clear td4
     have le4:=tw4.least ps (rs++[[]]) E0 m3 I.bel (fun _ h=>h) (by rw [List.length_append,rl];rfl) (by rw [List.flatten_append];simpa using tw.perm) (by rw [rowPs_more];exact en0)
     refine⟨u4,_,_,_,rfl,rfl,SqT.of eu4,rfl,_,rfl,_,_,rfl,rfl,_,rfl,iteFe (decide_eq_false (by omega)) ?_⟩
     exact fin H15 (k14.same s15)
    ·exact iteFe (decide_eq_false (by omega)) (iteF (fin H14 k14))
   case fin=>
    intro H15 k15
    have I15:=lw _ k15
    refine⟨_,rfl,by show 0<=sizeLine;decide,fun d5 n5=>?_⟩
    generalize g:upd H15 d5 _=H16
    obtain⟨s16,e16⟩:=new_of n5 g
    have I16:=I15.same s16
    have dd:=dep_prs ps
    have k16:=k15.same s16
    have dl:(dP ps).dep+(D.ls []).dep<=100:=by
     simp only [dP,D.dep,D.deps]
     omega
    refine⟨dP ps,.ls [],DenN.den K (Av:=Av0) _ ⟨p,_,rfl,id,I16.p,denD_prs I16.pp⟩,DenN.den K (Av:=Av0) _ ⟨d5,_,rfl,id,e16,rfl⟩,dl,?_⟩
    have sub:∀z,z∈ps.drop 1->z∈ps:=fun z hz=>List.mem_of_mem_drop hz
    have fin2:∀H17,Kp a H H17->∀d6,H17 d6=some (.lst (xs.drop 1))->LwIn H17 la d6 ls (xs.drop 1) (ps.drop 1):=fun H17 k17 d6 e=>⟨(lw _ k17).la,e,Paired.drop' (lw _ k17).pp 1,fun z hz=>I.bel z (sub z hz),I.n,by rw [List.length_drop];omega⟩
    cases hz:(dP ps).eq (.ls [])with
    |true=>exact⟨_,rfl,iteTe rfl (q H16 k16)⟩
    |false=>
     refine⟨_,rfl,iteFe rfl ?_⟩
     refine⟨_,rfl,_,rfl,1,rfl,p,_,rfl,SqL.of I16.p,fun d6 n6'=>?_⟩
     generalize g:upd H16 d6 _=H17
     obtain⟨s17,e17⟩:=new_of n6' g
     have k17:=k16.same s17
     refine⟨_,rfl,la,d6,ls,_,ps.drop 1,h,rfl,fin2 _ k17 d6 (by rw [e17];exact congrArg (fun l=>some (HO.lst l)) (cut_from xs 1)),by omega,h0,h3,nest_sub sub no,fun u7 os7 ps7 r7' as7 H18 s18 td7=>?_⟩
     obtain⟨n7,rs7,tw7,_,_,_,eu7,_,_⟩:=tw_of h0 pos td7
     clear td7
     have le7:=tw7.least ps rs E0 m3 I.bel sub rl tw.perm en0
     refine⟨u7,_,_,_,rfl,rfl,SqT.of eu7,rfl,_,rfl,_,_,rfl,rfl,?_⟩
     show Q (.bl (decide ((n7:Int)<=(m3:Int)))) H18
     rw [decide_eq_true (show(n7:Int)<=(m3:Int) by omega)]
     exact q H18 (k17.same s18)
def spLaw (K:W.Frag):Sp:=fun vs H Q _=>∃(a:Addr) (ns:List Int),vs=[.ref a]/\SqL K H a (ns.map V.int)/\∀H',Q (.bl true) H'
theorem cut_ints (ns:List Int) (k:Nat):∃ms:List Int,cutV (ns.map V.int) none (some (k:Int))=ms.map V.int/\ms.length<=k:=by
 unfold cutV
 refine⟨_,by rw [<-List.map_drop, <-List.map_take],?_⟩
 rw [List.length_take]
 refine Nat.le_trans (Nat.min_le_left _ _) (Nat.le_trans (Nat.sub_le _ _) ?_)
 rw [HT.sIx_nat]
 omega
theorem sq_same {K:W.Frag} {H H':Hp} {a:Addr} {xs:List V} (s:Same H H') (h:SqL K H a xs):SqL K H' a xs:=h.imp (fun r=>r.imp (s _ _) fun⟨o,e⟩=>⟨o,s _ _ e⟩) id
theorem scLaw:FnScope ["_law_script","_law_k","_law_cell","_law_tape_here","_law_lasts","_law_pairs"] ["_law_script"] (defScope sLaw):=⟨rfl,rfl,rfl,by decide+kernel,rfl,by decide+kernel,by decide+kernel⟩
theorem ok_law {f:Addr} {fd:FuncData} (F:Fun K "law" "law" sLaw f fd) (c_tape:Cal P w K mg base CX0 1 "_law_tape" ["_law_cell"] spTape) (c_good:Cal P w K mg base CX0 3 "_law_good_task" ["_law_tape_here","_law_most"] spGood) (c_draw:Cal P w K mg base CX0 1 "_law_draw" ["_law_tape_here","_law_many"] spDraw)
  (c_right:Cal P w K mg base CX0 5 "_law_right" ["_law_lasts","_law_pairs","_law_hands","_law_tape_here"] spRt) (c_even:Cal P w K mg base CX0 4 "_law_even_right" ["_law_tape_here"] spEven) (c_cell:Cal P w K mg base CX0 1 "_law_cell_at" ["_law_script","_law_k"] (spCell K)) (T:Txt K mg):FnOk P w K mg base CX0 6 f fd ["_law_script"] (spLaw K):=by
 refine F.ok scLaw (fun vs H Q E h=>?_) (fun cdv A outer s H vs Q E hr h=>?_)
 ·obtain⟨a,ns,rfl,_⟩:=h
  rfl
 ·obtain⟨a0,ns0,rfl,hS,k⟩:=h
  refine⟨_,(pss_cons (ps_for (g:=gPair K 1 2) PassesOwn.never rfl (pi_enum rfl T.enumerate (pa_cons (pe_slice sl_list (pe_op op_cat (pe_slice sl_list (pv 0) po_none (po_some pe_int)) (pe_lst (pa_cons pe_int (pa_cons pe_int (pa_cons pe_int pa_nil))))) po_none (po_some pe_int)) pa_nil)) (pg_tup rfl (pgs_cons (pg_name (i:=1) scLaw.nd rfl (Or.inl rfl)) (pgs_cons (pg_name (i:=2) scLaw.nd rfl (Or.inl rfl)) pgs_nil))) (pss_cons (ps_set (i:=3) scLaw.nd rfl (Or.inl rfl) (pe_c c_tape (hr.mono (by decide)) rfl pass0 (pa_cons (pv 2) pa_nil))) (pss_cons (ps_asg (pe_c c_good (hr.mono (by decide)) rfl pass0 (pa_cons (pv 3) (pa_cons (pe_ix ix_list (pe_lst (pa_cons pe_int (pa_cons pe_int (pa_cons pe_int pa_nil)))) (pv 1) (fun _ _=>rfl)) pa_nil))) (pg_tup rfl (pgs_cons (pg_name (i:=4) scLaw.nd rfl (Or.inl rfl)) (pgs_cons (pg_name (i:=5) scLaw.nd rfl (Or.inl rfl)) pgs_nil)))) (pss_one (ps_if (pt_not (pt_val (pe_c c_right (hr.mono (by decide)) rfl pass0 (pa_cons (pv 4) (pa_cons (pv 5) (pa_cons (pe_op op_add pe_int (pe_c c_draw (hr.mono (by decide)) rfl pass0 (pa_cons (pv 3) (pa_cons pe_int pa_nil)))) (pa_cons (pv 3) pa_nil))))))) (pss_one (ps_ret pe_bl)) pss_nil))))) (pss_one (ps_ret (pe_c c_even (hr.mono (by decide)) rfl pass0 (pa_cons (pe_c c_tape (hr.mono (by decide)) rfl pass0 (pa_cons (pe_c c_cell (hr.mono (by decide)) rfl pass0 (pa_cons (pv 0) (pa_cons pe_int pa_nil))) pa_nil)) pa_nil))))),?_⟩
  refine⟨_,rfl,3,rfl,a0,_,rfl,hS,fun d1 n1=>?_⟩
  obtain⟨m1,c1,lm1⟩:=cut_ints ns0 3
  rw [show(3:Int)=((3:Nat):Int)from rfl,c1]
  generalize g:upd H d1 _=H1
  obtain⟨s1,e1⟩:=new_of n1 g
  refine⟨by show 3<=sizeLine;decide,fun d2 n2=>?_⟩
  generalize g:upd H1 d2 _=H2
  obtain⟨s2,e2⟩:=new_of n2 g
  refine⟨d1,d2,_,_,rfl,rfl,s2 _ _ e1,e2,?_,fun d3 n3=>?_⟩
  ·rw [List.length_map]
   exact Nat.le_of_lt (small (by show _+3<=_;omega))
  rw [show [V.int 1,V.int 4,V.int 6]=[1,4,6].map V.int from rfl, <-List.map_append]
  generalize g:upd H2 d3 _=H3
  obtain⟨s3,e3⟩:=new_of n3 g
  refine⟨3,rfl,d3,_,rfl,SqL.of e3,fun d n4=>?_⟩
  obtain⟨ms,c2,lm⟩:=cut_ints (m1++[1,4,6]) 3
  rw [show(3:Int)=((3:Nat):Int)from rfl,c2]
  generalize g:upd H3 d _=H4
  obtain⟨s4,e4⟩:=new_of n4 g
  have s04:=s1.trans (s2.trans (s3.trans s4))
  refine⟨d,rfl,⟨_,SqL.of e4⟩,?_⟩
  refine for_enum (K:=K) (a:=d) (xs:=ms.map V.int) (fun i σ H5=>(∃v1 v2 v3 v4 v5,σ=[some (.ref a0),v1,v2,v3,v4,v5])/\Same H4 H5) ⟨⟨_,_,_,_,_,rfl⟩,fun _ _ e=>e⟩ (fun i σ H2 _ ⟨_,s2⟩=>SqL.of (s2 _ _ e4)) ?_ ?_
  ·rintro i x σ H5 t hi ⟨⟨v1,v2,v3,v4,v5,rfl⟩,s5⟩ ht
   have s5':Same H5 (upd H5 t (.tup [.int i,x])):=sameNew ht
   generalize upd H5 t (.tup [.int i,x])=H5' at s5'
   rw [List.getElem?_map]at hi
   obtain⟨c,hc,rfl⟩:∃c,ms[i]? =some c/\x= .int c:=by
    cases g:ms[i]? with
    |none=>rw [g]at hi;cases hi
    |some b=>rw [g]at hi;cases hi;exact⟨b,rfl,rfl⟩
   have i3:i<3:=by have:=(List.getElem?_eq_some_iff.mp hc).1;omega
   refine⟨_,rfl,c,rfl,fun a H6 s6 na w6=>?_⟩
   refine⟨_,rfl,by show 3<=sizeLine;decide,fun d5 n5=>?_⟩
   generalize g:upd H6 d5 _=H7
   obtain⟨s7,e7⟩:=new_of n5 g
   obtain⟨m,hm,m6⟩:∃m:Nat,([V.int 6,V.int 4,V.int 4]:List V)[i]? =some (natV m)/\m<=6:=by
    match i,i3 with
    |0,_=>exact⟨6,rfl,by decide⟩
    |1,_=>exact⟨4,rfl,by decide⟩
    |2,_=>exact⟨4,rfl,by decide⟩
   refine⟨_,rfl,d5,_,_,_,rfl,rfl,SqL.of e7,atI_nat hm,a,m,rfl,w6.same s7,m6,fun t2 la p ls xs ps H8 gd et=>?_⟩
   refine⟨t2,_,rfl,SqT.of et,rfl,_,_,rfl,_,_,rfl,rfl,?_⟩
   have na':H5' a=none:=na
   have nla:la≠a:=fun z=>by obtain⟨x,y,z',e⟩:=w6.same s7;have:=gd.nl;rw [z,e]at this;cases this
   have npa:p≠a:=fun z=>by obtain⟨x,y,z',e⟩:=w6.same s7;have:=gd.np;rw [z,e]at this;cases this
   refine⟨_,rfl,_,rfl,_,rfl,a,3,rfl,gd.well,by decide,by decide,fun r H9 hr9 k9 w9=>?_⟩
   have n6:=gd.n
   have l7:=gd.l
   have I9:LwIn H9 la p ls xs ps:=⟨k9 _ _ gd.la nla,k9 _ _ gd.p npa,PrsAt.mono (fun c zs e=>k9.tup gd.well e) gd.pp,gd.bel,by omega,by omega⟩
   have s59:Same H5 H9:=s5'.trans (kpSame (gd.kp.trans k9) (s6.trans s7) na')
   refine⟨1,(r:Int),rfl,rfl,_,rfl,la,p,a,ls,xs,ps,1+r,?_,I9,w9,nla,npa,n6,l7,gd.pos,gd.no,by omega,by omega,fun H10 k10=>⟨_,rfl,iteF ⟨⟨_,_,_,_,_,rfl⟩,?_⟩⟩⟩
   ·show [V.ref la,V.ref p,V.int (1+(r:Int)),V.ref a]=_
    rw [show(1:Int)+(r:Int)=((1+r:Nat):Int) by omega]
   ·exact s5.trans (kpSame k10 s59 (s5'.free na'))
  ·rintro σ H5 ⟨⟨v1,v2,v3,v4,v5,rfl⟩,s5⟩
   refine⟨_,rfl,a0,ns0,3,rfl,sq_same (s04.trans s5) hS,fun c=>⟨c,rfl,fun a H6 s6 na w6=>⟨a,rfl,w6,fun H7=>k H7⟩⟩⟩
end
end KB
namespace KB
open PySem PyProof.Rows L2 G4
theorem all_mk {l:W.OpenLaw} {w:World} {K:W.Frag} {h:Heap} {mg:Str->Option Value} {fa f_whole f_within f_of f_ahead f_ring f_times f_last f_chain f_work f_least f_orders f_next f_by f_cell f_tape f_draw f_clock f_round f_end f_are f_task f_rows f_good f_beats f_right f_even f_law:Addr} (X:K.In h) (G:h.Ns mainGlobals mg) (hfa:mg "law"=some (.ref fa))
  {od_whole an_whole od_within an_within od_of an_of od_ahead an_ahead od_ring an_ring od_times an_times od_last an_last od_chain an_chain od_work an_work od_least an_least od_orders an_orders od_next an_next od_by an_by od_cell an_cell od_tape an_tape od_draw an_draw od_clock an_clock od_round an_round od_end an_end od_are an_are od_task an_task od_rows an_rows od_good an_good od_beats an_beats od_right an_right od_even an_even od_law an_law:Option Addr} {sl_whole sl_within sl_of sl_ahead sl_ring sl_times sl_last sl_chain sl_work sl_least sl_orders sl_next sl_by sl_cell sl_tape sl_draw sl_clock sl_round sl_end sl_are sl_task sl_rows sl_good sl_beats sl_right sl_even sl_law:Array (Option Value)} {oc_whole kV_whole dc_whole pm_whole cd_whole ct_whole oc_within kV_within dc_within pm_within cd_within ct_within oc_of kV_of dc_of pm_of cd_of ct_of oc_ahead kV_ahead dc_ahead pm_ahead cd_ahead ct_ahead oc_ring kV_ring dc_ring pm_ring cd_ring ct_ring oc_times kV_times dc_times pm_times cd_times ct_times oc_last kV_last dc_last pm_last cd_last ct_last oc_chain kV_chain dc_chain pm_chain cd_chain ct_chain oc_work kV_work dc_work pm_work cd_work ct_work oc_least kV_least dc_least pm_least cd_least ct_least oc_orders kV_orders dc_orders pm_orders cd_orders ct_orders oc_next kV_next dc_next pm_next cd_next ct_next oc_by kV_by dc_by pm_by cd_by ct_by oc_cell kV_cell dc_cell pm_cell cd_cell ct_cell oc_tape kV_tape dc_tape pm_tape cd_tape ct_tape oc_draw kV_draw dc_draw pm_draw cd_draw ct_draw oc_clock kV_clock dc_clock pm_clock cd_clock ct_clock oc_round kV_round dc_round pm_round cd_round ct_round oc_end kV_end dc_end pm_end cd_end ct_end oc_are kV_are dc_are pm_are cd_are ct_are oc_task kV_task dc_task pm_task cd_task ct_task oc_rows kV_rows dc_rows pm_rows cd_rows ct_rows oc_good kV_good dc_good pm_good cd_good ct_good oc_beats kV_beats dc_beats pm_beats cd_beats ct_beats oc_right kV_right dc_right pm_right cd_right ct_right oc_even kV_even dc_even pm_even cd_even ct_even oc_law kV_law dc_law pm_law cd_law ct_law:Value} {t_mp t_mh:Tok}
  (a_whole:W.nsIn K mainGlobals "is_whole"=some (some (.ref f_whole)))
  (l_whole:K.lookup f_whole=some ⟨oc_whole,od_whole,.func (W.fnOf "is_whole" "is_whole" (defArgs sWhole) (defBody sWhole) (defScope sWhole) .none kV_whole dc_whole pm_whole an_whole cd_whole ct_whole),sl_whole⟩)
  (c_whole:W.codeIn K cd_whole "is_whole"=true)
  (k_whole:W.keepIn K (.ref f_whole)=true)
  (a_within:W.nsIn K mainGlobals "is_within"=some (some (.ref f_within)))
  (l_within:K.lookup f_within=some ⟨oc_within,od_within,.func (W.fnOf "is_within" "is_within" (defArgs sWithin) (defBody sWithin) (defScope sWithin) .none kV_within dc_within pm_within an_within cd_within ct_within),sl_within⟩)
  (c_within:W.codeIn K cd_within "is_within"=true)
  (k_within:W.keepIn K (.ref f_within)=true)
  (a_of:W.nsIn K mainGlobals "waves_of"=some (some (.ref f_of)))
  (l_of:K.lookup f_of=some ⟨oc_of,od_of,.func (W.fnOf "waves_of" "waves_of" (defArgs sOf) (defBody sOf) (defScope sOf) .none kV_of dc_of pm_of an_of cd_of ct_of),sl_of⟩)
  (c_of:W.codeIn K cd_of "waves_of"=true)
  (k_of:W.keepIn K (.ref f_of)=true)
  (a_ahead:W.nsIn K mainGlobals "waves_ahead"=some (some (.ref f_ahead)))
  (l_ahead:K.lookup f_ahead=some ⟨oc_ahead,od_ahead,.func (W.fnOf "waves_ahead" "waves_ahead" (defArgs sAhead) (defBody sAhead) (defScope sAhead) .none kV_ahead dc_ahead pm_ahead an_ahead cd_ahead ct_ahead),sl_ahead⟩)
  (c_ahead:W.codeIn K cd_ahead "waves_ahead"=true)
  (k_ahead:W.keepIn K (.ref f_ahead)=true)
  (a_ring:W.nsIn K mainGlobals "ring_in"=some (some (.ref f_ring)))
  (l_ring:K.lookup f_ring=some ⟨oc_ring,od_ring,.func (W.fnOf "ring_in" "ring_in" (defArgs sRing) (defBody sRing) (defScope sRing) .none kV_ring dc_ring pm_ring an_ring cd_ring ct_ring),sl_ring⟩)
  (c_ring:W.codeIn K cd_ring "ring_in"=true)
  (k_ring:W.keepIn K (.ref f_ring)=true)
  (a_times:W.nsIn K mainGlobals "times_of"=some (some (.ref f_times)))
  (l_times:K.lookup f_times=some ⟨oc_times,od_times,.func (W.fnOf "times_of" "times_of" (defArgs sTimes) (defBody sTimes) (defScope sTimes) .none kV_times dc_times pm_times an_times cd_times ct_times),sl_times⟩)
  (c_times:W.codeIn K cd_times "times_of"=true)
  (k_times:W.keepIn K (.ref f_times)=true)
  (a_last:W.nsIn K mainGlobals "last_end"=some (some (.ref f_last)))
  (l_last:K.lookup f_last=some ⟨oc_last,od_last,.func (W.fnOf "last_end" "last_end" (defArgs sLast) (defBody sLast) (defScope sLast) .none kV_last dc_last pm_last an_last cd_last ct_last),sl_last⟩)
  (c_last:W.codeIn K cd_last "last_end"=true)
  (k_last:W.keepIn K (.ref f_last)=true)
  (a_chain:W.nsIn K mainGlobals "chain_bound"=some (some (.ref f_chain)))
  (l_chain:K.lookup f_chain=some ⟨oc_chain,od_chain,.func (W.fnOf "chain_bound" "chain_bound" (defArgs sChain) (defBody sChain) (defScope sChain) .none kV_chain dc_chain pm_chain an_chain cd_chain ct_chain),sl_chain⟩)
  (c_chain:W.codeIn K cd_chain "chain_bound"=true)
  (k_chain:W.keepIn K (.ref f_chain)=true)
  (a_work:W.nsIn K mainGlobals "work_bound"=some (some (.ref f_work)))
  (l_work:K.lookup f_work=some ⟨oc_work,od_work,.func (W.fnOf "work_bound" "work_bound" (defArgs sWork) (defBody sWork) (defScope sWork) .none kV_work dc_work pm_work an_work cd_work ct_work),sl_work⟩)
  (c_work:W.codeIn K cd_work "work_bound"=true)
  (k_work:W.keepIn K (.ref f_work)=true)
  (a_least:W.nsIn K mainGlobals "least_walk"=some (some (.ref f_least)))
  (l_least:K.lookup f_least=some ⟨oc_least,od_least,.func (W.fnOf "least_walk" "least_walk" (defArgs sLeast) (defBody sLeast) (defScope sLeast) .none kV_least dc_least pm_least an_least cd_least ct_least),sl_least⟩)
  (c_least:W.codeIn K cd_least "least_walk"=true)
  (k_least:W.keepIn K (.ref f_least)=true)
  (a_orders:W.nsIn K mainGlobals "all_orders"=some (some (.ref f_orders)))
  (l_orders:K.lookup f_orders=some ⟨oc_orders,od_orders,.func (W.fnOf "all_orders" "all_orders" (defArgs sOrders) (defBody sOrders) (defScope sOrders) .none kV_orders dc_orders pm_orders an_orders cd_orders ct_orders),sl_orders⟩)
  (c_orders:W.codeIn K cd_orders "all_orders"=true)
  (k_orders:W.keepIn K (.ref f_orders)=true)
  (a_next:W.nsIn K mainGlobals "next_in"=some (some (.ref f_next)))
  (l_next:K.lookup f_next=some ⟨oc_next,od_next,.func (W.fnOf "next_in" "next_in" (defArgs sNext) (defBody sNext) (defScope sNext) .none kV_next dc_next pm_next an_next cd_next ct_next),sl_next⟩)
  (c_next:W.codeIn K cd_next "next_in"=true)
  (k_next:W.keepIn K (.ref f_next)=true)
  (a_by:W.nsIn K mainGlobals "walk_by"=some (some (.ref f_by)))
  (l_by:K.lookup f_by=some ⟨oc_by,od_by,.func (W.fnOf "walk_by" "walk_by" (defArgs sBy) (defBody sBy) (defScope sBy) .none kV_by dc_by pm_by an_by cd_by ct_by),sl_by⟩)
  (c_by:W.codeIn K cd_by "walk_by"=true)
  (k_by:W.keepIn K (.ref f_by)=true)
  (a_cell:W.nsIn K mainGlobals "_law_cell_at"=some (some (.ref f_cell)))
  (l_cell:K.lookup f_cell=some ⟨oc_cell,od_cell,.func (W.fnOf "_law_cell_at" "_law_cell_at" (defArgs sCell) (defBody sCell) (defScope sCell) .none kV_cell dc_cell pm_cell an_cell cd_cell ct_cell),sl_cell⟩)
  (c_cell:W.codeIn K cd_cell "_law_cell_at"=true)
  (k_cell:W.keepIn K (.ref f_cell)=true)
  (a_tape:W.nsIn K mainGlobals "_law_tape"=some (some (.ref f_tape)))
  (l_tape:K.lookup f_tape=some ⟨oc_tape,od_tape,.func (W.fnOf "_law_tape" "_law_tape" (defArgs sTape) (defBody sTape) (defScope sTape) .none kV_tape dc_tape pm_tape an_tape cd_tape ct_tape),sl_tape⟩)
  (c_tape:W.codeIn K cd_tape "_law_tape"=true)
  (k_tape:W.keepIn K (.ref f_tape)=true)
  (a_draw:W.nsIn K mainGlobals "_law_draw"=some (some (.ref f_draw)))
  (l_draw:K.lookup f_draw=some ⟨oc_draw,od_draw,.func (W.fnOf "_law_draw" "_law_draw" (defArgs sDraw) (defBody sDraw) (defScope sDraw) .none kV_draw dc_draw pm_draw an_draw cd_draw ct_draw),sl_draw⟩)
  (c_draw:W.codeIn K cd_draw "_law_draw"=true)
  (k_draw:W.keepIn K (.ref f_draw)=true)
  (a_clock:W.nsIn K mainGlobals "_law_clock"=some (some (.ref f_clock)))
  (l_clock:K.lookup f_clock=some ⟨oc_clock,od_clock,.func (W.fnOf "_law_clock" "_law_clock" (defArgs sClock) (defBody sClock) (defScope sClock) .none kV_clock dc_clock pm_clock an_clock cd_clock ct_clock),sl_clock⟩)
  (c_clock:W.codeIn K cd_clock "_law_clock"=true)
  (k_clock:W.keepIn K (.ref f_clock)=true)
  (a_round:W.nsIn K mainGlobals "_law_goes_round"=some (some (.ref f_round)))
  (l_round:K.lookup f_round=some ⟨oc_round,od_round,.func (W.fnOf "_law_goes_round" "_law_goes_round" (defArgs sRound) (defBody sRound) (defScope sRound) .none kV_round dc_round pm_round an_round cd_round ct_round),sl_round⟩)
  (c_round:W.codeIn K cd_round "_law_goes_round"=true)
  (k_round:W.keepIn K (.ref f_round)=true)
  (a_end:W.nsIn K mainGlobals "_law_rows_end"=some (some (.ref f_end)))
  (l_end:K.lookup f_end=some ⟨oc_end,od_end,.func (W.fnOf "_law_rows_end" "_law_rows_end" (defArgs sEnd) (defBody sEnd) (defScope sEnd) .none kV_end dc_end pm_end an_end cd_end ct_end),sl_end⟩)
  (c_end:W.codeIn K cd_end "_law_rows_end"=true)
  (k_end:W.keepIn K (.ref f_end)=true)
  (a_are:W.nsIn K mainGlobals "_law_are_rows"=some (some (.ref f_are)))
  (l_are:K.lookup f_are=some ⟨oc_are,od_are,.func (W.fnOf "_law_are_rows" "_law_are_rows" (defArgs sAre) (defBody sAre) (defScope sAre) .none kV_are dc_are pm_are an_are cd_are ct_are),sl_are⟩)
  (c_are:W.codeIn K cd_are "_law_are_rows"=true)
  (k_are:W.keepIn K (.ref f_are)=true)
  (a_task:W.nsIn K mainGlobals "_law_task"=some (some (.ref f_task)))
  (l_task:K.lookup f_task=some ⟨oc_task,od_task,.func (W.fnOf "_law_task" "_law_task" (defArgs sTask) (defBody sTask) (defScope sTask) .none kV_task dc_task pm_task an_task cd_task ct_task),sl_task⟩)
  (c_task:W.codeIn K cd_task "_law_task"=true)
  (k_task:W.keepIn K (.ref f_task)=true)
  (a_rows:W.nsIn K mainGlobals "_law_rows"=some (some (.ref f_rows)))
  (l_rows:K.lookup f_rows=some ⟨oc_rows,od_rows,.func (W.fnOf "_law_rows" "_law_rows" (defArgs sRows) (defBody sRows) (defScope sRows) .none kV_rows dc_rows pm_rows an_rows cd_rows ct_rows),sl_rows⟩)
  (c_rows:W.codeIn K cd_rows "_law_rows"=true)
  (k_rows:W.keepIn K (.ref f_rows)=true)
  (a_good:W.nsIn K mainGlobals "_law_good_task"=some (some (.ref f_good)))
  (l_good:K.lookup f_good=some ⟨oc_good,od_good,.func (W.fnOf "_law_good_task" "_law_good_task" (defArgs sGood) (defBody sGood) (defScope sGood) .none kV_good dc_good pm_good an_good cd_good ct_good),sl_good⟩)
  (c_good:W.codeIn K cd_good "_law_good_task"=true)
  (k_good:W.keepIn K (.ref f_good)=true)
  (a_beats:W.nsIn K mainGlobals "_law_beats"=some (some (.ref f_beats)))
  (l_beats:K.lookup f_beats=some ⟨oc_beats,od_beats,.func (W.fnOf "_law_beats" "_law_beats" (defArgs sBeats) (defBody sBeats) (defScope sBeats) .none kV_beats dc_beats pm_beats an_beats cd_beats ct_beats),sl_beats⟩)
  (c_beats:W.codeIn K cd_beats "_law_beats"=true)
  (k_beats:W.keepIn K (.ref f_beats)=true)
  (a_right:W.nsIn K mainGlobals "_law_right"=some (some (.ref f_right)))
  (l_right:K.lookup f_right=some ⟨oc_right,od_right,.func (W.fnOf "_law_right" "_law_right" (defArgs sRight) (defBody sRight) (defScope sRight) .none kV_right dc_right pm_right an_right cd_right ct_right),sl_right⟩)
  (c_right:W.codeIn K cd_right "_law_right"=true)
  (k_right:W.keepIn K (.ref f_right)=true)
  (a_even:W.nsIn K mainGlobals "_law_even_right"=some (some (.ref f_even)))
  (l_even:K.lookup f_even=some ⟨oc_even,od_even,.func (W.fnOf "_law_even_right" "_law_even_right" (defArgs sEven) (defBody sEven) (defScope sEven) .none kV_even dc_even pm_even an_even cd_even ct_even),sl_even⟩)
  (c_even:W.codeIn K cd_even "_law_even_right"=true)
  (k_even:W.keepIn K (.ref f_even)=true)
  (a_law:W.nsIn K mainGlobals "law"=some (some (.ref f_law)))
  (l_law:K.lookup f_law=some ⟨oc_law,od_law,.func (W.fnOf "law" "law" (defArgs sLaw) (defBody sLaw) (defScope sLaw) .none kV_law dc_law pm_law an_law cd_law ct_law),sl_law⟩)
  (c_law:W.codeIn K cd_law "law"=true)
  (k_law:W.keepIn K (.ref f_law)=true)
  (z_isinstance:W.nsIn K mainGlobals "isinstance"=some none)
  (z_int:W.nsIn K mainGlobals "int"=some none)
  (z_bool:W.nsIn K mainGlobals "bool"=some none)
  (z_list:W.nsIn K mainGlobals "list"=some none)
  (z_tuple:W.nsIn K mainGlobals "tuple"=some none)
  (z_dict:W.nsIn K mainGlobals "dict"=some none)
  (z_str:W.nsIn K mainGlobals "str"=some none)
  (z_len:W.nsIn K mainGlobals "len"=some none)
  (z_range:W.nsIn K mainGlobals "range"=some none)
  (z_min:W.nsIn K mainGlobals "min"=some none)
  (z_max:W.nsIn K mainGlobals "max"=some none)
  (z_sorted:W.nsIn K mainGlobals "sorted"=some none)
  (z_sum:W.nsIn K mainGlobals "sum"=some none)
  (z_set:W.nsIn K mainGlobals "set"=some none)
  (z_enumerate:W.nsIn K mainGlobals "enumerate"=some none)
  (q_mp:W.nsIn K mainGlobals "MOST_PIECES"=some (some (.int 6 t_mp)))
  (q_mh:W.nsIn K mainGlobals "MOST_HANDS"=some (some (.int 3 t_mh)))
  :∃fd:FuncData,(∀(s:Shared) (v:Value),BindsTo s fd ⟨[v],[]⟩ [("_law_script",v)])/\∀base:Heap,K.In base->base.Ns mainGlobals mg->FnOk l.prog w K mg base CX0 6 fa fd ["_law_script"] (spLaw K):=by
 have e:=hfa.symm.trans (W.mg_of X G a_law)
 cases e
 have T:Txt K mg:=⟨W.mg_none_of X G z_isinstance,W.mg_none_of X G z_int,W.mg_none_of X G z_bool,W.mg_none_of X G z_list,W.mg_none_of X G z_tuple,W.mg_none_of X G z_dict,W.mg_none_of X G z_str,W.mg_none_of X G z_len,W.mg_none_of X G z_range,W.mg_none_of X G z_min,W.mg_none_of X G z_max,W.mg_none_of X G z_sorted,W.mg_none_of X G z_sum,W.mg_none_of X G z_set,W.mg_none_of X G z_enumerate⟩
 have F_whole:=fun_mk (st:=sWhole) l_whole c_whole k_whole
 have F_within:=fun_mk (st:=sWithin) l_within c_within k_within
 have F_of:=fun_mk (st:=sOf) l_of c_of k_of
 have F_ahead:=fun_mk (st:=sAhead) l_ahead c_ahead k_ahead
 have F_ring:=fun_mk (st:=sRing) l_ring c_ring k_ring
 have F_times:=fun_mk (st:=sTimes) l_times c_times k_times
 have F_last:=fun_mk (st:=sLast) l_last c_last k_last
 have F_chain:=fun_mk (st:=sChain) l_chain c_chain k_chain
 have F_work:=fun_mk (st:=sWork) l_work c_work k_work
 have F_least:=fun_mk (st:=sLeast) l_least c_least k_least
 have F_orders:=fun_mk (st:=sOrders) l_orders c_orders k_orders
 have F_next:=fun_mk (st:=sNext) l_next c_next k_next
 have F_by:=fun_mk (st:=sBy) l_by c_by k_by
 have F_cell:=fun_mk (st:=sCell) l_cell c_cell k_cell
 have F_tape:=fun_mk (st:=sTape) l_tape c_tape k_tape
 have F_draw:=fun_mk (st:=sDraw) l_draw c_draw k_draw
 have F_clock:=fun_mk (st:=sClock) l_clock c_clock k_clock
 have F_round:=fun_mk (st:=sRound) l_round c_round k_round
 have F_end:=fun_mk (st:=sEnd) l_end c_end k_end
 have F_are:=fun_mk (st:=sAre) l_are c_are k_are
 have F_task:=fun_mk (st:=sTask) l_task c_task k_task
 have F_rows:=fun_mk (st:=sRows) l_rows c_rows k_rows
 have F_good:=fun_mk (st:=sGood) l_good c_good k_good
 have F_beats:=fun_mk (st:=sBeats) l_beats c_beats k_beats
 have F_right:=fun_mk (st:=sRight) l_right c_right k_right
 have F_even:=fun_mk (st:=sEven) l_even c_even k_even
 have F_law:=fun_mk (st:=sLaw) l_law c_law k_law
 have b_whole:=F_whole.binds (ps:=["thing"]) fun _ _ _ _ _ _ us hl=>match us,hl with| [_],_=>rfl
 have b_within:=F_within.binds (ps:=["thing","least","most"]) fun _ _ _ _ _ _ us hl=>match us,hl with| [_,_,_],_=>rfl
 have b_of:=F_of.binds (ps:=["pairs","many"]) fun _ _ _ _ _ _ us hl=>match us,hl with| [_,_],_=>rfl
 have b_ahead:=F_ahead.binds (ps:=["pairs","many"]) fun _ _ _ _ _ _ us hl=>match us,hl with| [_,_],_=>rfl
 have b_ring:=F_ring.binds (ps:=["pairs","many"]) fun _ _ _ _ _ _ us hl=>match us,hl with| [_,_],_=>rfl
 have b_times:=F_times.binds (ps:=["lasts","pairs"]) fun _ _ _ _ _ _ us hl=>match us,hl with| [_,_],_=>rfl
 have b_last:=F_last.binds (ps:=["times"]) fun _ _ _ _ _ _ us hl=>match us,hl with| [_],_=>rfl
 have b_chain:=F_chain.binds (ps:=["lasts","pairs"]) fun _ _ _ _ _ _ us hl=>match us,hl with| [_,_],_=>rfl
 have b_work:=F_work.binds (ps:=["lasts","hands"]) fun _ _ _ _ _ _ us hl=>match us,hl with| [_,_],_=>rfl
 have b_least:=F_least.binds (ps:=["lasts","pairs","hands"]) fun _ _ _ _ _ _ us hl=>match us,hl with| [_,_,_],_=>rfl
 have b_orders:=F_orders.binds (ps:=["pairs","many"]) fun _ _ _ _ _ _ us hl=>match us,hl with| [_,_],_=>rfl
 have b_next:=F_next.binds (ps:=["order","pairs","many"]) fun _ _ _ _ _ _ us hl=>match us,hl with| [_,_,_],_=>rfl
 have b_by:=F_by.binds (ps:=["order","lasts","pairs","hands"]) fun _ _ _ _ _ _ us hl=>match us,hl with| [_,_,_,_],_=>rfl
 have b_cell:=F_cell.binds (ps:=["_law_script","_law_k"]) fun _ _ _ _ _ _ us hl=>match us,hl with| [_,_],_=>rfl
 have b_tape:=F_tape.binds (ps:=["_law_cell"]) fun _ _ _ _ _ _ us hl=>match us,hl with| [_],_=>rfl
 have b_draw:=F_draw.binds (ps:=["_law_tape_here","_law_many"]) fun _ _ _ _ _ _ us hl=>match us,hl with| [_,_],_=>rfl
 have b_clock:=F_clock.binds (ps:=["_law_lasts","_law_pairs","_law_rows_here"]) fun _ _ _ _ _ _ us hl=>match us,hl with| [_,_,_],_=>rfl
 have b_round:=F_round.binds (ps:=["_law_many","_law_pairs"]) fun _ _ _ _ _ _ us hl=>match us,hl with| [_,_],_=>rfl
 have b_end:=F_end.binds (ps:=["_law_lasts","_law_pairs","_law_rows_here"]) fun _ _ _ _ _ _ us hl=>match us,hl with| [_,_,_],_=>rfl
 have b_are:=F_are.binds (ps:=["_law_rows_here","_law_many","_law_hands"]) fun _ _ _ _ _ _ us hl=>match us,hl with| [_,_,_],_=>rfl
 have b_task:=F_task.binds (ps:=["_law_tape_here","_law_most"]) fun _ _ _ _ _ _ us hl=>match us,hl with| [_,_],_=>rfl
 have b_rows:=F_rows.binds (ps:=["_law_many","_law_hands","_law_tape_here"]) fun _ _ _ _ _ _ us hl=>match us,hl with| [_,_,_],_=>rfl
 have b_good:=F_good.binds (ps:=["_law_tape_here","_law_most"]) fun _ _ _ _ _ _ us hl=>match us,hl with| [_,_],_=>rfl
 have b_beats:=F_beats.binds (ps:=["_law_lasts","_law_pairs","_law_hands","_law_end","_law_tape_here"]) fun _ _ _ _ _ _ us hl=>match us,hl with| [_,_,_,_,_],_=>rfl
 have b_right:=F_right.binds (ps:=["_law_lasts","_law_pairs","_law_hands","_law_tape_here"]) fun _ _ _ _ _ _ us hl=>match us,hl with| [_,_,_,_],_=>rfl
 have b_even:=F_even.binds (ps:=["_law_tape_here"]) fun _ _ _ _ _ _ us hl=>match us,hl with| [_],_=>rfl
 have m_whole:=W.mg_of X G a_whole
 have m_within:=W.mg_of X G a_within
 have m_of:=W.mg_of X G a_of
 have m_ahead:=W.mg_of X G a_ahead
 have m_ring:=W.mg_of X G a_ring
 have m_times:=W.mg_of X G a_times
 have m_last:=W.mg_of X G a_last
 have m_chain:=W.mg_of X G a_chain
 have m_work:=W.mg_of X G a_work
 have m_least:=W.mg_of X G a_least
 have m_orders:=W.mg_of X G a_orders
 have m_next:=W.mg_of X G a_next
 have m_by:=W.mg_of X G a_by
 have m_cell:=W.mg_of X G a_cell
 have m_tape:=W.mg_of X G a_tape
 have m_draw:=W.mg_of X G a_draw
 have m_clock:=W.mg_of X G a_clock
 have m_round:=W.mg_of X G a_round
 have m_end:=W.mg_of X G a_end
 have m_are:=W.mg_of X G a_are
 have m_task:=W.mg_of X G a_task
 have m_rows:=W.mg_of X G a_rows
 have m_good:=W.mg_of X G a_good
 have m_beats:=W.mg_of X G a_beats
 have m_right:=W.mg_of X G a_right
 have m_even:=W.mg_of X G a_even
 refine⟨W.fnOf "law" "law" (defArgs sLaw) (defBody sLaw) (defScope sLaw) .none kV_law dc_law pm_law an_law cd_law ct_law,fun s v=> .of_eq rfl,fun base _ _=>?_⟩
 have c_cwithin:Cal l.prog w K mg base CX0 2 "is_within" ["thing","least","most"] spWithinG:=⟨_,_,ok_withinG F_within F_whole m_whole b_whole T,m_within,k_within,b_within⟩
 have c_cring:Cal l.prog w K mg base CX0 2 "ring_in" ["pairs","many"] spRing:=⟨_,_,ok_ring F_ring F_ahead m_ahead b_ahead T,m_ring,k_ring,b_ring⟩
 have c_cof:Cal l.prog w K mg base CX0 2 "waves_of" ["pairs","many"] spOf:=⟨_,_,ok_of F_of F_ahead m_ahead b_ahead T,m_of,k_of,b_of⟩
 have c_ctimes:Cal l.prog w K mg base CX0 3 "times_of" ["lasts","pairs"] spTimes:=⟨_,_,ok_times F_times c_cof T,m_times,k_times,b_times⟩
 have c_clast:Cal l.prog w K mg base CX0 1 "last_end" ["times"] spLast:=⟨_,_,ok_last F_last T,m_last,k_last,b_last⟩
 have c_cchain:Cal l.prog w K mg base CX0 4 "chain_bound" ["lasts","pairs"] spChain:=⟨_,_,ok_chain F_chain c_ctimes c_clast,m_chain,k_chain,b_chain⟩
 have c_cwork:Cal l.prog w K mg base CX0 1 "work_bound" ["lasts","hands"] spWork:=⟨_,_,ok_work F_work T,m_work,k_work,b_work⟩
 have c_cnext:Cal l.prog w K mg base CX0 1 "next_in" ["order","pairs","many"] spNext:=⟨_,_,ok_next F_next T,m_next,k_next,b_next⟩
 have c_corders:Cal l.prog w K mg base CX0 2 "all_orders" ["pairs","many"] spOrders:=⟨_,_,ok_orders F_orders c_cnext T,m_orders,k_orders,b_orders⟩
 have c_cby:Cal l.prog w K mg base CX0 1 "walk_by" ["order","lasts","pairs","hands"] spBy:=⟨_,_,ok_by F_by T,m_by,k_by,b_by⟩
 have c_cleast:Cal l.prog w K mg base CX0 3 "least_walk" ["lasts","pairs","hands"] spLeast:=⟨_,_,ok_least F_least c_cwithin c_cring c_corders c_cby T (W.mg_of X G q_mp) (W.mg_of X G q_mh),m_least,k_least,b_least⟩
 have c_ccell:Cal l.prog w K mg base CX0 1 "_law_cell_at" ["_law_script","_law_k"] (spCell K):=⟨_,_,ok_cell F_cell T,m_cell,k_cell,b_cell⟩
 have c_ctape:Cal l.prog w K mg base CX0 1 "_law_tape" ["_law_cell"] spTape:=⟨_,_,ok_tape F_tape T,m_tape,k_tape,b_tape⟩
 have c_cdraw:Cal l.prog w K mg base CX0 1 "_law_draw" ["_law_tape_here","_law_many"] spDraw:=⟨_,_,ok_draw F_draw,m_draw,k_draw,b_draw⟩
 have c_cclock:Cal l.prog w K mg base CX0 1 "_law_clock" ["_law_lasts","_law_pairs","_law_rows_here"] spClock:=⟨_,_,ok_clock F_clock T,m_clock,k_clock,b_clock⟩
 have c_cround:Cal l.prog w K mg base CX0 1 "_law_goes_round" ["_law_many","_law_pairs"] spRound:=⟨_,_,ok_round F_round T,m_round,k_round,b_round⟩
 have c_cend:Cal l.prog w K mg base CX0 2 "_law_rows_end" ["_law_lasts","_law_pairs","_law_rows_here"] spEnd:=⟨_,_,ok_end F_end c_cclock T,m_end,k_end,b_end⟩
 have c_care:Cal l.prog w K mg base CX0 1 "_law_are_rows" ["_law_rows_here","_law_many","_law_hands"] spAre:=⟨_,_,ok_are F_are T,m_are,k_are,b_are⟩
 have c_ctask:Cal l.prog w K mg base CX0 2 "_law_task" ["_law_tape_here","_law_most"] spTask:=⟨_,_,ok_task F_task c_cdraw T,m_task,k_task,b_task⟩
 have c_crows:Cal l.prog w K mg base CX0 2 "_law_rows" ["_law_many","_law_hands","_law_tape_here"] spRows:=⟨_,_,ok_rows F_rows c_cdraw T,m_rows,k_rows,b_rows⟩
 have c_cgood:Cal l.prog w K mg base CX0 3 "_law_good_task" ["_law_tape_here","_law_most"] spGood:=⟨_,_,ok_good F_good c_ctask c_cround T,m_good,k_good,b_good⟩
 have c_cbeats:Cal l.prog w K mg base CX0 3 "_law_beats" ["_law_lasts","_law_pairs","_law_hands","_law_end","_law_tape_here"] spBeats:=⟨_,_,ok_beats F_beats c_crows c_cend T,m_beats,k_beats,b_beats⟩
 have c_cright:Cal l.prog w K mg base CX0 5 "_law_right" ["_law_lasts","_law_pairs","_law_hands","_law_tape_here"] spRt:=⟨_,_,ok_right F_right c_cleast c_care c_cend c_cchain c_cwork c_cbeats T,m_right,k_right,b_right⟩
 have c_ceven:Cal l.prog w K mg base CX0 4 "_law_even_right" ["_law_tape_here"] spEven:=⟨_,_,ok_even F_even c_cdraw c_cleast c_care c_cend T,m_even,k_even,b_even⟩
 exact ok_law F_law c_ctape c_cgood c_cdraw c_cright c_ceven c_ccell T
theorem walkOn {l:W.OpenLaw} {q:Program} {loose:List Str} {XP:(Str->Option Value)->Heap->Prop} {YP:World->Heap->Prop} {d:DefRec} {K:Params->W.Frag} (hn:l.most=some 63) (hdf:d.params.defaults=[])
  (hY:∀(w:World) (h:Heap),YP w h->(K w.params).In h)
  (F:∀(w:World) (mg:Str->Option Value) (fa:Addr) (h:Heap),(K w.params).In h->h.Ns mainGlobals mg->mg d.name=some (.ref fa)->
   ∃fd:FuncData,(∀(s:Shared) (u:Value),BindsTo s fd ⟨[u],[]⟩ [("_law_script",u)])/\∀base:Heap,(K w.params).In base->base.Ns mainGlobals mg->FnOk l.prog w (K w.params) mg base CX0 6 fa fd ["_law_script"] (spLaw (K w.params))):
  W.WalkO q loose XP YP l.row.toRowW d [] (fun f vs=>PySem.call f vs):=
 L2.walk_of (n:=63) (k:=6) (x:="_law_script") (CX:=fun _=>CX0) (sp:=fun w=>spLaw (K w.params)) hn (by decide) hdf ⟨rfl,by decide,by decide⟩ hY F (fun _ _ a ns _ _ hS=>⟨a,ns,rfl,hS,fun _=>rfl⟩) fun _ _ _ _ _ z=>z
end KB
def PySem.W.Fast.tw18092562460404237835:Unit:=()
def PySem.W.Fast.tw1013194772006029662:Unit:=()
def PySem.W.Fast.tw237306191339912902:Unit:=()
def PySem.W.Fast.tw16523845616252131521:Unit:=()
def PySem.W.Fast.tw1295639775070712993:Unit:=()
def PySem.W.Fast.tw10083564032717140140:Unit:=()
def PySem.W.Fast.tw14949873085833306166:Unit:=()
open PySem PySem.W PyProof.Rows
set_option maxRecDepth 100000 in
set_option maxHeartbeats 0 in
theorem PySem.Challenge.cw_slanttiles_k76_least_walks_holds : PySem.Challenge.rw_slanttiles_k76_least_walks.Holds := by
  w_on; o_law; k_head; (case hw => w_witness2)
  k_fill
  refine KB.walkOn (l := PySem.Challenge.rw_slanttiles_k76_least_walks) rfl rfl (fun w h Y => W.kIn_of Y) ?F
  case F =>
    intro w mg fa h KX G hmg
    refine' KB.all_mk KX G hmg ?a_whole ?l_whole ?c_whole ?k_whole ?a_within ?l_within ?c_within ?k_within ?a_of ?l_of ?c_of ?k_of ?a_ahead ?l_ahead ?c_ahead ?k_ahead ?a_ring ?l_ring ?c_ring ?k_ring ?a_times ?l_times ?c_times ?k_times ?a_last ?l_last ?c_last ?k_last ?a_chain ?l_chain ?c_chain ?k_chain ?a_work ?l_work ?c_work ?k_work ?a_least ?l_least ?c_least ?k_least ?a_orders ?l_orders ?c_orders ?k_orders ?a_next ?l_next ?c_next ?k_next ?a_by ?l_by ?c_by ?k_by ?a_cell ?l_cell ?c_cell ?k_cell ?a_tape ?l_tape ?c_tape ?k_tape ?a_draw ?l_draw ?c_draw ?k_draw ?a_clock ?l_clock ?c_clock ?k_clock ?a_round ?l_round ?c_round ?k_round ?a_end ?l_end ?c_end ?k_end ?a_are ?l_are ?c_are ?k_are ?a_task ?l_task ?c_task ?k_task ?a_rows ?l_rows ?c_rows ?k_rows ?a_good ?l_good ?c_good ?k_good ?a_beats ?l_beats ?c_beats ?k_beats ?a_right ?l_right ?c_right ?k_right ?a_even ?l_even ?c_even ?k_even ?a_law ?l_law ?c_law ?k_law ?z_isinstance ?z_int ?z_bool ?z_list ?z_tuple ?z_dict ?z_str ?z_len ?z_range ?z_min ?z_max ?z_sorted ?z_sum ?z_set ?z_enumerate ?q_mp ?q_mh
    (case a_whole => k_is); (case l_whole => k_is); (case c_whole => k_is); (case k_whole => k_is); (case a_within => k_is)
    (case l_within => k_is); (case c_within => k_is); (case k_within => k_is); (case a_of => k_is); (case l_of => k_is)
    (case c_of => k_is); (case k_of => k_is); (case a_ahead => k_is); (case l_ahead => k_is); (case c_ahead => k_is)
    (case k_ahead => k_is); (case a_ring => k_is); (case l_ring => k_is); (case c_ring => k_is); (case k_ring => k_is)
    (case a_times => k_is); (case l_times => k_is); (case c_times => k_is); (case k_times => k_is); (case a_last => k_is)
    (case l_last => k_is); (case c_last => k_is); (case k_last => k_is); (case a_chain => k_is); (case l_chain => k_is)
    (case c_chain => k_is); (case k_chain => k_is); (case a_work => k_is); (case l_work => k_is); (case c_work => k_is)
    (case k_work => k_is); (case a_least => k_is); (case l_least => k_is); (case c_least => k_is); (case k_least => k_is)
    (case a_orders => k_is); (case l_orders => k_is); (case c_orders => k_is); (case k_orders => k_is); (case a_next => k_is)
    (case l_next => k_is); (case c_next => k_is); (case k_next => k_is); (case a_by => k_is); (case l_by => k_is)
    (case c_by => k_is); (case k_by => k_is); (case a_cell => k_is); (case l_cell => k_is); (case c_cell => k_is)
    (case k_cell => k_is); (case a_tape => k_is); (case l_tape => k_is); (case c_tape => k_is); (case k_tape => k_is)
    (case a_draw => k_is); (case l_draw => k_is); (case c_draw => k_is); (case k_draw => k_is); (case a_clock => k_is)
    (case l_clock => k_is); (case c_clock => k_is); (case k_clock => k_is); (case a_round => k_is); (case l_round => k_is)
    (case c_round => k_is); (case k_round => k_is); (case a_end => k_is); (case l_end => k_is); (case c_end => k_is)
    (case k_end => k_is); (case a_are => k_is); (case l_are => k_is); (case c_are => k_is); (case k_are => k_is)
    (case a_task => k_is); (case l_task => k_is); (case c_task => k_is); (case k_task => k_is); (case a_rows => k_is)
    (case l_rows => k_is); (case c_rows => k_is); (case k_rows => k_is); (case a_good => k_is); (case l_good => k_is)
    (case c_good => k_is); (case k_good => k_is); (case a_beats => k_is); (case l_beats => k_is); (case c_beats => k_is)
    (case k_beats => k_is); (case a_right => k_is); (case l_right => k_is); (case c_right => k_is); (case k_right => k_is)
    (case a_even => k_is); (case l_even => k_is); (case c_even => k_is); (case k_even => k_is); (case a_law => k_is)
    (case l_law => k_is); (case c_law => k_is); (case k_law => k_is); (case z_isinstance => k_is); (case z_int => k_is)
    (case z_bool => k_is); (case z_list => k_is); (case z_tuple => k_is); (case z_dict => k_is); (case z_str => k_is)
    (case z_len => k_is); (case z_range => k_is); (case z_min => k_is); (case z_max => k_is); (case z_sorted => k_is)
    (case z_sum => k_is); (case z_set => k_is); (case z_enumerate => k_is); (case q_mp => k_is); (case q_mh => k_is)


