import PyProof.Rows.All
import Wide.All
import OpenK.AllK
import Wide.FinOn
import Lean
import PyProof.EqAt
import PyProof.EqKinds
import PyProof.TupleCall
import PyProof.NeKinds
import PyProof.EnumStmt
import PyProof.EnumMake
import PyProof.EnumFor
import PyProof.ListMulRoad
import PyProof.CompFree
import PyProof.CompMap
import PyProof.Rows.SortWalk
import PyProof.Rows.MinMaxN
import PyProof.Rows.SeqMore2
import PyProof.Rows.SetFrom
import KE.KDictList
import PyProof.SumWalk
import PyProof.WalksMore
import PyProof.TupleIter
import PyProof.ListRange
import KE.KDictSum
import PyProof.AutoListH
import PyProof.FactsAll.list_3
import PyProof.MinMaxWalk
import PyProof.WalkInts
import KE.KMinBuiltin
import PyProof.Rows.CallKwBuiltin
import PyProof.ZipIter
import KE.KItemsList
import PyProof.DictWalks
import PyProof.FactsAll.dict_4
import PyProof.ConsumeWalk
import KE.KRevSl
import KE.KDictOf
import PyProof.Cells
import OpenK.KLine
import PyProof.SetKind
import PyProof.DictFindH
import PyProof.IsRules
import PyProof.TupleKey
import PyProof.CollectIter
import PyProof.FactsAll.set
import PyProof.DictIter
import KE.KSortTup
import PyProof.PureInt
import PyProof.EqAt
import PyProof.FactsAll.list
import PyProof.FactsAll.tuple
import PyProof.Rows.SortShell
import PyProof.Rows.IntRules
import PyProof.Walks
import PyProof.DictUpdate
import PyProof.FactsAll.dict_3
import PySem.Challenge.RW_slanttiles_k22_spots_of_a_job
set_option Elab.async false
set_option linter.all false
set_option maxRecDepth 100000
namespace L2
open PySem PySem.Spec PyProof.Rows
abbrev Key:=Sum Int Str
def keyIs:Key->Value->Bool
 | .inl k,v=>Value.isInt k v
 | .inr x,v=>Value.isStrOf x v
def keyH (w:World):Key->Int
 | .inl k=>hashInt k
 | .inr x=>hashStr w x
theorem keyIs_shape:∀{k:Key} {v:Value},keyIs k v=true->(∃i t,k=Sum.inl i/\v=Value.int i t)∨(∃x t,k=Sum.inr x/\v=Value.str x t)
 | .inl i,v,h=>by
  obtain⟨t,e⟩:=Value.isInt_shape (k:=i) (v:=v) h
  exact .inl ⟨i,t,rfl,e⟩
 | .inr x,v,h=>by
  obtain⟨t,e⟩:=Value.isStrOf_shape (x:=x) (v:=v) h
  exact .inr ⟨x,t,rfl,e⟩
theorem keyIs_int (i:Int) (t:Tok):keyIs (.inl i) (.int i t)=true:=by simp [keyIs,Value.isInt]
theorem keyIs_str (x:Str) (t:Tok):keyIs (.inr x) (.str x t)=true:=by simp [keyIs,Value.isStrOf]
theorem key_ll (a b:Int):decide ((Sum.inl a:Key)=Sum.inl b)=(a==b):=by
 by_cases e:a=b
 ·subst e;simp
 ·have h:¬(Sum.inl a:Key)=Sum.inl b:=fun q=>e (Sum.inl.inj q)
  rw [decide_eq_false h]
  exact(beq_eq_false_iff_ne.mpr e).symm
theorem key_rr (a b:Str):decide ((Sum.inr a:Key)=Sum.inr b)=decide (a=b):=by
 by_cases e:a=b
 ·subst e;simp
 ·have h:¬(Sum.inr a:Key)=Sum.inr b:=fun q=>e (Sum.inr.inj q)
  rw [decide_eq_false h,decide_eq_false e]
theorem key_lr (a:Int) (b:Str):decide ((Sum.inl a:Key)=Sum.inr b)=false:=decide_eq_false (fun q=>nomatch q)
theorem key_rl (a:Str) (b:Int):decide ((Sum.inr a:Key)=Sum.inl b)=false:=decide_eq_false (fun q=>nomatch q)
def mixKind (prog:Program) (w:World):PySem.KeyKind prog w Key where
 is:=keyIs
 hash:=keyH w
 inj:=fun v a b ha hb=>by
  rcases keyIs_shape ha with ⟨i,t,rfl,rfl⟩|⟨x,t,rfl,rfl⟩
  ·rcases keyIs_shape hb with ⟨j,u,rfl,e⟩|⟨y,u,rfl,e⟩
   ·injection e with e1 _;rw [e1]
   ·exact nomatch e
  ·rcases keyIs_shape hb with ⟨j,u,rfl,e⟩|⟨y,u,rfl,e⟩
   ·exact nomatch e
   ·injection e with e1 _;rw [e1]
 byValue:=fun k v h=>by
  rcases keyIs_shape h with ⟨i,t,rfl,rfl⟩|⟨x,t,rfl,rfl⟩<;>rfl
 pyHash:=fun hv h=>by
  rcases keyIs_shape hv with ⟨i,t,rfl,rfl⟩|⟨x,t,rfl,rfl⟩
  ·exact wpAny_pyHash_int h
  ·exact wpAny_pyHash_str h
 eqBool:=fun hu hv h=>by
  rcases keyIs_shape hu with ⟨i,t,rfl,rfl⟩|⟨x,t,rfl,rfl⟩
  ·rcases keyIs_shape hv with ⟨j,u,rfl,rfl⟩|⟨y,u,rfl,rfl⟩
   ·rw [key_ll]at h;exact wpAny_eqBool_int h
   ·rw [key_lr]at h;exact SeqAt.EqAt.int_str i t y u _ _ _ _ h
  ·rcases keyIs_shape hv with ⟨j,u,rfl,rfl⟩|⟨y,u,rfl,rfl⟩
   ·rw [key_rl]at h;exact SeqAt.EqAt.str_int x t j u _ _ _ _ h
   ·rw [key_rr]at h;exact wpAny_eqBool_str h
 «strs»:=fun k x t v h=>by
  rcases keyIs_shape h with ⟨i,u,rfl,e⟩|⟨y,u,rfl,e⟩
  ·exact nomatch e
  ·injection e with e1 _
   subst e1
   cases v<;>rfl
theorem mixKind_int (prog:Program) (w:World) (i:Int) (t:Tok):(mixKind prog w).is (.inl i) (.int i t)=true:=keyIs_int i t
theorem mixKind_str (prog:Program) (w:World) (x:Str) (t:Tok):(mixKind prog w).is (.inr x) (.str x t)=true:=keyIs_str x t
end L2
namespace L2
open PySem PySem.Spec PyProof.Rows
inductive V where
 |non|bl (b:Bool)|int (i:Int)|str (x:Str)|byt (b:Array UInt8)|flt (b:UInt64)|ref (a:Addr)|ty (n:String)
 deriving DecidableEq
def RelV:V->Value->Prop
 | .non,u=>u=Value.none
 | .bl b,u=>u=Value.bool b
 | .int i,u=>∃t,u=Value.int i t
 | .str x,u=>∃t,u=Value.str x t
 | .byt b,u=>∃t,u=Value.bytes b t
 | .flt b,u=>∃t,u=Value.float b t
 | .ref a,u=>u=Value.ref a
 | .ty n,u=>u=Value.type n
abbrev Vals:List V->List Value->Prop:=Paired RelV
theorem Vals.length {xs:List V} {us:List Value} (r:Vals xs us):xs.length=us.length:=Paired.length r
theorem Vals.get:∀{xs:List V} {us:List Value} {i:Nat} {x:V},Vals xs us->xs[i]? =some x->∃u,us[i]? =some u/\RelV x u
 |_,_,_,_,.nil,e=>by simp at e
 |_,_,0,_,.cons r _,e=>by simp at e;subst e;exact⟨_,rfl,r⟩
 |_,_,i+1,x,.cons _ t,e=>by
  obtain⟨u,h1,h2⟩:=Vals.get (i:=i) (x:=x) t (by simpa using e)
  exact⟨u,by simpa using h1,h2⟩
theorem Vals.set {x:V} {u:Value} (r:RelV x u):∀{xs:List V} {us:List Value} (i:Nat),Vals xs us->Vals (xs.set i x) (us.set i u)
 |_,_,_,.nil=> .nil
 |_,_,0,.cons _ t=> .cons r t
 |_,_,i+1,.cons q t=> .cons q (Vals.set r i t)
theorem Vals.append:∀{xs ys:List V} {us ws:List Value},Vals xs us->Vals ys ws->Vals (xs++ys) (us++ws)
 |_,_,_,_,.nil,s=>s
 |_,_,_,_,.cons r t,s=> .cons r (Vals.append t s)
theorem Vals.take:∀{xs:List V} {us:List Value} (n:Nat),Vals xs us->Vals (xs.take n) (us.take n)
 |_,_,0,_=> .nil
 |_,_,_+1,.nil=> .nil
 |_,_,n+1,.cons r t=> .cons r (Vals.take n t)
theorem Vals.drop:∀{xs:List V} {us:List Value} (n:Nat),Vals xs us->Vals (xs.drop n) (us.drop n)
 |_,_,0,r=>r
 |_,_,_+1,.nil=> .nil
 |_,_,n+1,.cons _ t=>Vals.drop n t
def RelO:Option V->Option Value->Prop
 |some v,some u=>RelV v u
 |none,none=>True
 |_,_=>False
def KV {κ:Type}:List (κ×V)->List (κ×Value)->Prop:=Paired fun(p:κ×V) (q:κ×Value)=>p.1=q.1/\RelV p.2 q.2
def kV:Key->V
 | .inl i=> .int i
 | .inr x=> .str x
inductive HO where
 |lst (xs:List V)
 |tup (xs:List V)
 |dK (kvs:List (Key×V))|dT (kvs:List (List Key×V))
 |set (S:Int->Bool) (n:Nat)
 |ins (C dx:Addr) (fs:List (Str×V))
 |own (x:Addr)
 |xd (fs:List (Str×V))
 |met (f x:Addr)
 |rng (lo hi:Int)
 |frz (o:Obj) (u:HO)
 |tbl (ps:Array Value)
 |ext (φ:Heap->Prop)
abbrev Hp:=Addr->Option HO
def upd (H:Hp) (a:Addr) (o:HO):Hp:=fun b=>if b=a then some o else H b
theorem upd_same {H:Hp} {a:Addr} {o:HO}:upd H a o a=some o:=by unfold upd;rw [if_pos rfl]
theorem upd_ne {H:Hp} {a b:Addr} {o:HO} (h:b≠a):upd H a o b=H b:=by unfold upd;rw [if_neg h]
theorem ne_of {H:Hp} {a b:Addr} {o u:HO} (h:H a=some o) (h':H b=some u) (d:o≠u):a≠b:=by
 intro e;subst e;rw [h]at h';exact d (Option.some.inj h')
theorem ne_of_none {H:Hp} {a b:Addr} {o:HO} (h:H a=some o) (h':H b=none):a≠b:=by
 intro e;subst e;rw [h]at h';cases h'
section
variable (P:Program) (w:World)
def ObjOk (H:Hp) (h:Heap) (a:Addr):HO->Prop
 | .lst xs=>xs.length<=sizeLine/\∃(its:List Value) (n:Nat),Vals xs its/\h.get? a=some {cls:= .type "list",data:= .seq its.toArray n}
 | .tup xs=>xs.length<=sizeLine/\∃its:List Value,Vals xs its/\IsTup h a its.toArray
 | .dK kvs=>kvs.length<=sizeLine/\(a==sysModules)=false/\∃vs,KV kvs vs/\h.DictOf (mixKind P w) a vs
 | .dT kvs=>kvs.length<=sizeLine/\(a==sysModules)=false/\∃xs:List (List Key×Addr×Value),
   Paired (fun(p:List Key×V) (q:List Key×Addr×Value)=>p.1=q.1/\H q.2.1=some (.tup (p.1.map kV))/\RelV p.2 q.2.2) kvs xs/\
   ∃o es ep,h.get? a=some o/\o.ExactDict/\o.data= .dict es ep/\es.toList=xs.map (entryOfKey (tupleKind (mixKind P w)))/\(xs.map (·.1)).Nodup
 | .set S n=>h.SetOf (intKind P w) a S n
 | .ins C dx fs=>H dx=some (.own a)/\fs.length<=1000/\dx≠a/\h.get? a=some (PySem.W.instObj C dx)/\
   ∃mA,h.Ns1 dx mA/\(∀f,RelO (fs.lookup f) (mA f))/\PySem.Within mA (fs.map (·.1))
 | .own _=>∃o,h.get? a=some o
 | .xd fs=>∃mA,h.Ns1 a mA/\∀f,RelO (fs.lookup f) (mA f)
 | .rng lo hi=>∃t u v,h.get? a=some {cls:= .type "range",data:= .fields #[.int lo t,.int hi u,.int 1 v]}
 | .frz o u=>h.get? a=some o/\ObjOk H h a u
 | .tbl ps=>h.get? a=some {cls:= .none,data:= .fields ps}
 | .met f x=>h.get? a=some (PySem.W.methodObj (.ref f) (.ref x))
 | .ext φ=>φ h/\(∃o,h.get? a=some o)/\∀h1 h2:Heap,φ h1->(∀o,h1.get? a=some o->h2.get? a=some o)->φ h2
def HOk (H:Hp) (h:Heap):Prop:=∀a o,H a=some o->ObjOk P w H h a o
end
section
variable {P:Program} {w:World} {H H':Hp} {h h':Heap} {a:Addr} {o:HO}
theorem ObjOk.lt (x:ObjOk P w H h a o):a<h.objs.size:=by
 cases o with
 |lst xs=>obtain⟨_,_,_,_,e⟩:=x;exact Heap.lt_size e
 |tup xs=>obtain⟨_,_,_,p⟩:=x;exact p.lt
 |dK kvs=>obtain⟨_,_,_,_,o,_,_,e,_⟩:=x;exact Heap.lt_size e
 |dT kvs=>obtain⟨_,_,_,_,o,_,_,e,_⟩:=x;exact Heap.lt_size e
 |set S n=>obtain⟨o,_,_,_,e,_⟩:=x;exact Heap.lt_size e
 |ins C dx fs=>obtain⟨_,_,_,e,_⟩:=x;exact Heap.lt_size e
 |own y=>obtain⟨_,e⟩:=x;exact Heap.lt_size e
 |xd fs=>obtain⟨_,⟨_,_,_,e,_⟩,_⟩:=x;exact Heap.lt_size e
 |rng lo hi=>obtain⟨_,_,_,e⟩:=x;exact Heap.lt_size e
 |frz ob u=>obtain⟨e,_⟩:=x;exact Heap.lt_size e
 |tbl ps=>exact Heap.lt_size (show h.get? a=some _ from x)
 |met f y=>exact Heap.lt_size (show h.get? a=some _ from x)
 |ext φ=>obtain⟨_,⟨_,e⟩,_⟩:=x;exact Heap.lt_size e
theorem Paired.mapP {α β:Type} {F G:α->β->Prop}:∀{l₁:List α} {l₂:List β},Paired F l₁ l₂->(∀a b,F a b->G a b)->Paired G l₁ l₂
 |_,_,.nil,_=> .nil
 |_,_,.cons r t,f=> .cons (f _ _ r) (Paired.mapP t f)
theorem ObjOk.stay (x:ObjOk P w H h a o) (k:∀b u,(b=a∨H b=some (.own a))->h.get? b=some u->h'.get? b=some u)
  (ho:∀b,H b=some (.own a)->H' b=some (.own a)) (ht:∀b xs,H b=some (.tup xs)->H' b=some (.tup xs)):ObjOk P w H' h' a o:=by
 induction o with
 |lst xs=>obtain⟨z,its,n,r,e⟩:=x;exact⟨z,its,n,r,k _ _ (.inl rfl) e⟩
 |tup xs=>obtain⟨z,its,r,ob,e,c⟩:=x;exact⟨z,its,r,ob,k _ _ (.inl rfl) e,c⟩
 |dK kvs=>obtain⟨z,y,vs,r,ob,es,ep,e,c⟩:=x;exact⟨z,y,vs,r,ob,es,ep,k _ _ (.inl rfl) e,c⟩
 |dT kvs=>
  obtain⟨z,y,xs,r,ob,es,ep,e,c⟩:=x
  exact⟨z,y,xs,Paired.mapP r fun p q z=>⟨z.1,ht _ _ z.2.1,z.2.2⟩,ob,es,ep,k _ _ (.inl rfl) e,c⟩
 |set S n=>obtain⟨ob,es,ep,t,e,c⟩:=x;exact⟨ob,es,ep,t,k _ _ (.inl rfl) e,c⟩
 |ins C dx fs=>
  obtain⟨d,z,ne,e,mA,⟨od,es,ep,e2,c⟩,r⟩:=x
  exact⟨ho _ d,z,ne,k _ _ (.inl rfl) e,mA,⟨od,es,ep,k _ _ (.inr d) e2,c⟩,r⟩
 |own y=>obtain⟨ob,e⟩:=x;exact⟨ob,k _ _ (.inl rfl) e⟩
 |xd fs=>obtain⟨mA,⟨od,es,ep,e,c⟩,r⟩:=x;exact⟨mA,⟨od,es,ep,k _ _ (.inl rfl) e,c⟩,r⟩
 |rng lo hi=>obtain⟨t,u,v,e⟩:=x;exact⟨t,u,v,k _ _ (.inl rfl) e⟩
 |frz ob u ih=>obtain⟨e,q⟩:=x;exact⟨k _ _ (.inl rfl) e,ih q⟩
 |tbl ps=>
  have e:h.get? a=some {cls:= .none,data:= .fields ps}:=x
  show h'.get? a=some {cls:= .none,data:= .fields ps}
  exact k a _ (.inl rfl) e
 |met f y=>
  have e:h.get? a=some (PySem.W.methodObj (.ref f) (.ref y)):=x
  show h'.get? a=some (PySem.W.methodObj (.ref f) (.ref y))
  exact k a _ (.inl rfl) e
 |ext φ=>obtain⟨p,⟨o,e⟩,st⟩:=x;exact⟨st _ _ p fun o q=>k _ _ (.inl rfl) q,⟨o,k _ _ (.inl rfl) e⟩,st⟩
theorem HOk.lt (x:HOk P w H h) (e:H a=some o):a<h.objs.size:=(x a o e).lt
theorem HOk.fresh (x:HOk P w H h) (e:h.objs.size<=a):H a=none:=by
 cases q:H a with
 |none=>rfl
 |some u=>exact absurd (Nat.lt_of_lt_of_le (x.lt q) e) (Nat.lt_irrefl _)
theorem HOk.kept (x:HOk P w H h) (k:∀b u,h.get? b=some u->h'.get? b=some u):HOk P w H h':=fun a o e=>
 (x a o e).stay (fun b u _ q=>k b u q) (fun _ q=>q) fun _ _ q=>q
theorem HOk.laid (x:HOk P w H h) (k:∀b u,h.get? b=some u->h'.get? b=some u) (hp:h.objs.size<=a) (new:ObjOk P w (upd H a o) h' a o):HOk P w (upd H a o) h':=fun b u e=>by
 have hn:=x.fresh hp
 by_cases hb:b=a
 ·subst hb;rw [upd_same]at e;cases e;exact new
 ·rw [upd_ne hb]at e
  exact(x b u e).stay (fun c v _ q=>k c v q) (fun c q=>by rw [upd_ne (ne_of_none q hn)];exact q) fun c xs q=>by rw [upd_ne (ne_of_none q hn)];exact q
end
def Rd (H:Hp) (a:Addr) (u:HO):Prop:=H a=some u∨∃o,H a=some (.frz o u)
theorem Rd.ok {P:Program} {w:World} {H:Hp} {h:Heap} {a:Addr} {u:HO} (r:Rd H a u) (x:HOk P w H h):ObjOk P w H h a u:=by
 rcases r with r|⟨o,r⟩
 ·exact x a u r
 ·obtain⟨_,q⟩:=x a _ r
  exact q
def Mut:Option HO->Prop
 |some (.lst _)=>True
 |some (.dK _)=>True
 |some (.dT _)=>True
 |some (.set _ _)=>True
 |some (.ins _ _ _)=>True
 |some (.ext _)=>True
 |_=>False
section
variable {P:Program} {w:World} {H:Hp} {h h':Heap} {x e:Addr} {o':HO}
theorem HOk.write (ok:HOk P w H h) (mu:Mut (H x)) (he:e=x∨H e=some (.own x)) (k:∀b u,b≠e->h.get? b=some u->h'.get? b=some u) (heo:∃u,h'.get? e=some u)
  (new:ObjOk P w (upd H x o') h' x o'):HOk P w (upd H x o') h':=fun b u q=>by
 have nown:∀c y,H c=some (.own y)->c≠x:=fun c y r z=>by subst z;rw [r]at mu;exact mu
 have ntup:∀c xs,H c=some (.tup xs)->c≠x:=fun c xs r z=>by subst z;rw [r]at mu;exact mu
 by_cases hb:b=x
 ·subst hb;rw [upd_same]at q;cases q;exact new
 ·rw [upd_ne hb]at q
  by_cases hbe:b=e
  ·have q':H b=some (.own x):=by
    rcases he with z|z
    ·exact absurd (hbe.trans z) hb
    ·rw [hbe];exact z
   rw [q]at q';cases q'
   obtain⟨v,hv⟩:=heo
   exact⟨v,by rw [hbe];exact hv⟩
  ·refine(ok b u q).stay (fun c v hc r=>k c v ?_ r) (fun c r=>by rw [upd_ne (nown c b r)];exact r) fun c xs r=>by rw [upd_ne (ntup c xs r)];exact r
   rcases hc with rfl|hc
   ·exact hbe
   ·rintro rfl
    rcases he with z|z
    ·exact nown c b hc z
    ·rw [hc]at z;cases z;exact hb rfl
end
structure Un (fs ex:List Addr) (H H':Hp) (h h':Heap):Prop where
 keep:∀b o,h.get? b=some o->H b=none->b∉fs->b∉ex->h'.get? b=some o
 slot:∀b o,h.get? b=some o->H b=none->b∈fs->b∉ex->∃sl,h'.get? b=some {o with slots:=sl}
 free:∀b o,h.get? b=some o->H b=none->b∉ex->H' b=none
 there:∀b o,h.get? b=some o->b∉ex->∃o',h'.get? b=some o'
 tups:∀b xs,H b=some (.tup xs)->H' b=some (.tup xs)
 frzs:∀b o u,H b=some (.frz o u)->H' b=some (.frz o u)
 tbls:∀b ps,H b=some (.tbl ps)->∃more,H' b=some (.tbl (ps++more))
section
variable {fs fs' ex ex':List Addr} {H H1 H2:Hp} {h h1 h2 h':Heap} {a x e:Addr} {o:HO}
theorem Un.any (u:Un fs ex H H1 h h1) {b:Addr} {ob:Obj} (q:h.get? b=some ob) (n:H b=none) (hx:b∉ex):∃sl,h1.get? b=some {ob with slots:=sl}:=by
 by_cases hb:b∈fs
 ·exact u.slot b ob q n hb hx
 ·exact⟨ob.slots,u.keep b ob q n hb hx⟩
theorem Un.kept (k:∀b u,h.get? b=some u->h'.get? b=some u):Un fs ex H H h h':=
 ⟨fun b ob q _ _ _=>k b ob q,fun b ob q _ _ _=>⟨ob.slots,k b ob q⟩,fun _ _ _ n _=>n,fun b ob q _=>⟨ob,k b ob q⟩,fun _ _ q=>q,fun _ _ _ q=>q,fun _ ps q=>⟨#[],by rw [q];simp⟩⟩
theorem Un.refl:Un fs ex H H h h:=Un.kept fun _ _ q=>q
theorem Un.laid (k:∀b u,h.get? b=some u->h'.get? b=some u) (hp:h.objs.size<=a) (hn:H a=none):Un fs ex H (upd H a o) h h' where
 keep:=fun b u q _ _ _=>k b u q
 slot:=fun b u q _ _ _=>⟨u.slots,k b u q⟩
 free:=fun b u q n _=>by rw [upd_ne (Nat.ne_of_lt (Nat.lt_of_lt_of_le (Heap.lt_size q) hp))];exact n
 there:=fun b u q _=>⟨u,k b u q⟩
 tups:=fun b xs q=>by rw [upd_ne (ne_of_none q hn)];exact q
 frzs:=fun b u xs q=>by rw [upd_ne (ne_of_none q hn)];exact q
 tbls:=fun b ps q=>⟨#[],by rw [upd_ne (ne_of_none q hn),q];simp⟩
theorem Un.write (mu:Mut (H x)) (he:e=x∨H e=some (.own x)) (k:∀b u,b≠e->h.get? b=some u->h'.get? b=some u) (heo:∃u,h'.get? e=some u):Un fs ex H (upd H x o) h h':=by
 have hx:∀b,H b=none->b≠x:=fun b n z=>by subst z;rw [n]at mu;exact mu
 have hb:∀b,H b=none->b≠e:=fun b n z=>by
  subst z
  rcases he with r|r
  ·exact hx b n r
  ·rw [n]at r;cases r
 have hm:∀b u,H b=some u->¬Mut (some u)->b≠x:=fun b u q nm z=>by subst z;rw [q]at mu;exact nm mu
 refine⟨fun b u q n _ _=>k b u (hb b n) q,fun b u q n _ _=>⟨u.slots,k b u (hb b n) q⟩,fun b u q n _=>by rw [upd_ne (hx b n)];exact n,fun b u q _=>?_,
  fun b xs q=>by rw [upd_ne (hm b _ q fun z=>z)];exact q,fun b u xs q=>by rw [upd_ne (hm b _ q fun z=>z)];exact q,fun b ps q=>⟨#[],by rw [upd_ne (hm b _ q fun z=>z),q];simp⟩⟩
 by_cases hbe:b=e
 ·subst hbe;exact heo
 ·exact⟨u,k b u hbe q⟩
end
def trk (h:Heap) (H:Hp):List Addr:=(List.range h.objs.size).filter fun a=>(H a).isSome
def hidT (h:Heap) (H:Hp):Heap:=PySem.W.hideAll h (trk h H)
theorem hidT_size (h:Heap) (H:Hp):(hidT h H).objs.size=h.objs.size:=PySem.W.hideAll_size _ _
theorem hidT_get {h:Heap} {H:Hp} {b:Addr} {o:Obj} (e:h.get? b=some o) (n:H b=none):(hidT h H).get? b=some o:=
 PySem.W.hideAll_get _ e fun hm=>by
  have q:(H b).isSome=true:=(List.mem_filter.mp hm).2
  rw [n]at q;simp at q
theorem of_hidT {h:Heap} {H:Hp} {b:Addr} {o:Obj} (e:(hidT h H).get? b=some o):h.get? b=some o/\H b=none:=by
 have e':h.get? b=some o:=PySem.W.of_hideAll (trk h H) e
 refine⟨e',?_⟩
 cases q:H b with
 |none=>rfl
 |some x=>
  have hm:b∈trk h H:=List.mem_filter.mpr ⟨List.mem_range.mpr (Heap.lt_size e'),by simp [q]⟩
  have z:(hidT h H).get? b=none:=PySem.W.hideAll_none (trk h H) hm
  rw [z]at e;cases e
end L2
namespace L2
open PySem PySem.Spec PyProof.Rows
structure Mod (K:PySem.W.Frag) (mg:Str->Option Value) (base:Heap):Prop where
 kin:K.In base
 glob:base.Ns mainGlobals mg
 blt:∃mb,base.Ns builtinsNs mb/\∀x:Str,x≠"__name__"->mb x=bootBuiltins x
 nolimit:base.NoLimit
structure Cx where
 prog:Program
 w:World
 K:PySem.W.Frag
 mg:Str->Option Value
 base:Heap
 A:Around
 N:List Str
 s₀:Shared
 H₀:Hp
 env:Env
 outer:List Env
 stack:List Env
 ex:List Addr
 fn:Str->Bool
 calm:Bool
 pn:List (Addr×Obj)
 xe:Value->Shared->Prop
def frs (l:List Env):List Addr:=l.filterMap (·.frame)
abbrev Cx.fs (X:Cx):List Addr:=frs X.outer
def Vis (sc:Scope) (x:Str):Prop:=sc.names.lookup x=some .local∨sc.names.lookup x=some .cell∨sc.names.lookup x=some .free
def Loc (sc:Scope) (x:Str):Prop:=sc.names.lookup x=some .local∨sc.names.lookup x=some .cell
def Look (env:Env) (h:Heap) (m:Str->Option Value) (x:Str) (u:Value):Prop:=
 (env.kindOf x=some .local/\m x=some u)∨((env.kindOf x=some .cell∨env.kindOf x=some .free)/\∃c,env.cells.lookup x=some c/\h.IsCell c (some u))
structure Cx.Ok (X:Cx):Prop where
 mod:Mod X.K X.mg X.base
 kind:X.env.scope.kind= .function
 glob:X.env.globals=mainGlobals
 blt:X.env.builtins=builtinsNs
 above:X.s₀.heap.objs.size<=X.env.locals
 inj:∀x y c,X.env.cells.lookup x=some c->X.env.cells.lookup y=some c->x=y
 has:∀x,(X.env.kindOf x=some .cell∨X.env.kindOf x=some .free)->∃c,X.env.cells.lookup x=some c
 cab:∀x c,X.fn x=true->X.env.cells.lookup x=some c->X.s₀.heap.objs.size<=c
 hd:X.calm=true->X.A.handled=none
 frames:X.A.frames=some X.stack
 stk:X.stack=X.outer∨(X.stack=X.env::X.outer/\X.env.frame=some X.env.locals)
 exf:∀b∈X.ex,b≠X.env.locals/\∀x c,X.env.cells.lookup x=some c->c≠b
 bs:∀b o,X.base.get? b=some o->X.s₀.heap.get? b=some o/\X.H₀ b=none
 bsz:X.base.objs.size<=X.s₀.heap.objs.size
 noex:∀b o,X.base.get? b=some o->b∉X.ex
 exfs:∀b∈X.ex,b∉X.fs
 funs:X.s₀.heap.FunFrames X.base X.outer
 frf:∀b∈X.fs,X.H₀ b=none
structure Inv (X:Cx) (pins:List (Addr×Obj)) (σ:List (Option V)) (H:Hp) (s:Shared):Prop where
 ok:X.Ok
 os:s.os=X.s₀.os
 bare:AllBare s.gens
 base:Un X.fs X.ex X.H₀ H X.s₀.heap s.heap
 loc:∃m,s.heap.Ns X.env.locals m/\∀(i:Nat) (x:Str) (v:V),X.N[i]? =some x->σ[i]? =some (some v)->Vis X.env.scope x->∃u,RelV v u/\Look X.env s.heap m x u
 cell:∀x c,X.env.cells.lookup x=some c->∃v,s.heap.IsCell c v
 free:H X.env.locals=none
 freeC:∀x c,X.env.cells.lookup x=some c->H c=none
 pin:∀p∈X.pn++pins,s.heap.get? p.1=some p.2/\H p.1=none/\p.1≠X.env.locals/\p.1∉X.fs/\∀v,p.2.data≠ .cell v
 hok:HOk X.prog X.w H s.heap
 len:σ.length=X.N.length
section
variable {X:Cx} {pins:List (Addr×Obj)} {σ:List (Option V)} {H H':Hp} {s:Shared} {h':Heap}
theorem Cx.Ok.nofr (ok:X.Ok) {b:Addr} {o:Obj} (e:X.base.get? b=some o):b∉X.fs:=fun hb=>by
 have:=(ok.funs.mem hb).1
 rw [e]at this;cases this
theorem Inv.bs (I:Inv X pins σ H s):∀b o,X.base.get? b=some o->s.heap.get? b=some o/\H b=none:=fun b o e=>
 ⟨I.base.keep b o (I.ok.bs b o e).1 (I.ok.bs b o e).2 (I.ok.nofr e) (I.ok.noex b o e),I.base.free b o (I.ok.bs b o e).1 (I.ok.bs b o e).2 (I.ok.noex b o e)⟩
theorem Inv.bk (I:Inv X pins σ H s):∀b o,X.base.get? b=some o->s.heap.get? b=some o:=fun b o e=>(I.bs b o e).1
theorem Inv.mod (I:Inv X pins σ H s):Mod X.K X.mg X.base:=I.ok.mod
theorem Inv.kIn (I:Inv X pins σ H s):X.K.In s.heap:=I.ok.mod.kin.keeps I.bk
theorem Inv.lt (I:Inv X pins σ H s):X.env.locals<s.heap.objs.size:=let⟨_,hn,_⟩:=I.loc;hn.lt
theorem Inv.sz (I:Inv X pins σ H s):X.s₀.heap.objs.size<=s.heap.objs.size:=Nat.le_trans I.ok.above (Nat.le_of_lt I.lt)
theorem Inv.nofs (I:Inv X pins σ H s) {a:Addr} (h:s.heap.objs.size<=a):a∉X.fs:=fun hb=>by
 obtain⟨_,o,ho,_⟩:=I.ok.funs.mem hb
 exact absurd (Nat.lt_of_lt_of_le (Heap.lt_size ho) (Nat.le_trans I.sz h)) (Nat.lt_irrefl _)
theorem Inv.cne (I:Inv X pins σ H s):∀x c,X.env.cells.lookup x=some c->c≠X.env.locals:=fun x c e z=>by
 obtain⟨v,o,ho,hd⟩:=I.cell x c e
 obtain⟨m,⟨o',es,ep,ho',hd',_⟩,_⟩:=I.loc
 rw [z,ho']at ho;cases ho;rw [hd']at hd;cases hd
theorem Inv.funs (I:Inv X pins σ H s):s.heap.FunFrames X.base X.outer:=by
 have all:∀(l:List Env),(∀b∈frs l,b∈X.fs)->X.s₀.heap.FunFrames X.base l->s.heap.FunFrames X.base l:=by
  intro l
  induction l with
  |nil=>intro _ _;trivial
  |cons env r ih=>
   intro hs hl
   obtain⟨hk,⟨L,o,hf,hn,ho,hd⟩,hr⟩:=hl
   have hL:L∈X.fs:=hs L (by unfold frs;rw [List.filterMap_cons,hf];exact List.mem_cons_self)
   obtain⟨sl,e⟩:=I.base.slot L o ho (I.ok.frf L hL) hL fun z=>I.ok.exfs L z hL
   exact⟨hk,⟨L,_,hf,hn,e,hd⟩,ih (fun b hb=>hs b (by unfold frs;rw [List.filterMap_cons,hf];exact List.mem_cons_of_mem _ hb)) hr⟩
 exact all X.outer (fun _ hb=>hb) I.ok.funs
theorem Inv.stack (I:Inv X pins σ H s):s.heap.FunFrames X.base X.stack:=by
 rcases I.ok.stk with e|⟨e,hf⟩
 ·rw [e];exact I.funs
 ·rw [e]
  obtain⟨m,hn,_⟩:=I.loc
  refine .cons (by rw [I.ok.kind];decide) hf hn ?_ I.funs
  exact Heap.get?_none_of_le (Nat.le_trans I.ok.bsz I.ok.above)
theorem Inv.stkSub (I:Inv X pins σ H s):∀b∈frs X.stack,b∈X.env.locals::X.fs:=fun b hb=>by
 rcases I.ok.stk with e|⟨e,hf⟩
 ·rw [e]at hb;exact List.mem_cons_of_mem _ hb
 ·rw [e]at hb
  unfold frs at hb
  rw [List.filterMap_cons,hf]at hb
  exact hb
theorem Inv.stkFree (I:Inv X pins σ H s):∀b∈frs X.stack,H b=none:=fun b hb=>by
 rcases List.mem_cons.mp (I.stkSub b hb)with e|hb
 ·rw [e];exact I.free
 ·obtain⟨_,o,ho,_⟩:=I.ok.funs.mem hb
  exact I.base.free b o ho (I.ok.frf b hb) fun z=>I.ok.exfs b z hb
theorem Inv.step {g':Array GenState} {t':Nat} {d':Drawn} {ch:List Addr} (I:Inv X pins σ H s)
  (hch:∀b∈ch,(b∈X.ex∨X.s₀.heap.objs.size<=b)/\b≠X.env.locals/\(∀x c,X.env.cells.lookup x=some c->c≠b)/\∀p∈X.pn++pins,p.1≠b)
  (keep:∀b o,b≠X.env.locals->b∉X.fs->b∉ch->s.heap.get? b=some o->H b=none->h'.get? b=some o)
  (slot:∀b o,b≠X.env.locals->b∈X.fs->b∉ch->s.heap.get? b=some o->H b=none->∃sl,h'.get? b=some {o with slots:=sl}) (free:∀b o,b∉ch->s.heap.get? b=some o->H b=none->H' b=none)
  (there:∀b o,b∉ch->s.heap.get? b=some o->∃o',h'.get? b=some o')
  (tups:∀b xs,H b=some (.tup xs)->H' b=some (.tup xs)) (frzs:∀b o u,H b=some (.frz o u)->H' b=some (.frz o u)) (tbls:∀b ps,H b=some (.tbl ps)->∃more,H' b=some (.tbl (ps++more)))
  (ns:∀m,s.heap.Ns X.env.locals m->h'.Ns X.env.locals m) (hok:HOk X.prog X.w H' h') (hg:AllBare g'):
  Inv X pins σ H' {s with heap:=h',gens:=g',drawn:=d',toks:=t'}:=by
 have neL:∀b o,X.s₀.heap.get? b=some o->b≠X.env.locals:=fun b o e=>Nat.ne_of_lt (Nat.lt_of_lt_of_le (Heap.lt_size e) I.ok.above)
 have neC:∀b o,X.s₀.heap.get? b=some o->b∉X.ex->b∉ch:=fun b o e hx hb=>by
  rcases (hch b hb).1 with z|z
  ·exact hx z
  ·exact absurd (Nat.lt_of_lt_of_le (Heap.lt_size e) z) (Nat.lt_irrefl _)
 have cellK:∀x c,X.env.cells.lookup x=some c->∀v,s.heap.IsCell c v->h'.IsCell c v:=fun x c e v ⟨o,ho,hd⟩=>by
  have nch:c∉ch:=fun z=>(hch c z).2.2.1 x c e rfl
  by_cases hc:c∈X.fs
  ·obtain⟨sl,q⟩:=slot c o (I.cne x c e) hc nch ho (I.freeC x c e)
   exact⟨_,q,hd⟩
  ·exact⟨o,keep c o (I.cne x c e) hc nch ho (I.freeC x c e),hd⟩
 refine⟨I.ok,I.os,hg,⟨fun b o e n hb hx=>?_,fun b o e n hb hx=>?_,fun b o e n hx=>?_,fun b o e hx=>?_,fun b xs e=>tups b xs (I.base.tups b xs e),fun b o xs e=>frzs b o xs (I.base.frzs b o xs e),fun b ps e=>?_⟩,?_,fun x c e=>?_,?_,fun x c e=>?_,fun p hp=>?_,hok,I.len⟩
 ·exact keep b o (neL b o e) hb (neC b o e hx) (I.base.keep b o e n hb hx) (I.base.free b o e n hx)
 ·obtain⟨sl,e1⟩:=I.base.slot b o e n hb hx
  obtain⟨sl',e2⟩:=slot b _ (neL b o e) hb (neC b o e hx) e1 (I.base.free b o e n hx)
  exact⟨sl',e2⟩
 ·obtain⟨o',e1⟩:=I.base.there b o e hx
  exact free b o' (neC b o e hx) e1 (I.base.free b o e n hx)
 ·obtain⟨o',e1⟩:=I.base.there b o e hx
  exact there b o' (neC b o e hx) e1
 ·obtain⟨m1,e1⟩:=I.base.tbls b ps e
  obtain⟨m2,e2⟩:=tbls b _ e1
  exact⟨m1++m2,by rw [e2,Array.append_assoc]⟩
 ·obtain⟨m,hn,hl⟩:=I.loc
  refine⟨m,ns m hn,fun i x v e1 e2 e3=>?_⟩
  obtain⟨u,r,l⟩:=hl i x v e1 e2 e3
  refine⟨u,r,?_⟩
  rcases l with l|⟨k,c,e,z⟩
  ·exact .inl l
  ·exact .inr ⟨k,c,e,cellK x c e _ z⟩
 ·obtain⟨v,z⟩:=I.cell x c e
  exact⟨v,cellK x c e v z⟩
 ·obtain⟨m,⟨o,_,_,ho,_⟩,_⟩:=I.loc
  exact free _ o (fun z=>(hch _ z).2.1 rfl) ho I.free
 ·obtain⟨v,o,ho,hd⟩:=I.cell x c e
  exact free c o (fun z=>(hch c z).2.2.1 x c e rfl) ho (I.freeC x c e)
 ·obtain⟨e,n,ne,nf,d⟩:=I.pin p hp
  have nch:p.1∉ch:=fun z=>(hch p.1 z).2.2.2 p hp rfl
  exact⟨keep p.1 p.2 ne nf nch e n,free p.1 p.2 nch e n,ne,nf,d⟩
theorem Inv.un {t':Nat} (I:Inv X pins σ H s) (u:Un X.fs [] H H' s.heap h') (hok:HOk X.prog X.w H' h'):Inv X pins σ H' {s with heap:=h',toks:=t'}:=by
 obtain⟨m,⟨o,es,ep,ho,r⟩,_⟩:=id I.loc
 obtain⟨sl,hL⟩:=u.any ho I.free (by simp)
 exact I.step (g':=s.gens) (d':=s.drawn) (ch:=[]) (fun _ z=>nomatch z) (fun b o _ hb _ e n=>u.keep b o e n hb (by simp)) (fun b o _ hb _ e n=>u.slot b o e n hb (by simp)) (fun b o _ e n=>u.free b o e n (by simp)) (fun b o _ e=>u.there b o e (by simp)) u.tups u.frzs u.tbls (fun m' hm=>by
  obtain⟨o',es',ep',ho',r'⟩:=hm
  rw [ho]at ho';cases ho'
  exact⟨_,es',ep',hL,r'⟩) hok I.bare
theorem Inv.call {g':Array GenState} {t':Nat} {d':Drawn} {ch:List Addr} (I:Inv X pins σ H s) (u:Un (frs X.stack) ch H H' s.heap h') (hok:HOk X.prog X.w H' h') (hg:AllBare g')
  (hch:∀b∈ch,(b∈X.ex∨X.s₀.heap.objs.size<=b)/\b≠X.env.locals/\(∀x c,X.env.cells.lookup x=some c->c≠b)/\∀p∈X.pn++pins,p.1≠b):
  Inv X pins σ H' {s with heap:=h',gens:=g',drawn:=d',toks:=t'}:=by
 obtain⟨m,⟨o,es,ep,ho,r⟩,_⟩:=id I.loc
 obtain⟨sl,hL⟩:=u.any ho I.free fun z=>(hch _ z).2.1 rfl
 exact I.step (ch:=ch) hch (fun b o hL hb hc e n=>u.keep b o e n (fun z=>(List.mem_cons.mp (I.stkSub b z)).elim hL hb) hc) (fun b o _ _ hc e n=>u.any e n hc) (fun b o hc e n=>u.free b o e n hc) (fun b o hc e=>u.there b o e hc) u.tups u.frzs u.tbls (fun m' hm=>by
  obtain⟨o',es',ep',ho',r'⟩:=hm
  rw [ho]at ho';cases ho'
  exact⟨_,es',ep',hL,r'⟩) hok hg
theorem Inv.turned {t':Nat} {it:Addr} (I:Inv X pins σ H s) (k:∀b o,b≠it->s.heap.get? b=some o->h'.get? b=some o) (hn:H it=none) (hL:it≠X.env.locals)
  (h1:it∈X.ex∨X.s₀.heap.objs.size<=it) (h2:∀x c,X.env.cells.lookup x=some c->c≠it) (h3:∀p∈X.pn++pins,p.1≠it):Inv X pins σ H {s with heap:=h',toks:=t'}:=by
 have nit:∀b u,H b=some u->b≠it:=fun b u e z=>by rw [z,hn]at e;cases e
 refine I.step (g':=s.gens) (d':=s.drawn) (ch:=[it]) (fun b hb=>?_) (fun b o _ _ hc e _=>k b o (fun z=>hc (by simp [z])) e) (fun b o _ _ hc e _=>⟨o.slots,k b o (fun z=>hc (by simp [z])) e⟩) (fun _ _ _ _ n=>n)
  (fun b o hc e=>⟨o,k b o (fun z=>hc (by simp [z])) e⟩) (fun _ _ e=>e) (fun _ _ _ e=>e) (fun b ps e=>⟨#[],by rw [e];simp⟩) (fun m hm=>?_) (fun b u e=>?_) I.bare
 ·have e:b=it:=by simpa using hb
  subst e
  exact⟨h1,hL,h2,h3⟩
 ·obtain⟨o,es,ep,ho,r⟩:=hm
  exact⟨o,es,ep,k _ o (Ne.symm hL) ho,r⟩
 ·refine(I.hok b u e).stay (fun c v hc q=>k c v ?_ q) (fun _ q=>q) fun _ _ q=>q
  rcases hc with z|z
  ·rw [z];exact nit b u e
  ·exact nit c _ z
theorem Inv.tok (I:Inv X pins σ H s) (t:Nat):Inv X pins σ H {s with toks:=t}:=I.un (h':=s.heap) (t':=t) Un.refl I.hok
theorem Inv.kept {t':Nat} (I:Inv X pins σ H s) (k:∀b u,s.heap.get? b=some u->h'.get? b=some u):Inv X pins σ H {s with heap:=h',toks:=t'}:=I.un (Un.kept k) (I.hok.kept k)
theorem Inv.laid {a:Addr} {o:HO} {t':Nat} (I:Inv X pins σ H s) (k:∀b u,s.heap.get? b=some u->h'.get? b=some u) (hp:s.heap.objs.size<=a) (new:ObjOk X.prog X.w (upd H a o) h' a o):
  Inv X pins σ (upd H a o) {s with heap:=h',toks:=t'}:=I.un (Un.laid k hp (I.hok.fresh hp)) (I.hok.laid k hp new)
theorem Inv.write {x e:Addr} {o:HO} {t':Nat} (I:Inv X pins σ H s) (mu:Mut (H x)) (he:e=x∨H e=some (.own x)) (k:∀b u,b≠e->s.heap.get? b=some u->h'.get? b=some u) (heo:∃u,h'.get? e=some u)
  (new:ObjOk X.prog X.w (upd H x o) h' x o):Inv X pins σ (upd H x o) {s with heap:=h',toks:=t'}:=I.un (Un.write mu he k heo) (I.hok.write mu he k heo new)
theorem Inv.pins_of {pins':List (Addr×Obj)} (I:Inv X pins σ H s) (h:∀p∈pins',s.heap.get? p.1=some p.2/\H p.1=none/\p.1≠X.env.locals/\p.1∉X.fs/\∀v,p.2.data≠ .cell v):Inv X pins' σ H s:=
 ⟨I.ok,I.os,I.bare,I.base,I.loc,I.cell,I.free,I.freeC,fun p hp=>(List.mem_append.mp hp).elim (fun z=>I.pin p (List.mem_append_left _ z)) (h p),I.hok,I.len⟩
theorem nodup_ix {N:List Str} (hN:N.Nodup) {i j:Nat} {x:Str} (a:N[i]? =some x) (b:N[j]? =some x):i=j:=by
 obtain⟨h1,e1⟩:=List.getElem?_eq_some_iff.mp a
 obtain⟨h2,e2⟩:=List.getElem?_eq_some_iff.mp b
 exact(List.getElem_inj hN).mp (e1.trans e2.symm)
theorem store_ok2 {M:Model} {A:Around} {E:Value->Shared->Prop} {i:Nat} {x:Str} {v:V} {u:Value} {Q:Unit->Shared->Prop} (I:Inv X pins σ H s) (hN:X.N.Nodup) (hi:X.N[i]? =some x) (hx:Loc X.env.scope x) (r:RelV v u)
  (h:∀s',Inv X pins (σ.set i (some v)) H s'->(∃a,Heap.SameBut a s.heap s'.heap/\(a=X.env.locals∨X.env.cells.lookup x=some a))->Q () s') (hf:X.fn x=true∨X.env.scope.names.lookup x=some .local:=by first|exact .inl rfl|exact .inr rfl|assumption):wpAny M A (storeName X.env x u) Q E s:=by
 obtain⟨m,hn,hl⟩:=id I.loc
 have hcls:(X.env.scope.kind== .class || (X.env.scope.kind== .module && X.env.locals != X.env.globals))=false:=by rw [I.ok.kind];rfl
 have hiσ:i<σ.length:=by rw [I.len];exact(List.getElem?_eq_some_iff.mp hi).1
 have cne:=I.cne
 have tracked:∀{a:Addr} {h':Heap},(∃o,s.heap.get? a=some o/\H a=none)->Heap.SameBut a s.heap h'->HOk X.prog X.w H h':=fun{a h'} ha hs b ob e=>by
  obtain⟨_,_,hfree⟩:=ha
  refine(I.hok b ob e).stay (fun c w' hc q=>(hs.2 c ?_).trans q) (fun _ q=>q) fun _ _ q=>q
  rintro rfl
  rcases hc with rfl|hc
  ·rw [hfree]at e;cases e
  ·rw [hfree]at hc;cases hc
 rcases hx with hk|hk
 ·refine wpAny_storeName_local hk hn (fun h' hn' hs=>?_) hcls
  obtain⟨oL,_,_,hoL,_⟩:=id hn
  refine h _ ⟨I.ok,I.os,I.bare,⟨fun b o e n hb hx=>?_,fun b o e n hb hx=>?_,I.base.free,fun b o e hx=>?_,I.base.tups,I.base.frzs,I.base.tbls⟩,⟨_,hn',fun j y v' e1 e2 e3=>?_⟩,fun y c e=>?_,I.free,I.freeC,fun p hp=>?_,tracked ⟨oL,hoL,I.free⟩ hs,by simpa using I.len⟩ ⟨_,hs,.inl rfl⟩
  ·exact(hs.2 b (Nat.ne_of_lt (Nat.lt_of_lt_of_le (Heap.lt_size e) I.ok.above))).trans (I.base.keep b o e n hb hx)
  ·obtain⟨sl,e1⟩:=I.base.slot b o e n hb hx
   exact⟨sl,(hs.2 b (Nat.ne_of_lt (Nat.lt_of_lt_of_le (Heap.lt_size e) I.ok.above))).trans e1⟩
  ·obtain⟨o',e1⟩:=I.base.there b o e hx
   exact⟨o',(hs.2 b (Nat.ne_of_lt (Nat.lt_of_lt_of_le (Heap.lt_size e) I.ok.above))).trans e1⟩
  ·by_cases hj:j=i
   ·subst hj
    rw [hi]at e1;cases e1
    rw [List.getElem?_set_self hiσ]at e2
    cases e2
    exact⟨u,r,.inl ⟨hk,by simp⟩⟩
   ·rw [List.getElem?_set_ne (Ne.symm hj)]at e2
    obtain⟨u',r',q⟩:=hl j y v' e1 e2 e3
    refine⟨u',r',?_⟩
    rcases q with ⟨k,e⟩|⟨k,c,e,z⟩
    ·refine .inl ⟨k,?_⟩
     have:y≠x:=fun e=>hj (nodup_ix hN e1 (e▸hi))
     simp [this,e]
    ·exact .inr ⟨k,c,e,z.sameBut hs (cne y c e)⟩
  ·obtain⟨w',z⟩:=I.cell y c e
   exact⟨w',z.sameBut hs (cne y c e)⟩
  ·obtain⟨e,n,ne,nf,d⟩:=I.pin p hp
   exact⟨(hs.2 p.1 ne).trans e,n,ne,nf,d⟩
 ·have hfn:X.fn x=true:=by
   rcases hf with z|z
   ·exact z
   ·rw [z]at hk;cases hk
  obtain⟨c,hc⟩:=I.ok.has x (.inl hk)
  obtain⟨w',z⟩:=I.cell x c hc
  refine wpAny_storeName_cell I.ok.kind hk hc z (fun h' hc' hs=>?_)
  obtain⟨oc,hoc,hocd⟩:=id z
  refine h {s with heap:=h'} ⟨I.ok,I.os,I.bare,⟨fun b o e n hb hx=>?_,fun b o e n hb hx=>?_,I.base.free,fun b o e hx=>?_,I.base.tups,I.base.frzs,I.base.tbls⟩,⟨m,hn.sameBut hs (Ne.symm (cne x c hc)),fun j y v' e1 e2 e3=>?_⟩,fun y c' e=>?_,I.free,I.freeC,fun p hp=>?_,tracked ⟨oc,hoc,I.freeC x c hc⟩ hs,by simpa using I.len⟩ ⟨c,hs,.inr hc⟩
  ·exact(hs.2 b (Nat.ne_of_lt (Nat.lt_of_lt_of_le (Heap.lt_size e) (I.ok.cab x c hfn hc)))).trans (I.base.keep b o e n hb hx)
  ·obtain⟨sl,e1⟩:=I.base.slot b o e n hb hx
   exact⟨sl,(hs.2 b (Nat.ne_of_lt (Nat.lt_of_lt_of_le (Heap.lt_size e) (I.ok.cab x c hfn hc)))).trans e1⟩
  ·obtain⟨o',e1⟩:=I.base.there b o e hx
   exact⟨o',(hs.2 b (Nat.ne_of_lt (Nat.lt_of_lt_of_le (Heap.lt_size e) (I.ok.cab x c hfn hc)))).trans e1⟩
  ·by_cases hj:j=i
   ·subst hj
    rw [hi]at e1;cases e1
    rw [List.getElem?_set_self hiσ]at e2
    cases e2
    exact⟨u,r,.inr ⟨.inl hk,c,hc,hc'⟩⟩
   ·rw [List.getElem?_set_ne (Ne.symm hj)]at e2
    obtain⟨u',r',q⟩:=hl j y v' e1 e2 e3
    refine⟨u',r',?_⟩
    rcases q with q|⟨k,c',e,z'⟩
    ·exact .inl q
    ·refine .inr ⟨k,c',e,z'.sameBut hs ?_⟩
     rintro rfl
     exact hj (nodup_ix hN e1 (I.ok.inj _ _ _ e hc▸hi))
  ·by_cases hcc:c'=c
   ·subst hcc;exact⟨_,hc'⟩
   ·obtain⟨w2,z2⟩:=I.cell y c' e
    exact⟨w2,z2.sameBut hs hcc⟩
  ·obtain⟨e,n,ne,nf,d⟩:=I.pin p hp
   refine⟨(hs.2 p.1 ?_).trans e,n,ne,nf,d⟩
   intro q
   rw [q,hoc]at e
   have q':oc=p.2:=Option.some.inj e
   exact d w' (by rw [<-q'];exact hocd)
theorem store_ok {M:Model} {A:Around} {E:Value->Shared->Prop} {i:Nat} {x:Str} {v:V} {u:Value} {Q:Unit->Shared->Prop} (I:Inv X pins σ H s) (hN:X.N.Nodup) (hi:X.N[i]? =some x) (hx:Loc X.env.scope x) (r:RelV v u)
  (h:∀s',Inv X pins (σ.set i (some v)) H s'->Q () s') (hf:X.fn x=true∨X.env.scope.names.lookup x=some .local:=by first|exact .inl rfl|exact .inr rfl|assumption):wpAny M A (storeName X.env x u) Q E s:=
 store_ok2 I hN hi hx r (fun s' I' _=>h s' I') hf
theorem Inv.call' {s':Shared} {ch:List Addr} (I:Inv X pins σ H s) (ho:s'.os=s.os) (u:Un (frs X.stack) ch H H' s.heap s'.heap) (hok:HOk X.prog X.w H' s'.heap) (hg:AllBare s'.gens)
  (hch:∀b∈ch,(b∈X.ex∨X.s₀.heap.objs.size<=b)/\b≠X.env.locals/\(∀x c,X.env.cells.lookup x=some c->c≠b)/\∀p∈X.pn++pins,p.1≠b):Inv X pins σ H' s':=by
 obtain⟨h',g',d',t',o'⟩:=s'
 have e:o'=s.os:=ho
 subst e
 exact I.call (g':=g') (t':=t') (d':=d') u hok hg hch
end
abbrev XK:=Value->Option Addr->Hp->Prop
abbrev St:=List (Option V)
abbrev VK:=V->Hp->Prop
abbrev TE:=St->Hp->VK->Prop
abbrev TT:=St->Hp->(Bool->Hp->Prop)->Prop
abbrev TA:=St->Hp->(List V->Hp->Prop)->Prop
structure Ends where
 nx:St->Hp->Prop
 rt:VK
 bk:St->Hp->Prop:=fun _ _=>False
 ct:St->Hp->Prop:=fun _ _=>False
abbrev TS:=Ends->St->Hp->Prop
def EP (X:Cx) (pins:List (Addr×Obj)) (σ:St) (Q:VK) (u:Value) (s':Shared):Prop:=∃v H',Inv X pins σ H' s'/\RelV v u/\Q v H'
def TP (X:Cx) (pins:List (Addr×Obj)) (σ:St) (Q:Bool->Hp->Prop) (b:Bool) (s':Shared):Prop:=∃H',Inv X pins σ H' s'/\Q b H'
def AP (X:Cx) (pins:List (Addr×Obj)) (σ:St) (Q:List V->Hp->Prop) (us:List Value) (s':Shared):Prop:=∃vs H',Inv X pins σ H' s'/\Vals vs us/\Q vs H'
def SP (X:Cx) (pins:List (Addr×Obj)) (D:Ends) (f:Flow) (s':Shared):Prop:=
 match f with
 | .next=>∃σ' H',Inv X pins σ' H' s'/\D.nx σ' H'
 | .brk=>∃σ' H',Inv X pins σ' H' s'/\D.bk σ' H'
 | .cont=>∃σ' H',Inv X pins σ' H' s'/\D.ct σ' H'
 | .ret u=>∃v σ' H',Inv X pins σ' H' s'/\RelV v u/\D.rt v H'
def PE (X:Cx) (e:Expr) (t:TE):Prop:=
 ∀(pins:List (Addr×Obj)) (s:Shared) (σ:St) (H:Hp) (Q:VK),Inv X pins σ H s->t σ H Q->wpAny (model X.prog X.w) X.A (eval e X.env) (EP X pins σ Q) X.xe s
def PT (X:Cx) (e:Expr) (t:TT):Prop:=
 ∀(pins:List (Addr×Obj)) (s:Shared) (σ:St) (H:Hp) (Q:Bool->Hp->Prop),Inv X pins σ H s->t σ H Q->wpAny (model X.prog X.w) X.A (isTrue e X.env (eval e X.env)) (TP X pins σ Q) X.xe s
def PW (X:Cx) (e:Expr) (t:TT):Prop:=
 ∀(whole:Sem Value) (pins:List (Addr×Obj)) (s:Shared) (σ:St) (H:Hp) (Q:Bool->Hp->Prop),Inv X pins σ H s->t σ H Q->wpAny (model X.prog X.w) X.A (isTrue e X.env whole) (TP X pins σ Q) X.xe s
theorem PW.pt {X:Cx} {e:Expr} {t:TT} (h:PW X e t):PT X e t:=h _
def PA (X:Cx) (es:List Expr) (t:TA):Prop:=
 ∀(pos:Pos) (pins:List (Addr×Obj)) (s:Shared) (σ:St) (H:Hp) (Q:List V->Hp->Prop),Inv X pins σ H s->t σ H Q->wpAny (model X.prog X.w) X.A (spliced (backTo pos (starEach es X.env))) (AP X pins σ Q) X.xe s
def PS (X:Cx) (st:Stmt) (t:TS):Prop:=
 ∀(pins:List (Addr×Obj)) (s:Shared) (σ:St) (H:Hp) (D:Ends),Inv X pins σ H s->t D σ H->wpAny (model X.prog X.w) X.A (exec st X.env) (SP X pins D) X.xe s
def PSs (X:Cx) (st:List Stmt) (t:TS):Prop:=
 ∀(pins:List (Addr×Obj)) (s:Shared) (σ:St) (H:Hp) (D:Ends),Inv X pins σ H s->t D σ H->wpAny (model X.prog X.w) X.A (execs st X.env) (SP X pins D) X.xe s
theorem thn {α:Type} {t:Sem α} {Q Q':α->Shared->Prop} {M:Model} {A:Around} {E:Value->Shared->Prop} {s:Shared} (h:wpAny M A t Q E s) (hQ:∀a s,Q a s->Q' a s):wpAny M A t Q' E s:=wpAny_mono h hQ fun _ _ x=>x
end L2
namespace L2
open PySem PySem.Spec PyProof.Rows
section
variable {X:Cx}
def tVar (i:Nat):TE:=fun σ H Q=>∃v,σ[i]? =some (some v)/\Q v H
def tC (v:V):TE:=fun _ H Q=>Q v H
theorem pe_var {i:Nat} {x:Str} {pos:Pos} (hN:X.N[i]? =some x) (hv:Vis X.env.scope x) (hd:(x==("__debug__":Str))=false:=by decide) (hcd:(x==("__classdict__":Str))=false:=by decide):PE X (.Name x pos) (tVar i):=by
 intro pins s σ H Q I h
 obtain⟨v,e,h⟩:=h
 obtain⟨m,hn,hl⟩:=I.loc
 obtain⟨u,r,l⟩:=hl i x v hN e hv
 have fin:EP X pins σ Q u s:=⟨v,H,I,r,h⟩
 rcases l with ⟨hk,hm⟩|⟨hk,c,hc,hcell⟩
 ·exact wpAny_Name (wpAny_loadName_local I.ok.kind hk hn hm fin) hd
 ·rcases hk with hk|hk
  ·exact wpAny_Name (wpAny_loadName_cell I.ok.kind hk hc hcell fin) hd
  ·exact wpAny_Name (wpAny_loadName_free I.ok.kind hk hc hcell fin hcd) hd
theorem pe_int {i j pos}:PE X (.Constant (.int i) j pos) (tC (.int i)):=fun _ _ _ H _ I h=>wpAny_Constant_int ⟨.int i,H,I.tok _,⟨_,rfl⟩,h⟩
theorem pe_bl {b j pos}:PE X (.Constant (.bool b) j pos) (tC (.bl b)):=fun _ _ _ H _ I h=>Constant_bool ⟨.bl b,H,I,rfl,h⟩
theorem pe_non {j pos}:PE X (.Constant .none j pos) (tC .non):=fun _ _ _ H _ I h=>Constant_none ⟨.non,H,I,rfl,h⟩
theorem pe_str {x j pos}:PE X (.Constant (.str x) j pos) (tC (.str x)):=fun _ _ _ H _ I h=>Calls.Constant_str ⟨.str x,H,I.tok _,⟨_,rfl⟩,h⟩
def Gl (X:Cx) (x:Str):Prop:=X.env.kindOf x=some .globalImplicit
theorem ld_glob {E:Value->Shared->Prop} {pins:List (Addr×Obj)} {s:Shared} {σ:St} {H:Hp} {x:Str} {u:Value} {pos:Pos} {Q:Value->Shared->Prop} (I:Inv X pins σ H s) (hg:Gl X x) (hm:X.mg x=some u) (h:Q u s)
  (hd:(x==("__debug__":Str))=false:=by decide):wpAny (model X.prog X.w) X.A (eval (.Name x pos) X.env) Q E s:=
 Calls.Name_function_global I.ok.kind hg (Calls.loadGlobal_global (by rw [I.ok.glob];exact I.mod.glob.keeps I.bk) hm h) hd
theorem ld_blt {E:Value->Shared->Prop} {pins:List (Addr×Obj)} {s:Shared} {σ:St} {H:Hp} {x:Str} {u:Value} {pos:Pos} {Q:Value->Shared->Prop} (I:Inv X pins σ H s) (hg:Gl X x) (hm:X.mg x=none) (hv:bootBuiltins x=some u) (h:Q u s)
  (hn:x≠"__name__":=by decide) (hd:(x==("__debug__":Str))=false:=by decide):wpAny (model X.prog X.w) X.A (eval (.Name x pos) X.env) Q E s:=by
 obtain⟨mb,h1,h2⟩:=I.mod.blt
 exact Calls.Name_function_global I.ok.kind hg (Calls.loadGlobal_builtin (by rw [I.ok.glob];exact I.mod.glob.keeps I.bk) hm (by rw [I.ok.blt];exact h1.keeps I.bk) ((h2 x hn).trans hv) h) hd
theorem pe_glob {x:Str} {v:V} {u:Value} {pos:Pos} (hg:Gl X x) (hm:X.mg x=some u) (r:RelV v u) (hd:(x==("__debug__":Str))=false:=by decide):PE X (.Name x pos) (tC v):=
 fun _ _ _ H _ I h=>ld_glob I hg hm ⟨v,H,I,r,h⟩ hd
theorem pe_bltn {x:Str} {v:V} {u:Value} {pos:Pos} (hg:Gl X x) (hm:X.mg x=none) (hv:bootBuiltins x=some u) (r:RelV v u) (hn:x≠"__name__":=by decide) (hd:(x==("__debug__":Str))=false:=by decide):PE X (.Name x pos) (tC v):=
 fun _ _ _ H _ I h=>ld_blt I hg hm hv ⟨v,H,I,r,h⟩ hn hd
variable {a b:Expr} {ta tb:TE} {pos:Pos}
def tB (t:TE):TT:=fun σ H Q=>t σ H fun x H1=>∃c,x= .bl c/\Q c H1
theorem pt_val {e:Expr} {t:TE} (h:PE X e t) (he:∀whole,isTrue e X.env whole=(do let v<-whole;standAt e.pos;holding [v] (truthy v)):=by intro _;rfl):PT X e (tB t):=by
 intro pins s σ H Q I hw
 refine isTrue_plain (thn (h pins s σ H _ I hw) fun v s1 ⟨x,H1,I1,r1,q1⟩=>?_) (he _)
 obtain⟨d,rfl,q⟩:=q1
 cases r1
 exact wpAny_truthy_bool ⟨H1,I1,q⟩
variable {tA tB':TT} {rest:List Expr}
def tOr (t u:TT):TT:=fun σ H Q=>t σ H fun c H1=>if c=true then Q true H1 else u σ H1 Q
def tNot (t:TT):TT:=fun σ H Q=>t σ H fun c H1=>Q (!c) H1
theorem pw_or1 (ha:PT X a tA):PW X (.BoolOp .Or [a] pos) tA:=by
 intro wh pins s σ H Q I h
 refine isTrue_or (thn (ha pins s σ H Q I h) fun c s1 e=>?_)
 cases c with
 |false=>exact isTrue_or_nil e
 |true=>exact e
theorem pw_or (ha:PT X a tA) (hb:PW X (.BoolOp .Or (b::rest) pos) tB'):PW X (.BoolOp .Or (a::b::rest) pos) (tOr tA tB'):=by
 intro wh pins s σ H Q I h
 refine isTrue_or (thn (ha pins s σ H _ I h) fun c s1 ⟨H1,I1,q1⟩=>?_)
 cases c with
 |true=>exact⟨H1,I1,q1⟩
 |false=>exact hb wh pins s1 σ H1 Q I1 q1
theorem pt_not (ha:PT X a tA):PT X (.UnaryOp .Not a pos) (tNot tA):=by
 intro pins s σ H Q I h
 exact isTrue_not (ha pins s σ H (fun c H1=>Q (!c) H1) I h)
def tAndV (ta tb:TE):TE:=fun σ H Q=>ta σ H fun x H1=>∃c,x= .bl c/\if c=true then tb σ H1 Q else Q (.bl false) H1
def tNotV (ta:TE):TE:=fun σ H Q=>ta σ H fun x H1=>∃c,x= .bl c/\Q (.bl (!c)) H1
theorem pe_one {op} {t:TE} (h:PE X a t):PE X (.BoolOp op [a] pos) t:=fun pins s σ H Q I hw=>BoolOp_one (h pins s σ H Q I hw)
theorem pe_and (ha:PE X a ta) (hb:PE X (.BoolOp .And (b::rest) pos) tb):PE X (.BoolOp .And (a::b::rest) pos) (tAndV ta tb):=by
 intro pins s σ H Q I h
 refine BoolOp_and (thn (ha pins s σ H _ I h) fun v s1 ⟨x,H1,I1,r1,q1⟩=>?_)
 obtain⟨c,rfl,q1⟩:=q1
 cases r1
 refine wpAny_truthy_bool ?_
 cases c with
 |true=>exact hb pins s1 σ H1 Q I1 q1
 |false=>exact⟨.bl false,H1,I1,rfl,q1⟩
theorem pe_not (ha:PE X a ta):PE X (.UnaryOp .Not a pos) (tNotV ta):=by
 intro pins s σ H Q I h
 refine UnaryOp_ (thn (ha pins s σ H _ I h) fun v s1 ⟨x,H1,I1,r1,q1⟩=>?_)
 obtain⟨c,rfl,q1⟩:=q1
 cases r1
 exact not_of (wpAny_truthy_bool ⟨.bl (!c),H1,I1,rfl,q1⟩)
end
end L2
namespace L2
open PySem PySem.Spec PyProof.Rows
def SqL (K:PySem.W.Frag) (H:Hp) (a:Addr) (xs:List V):Prop:=
 Rd H a (.lst xs)∨
  ∃(o:Obj) (its:Array Value) (n:Nat),K.lookup a=some o/\o.cls= .type "list"/\o.dict=none/\o.data= .seq its n/\its.size<=sizeLine/\Vals xs its.toList
def SqT (K:PySem.W.Frag) (H:Hp) (a:Addr) (xs:List V):Prop:=
 Rd H a (.tup xs)∨
  ∃(o:Obj) (its:Array Value) (n:Nat),K.lookup a=some o/\o.cls= .type "tuple"/\o.data= .seq its n/\its.size<=sizeLine/\Vals xs its.toList
def absV:Value->Option V
 | .none=>some .non
 | .bool b=>some (.bl b)
 | .int i _=>some (.int i)
 | .str x _=>some (.str x)
 | .bytes b _=>some (.byt b)
 | .float b _=>some (.flt b)
 | .ref a=>some (.ref a)
 | .type n=>some (.ty n)
 |_=>none
theorem RelV.abs {x:V} {u:Value} (r:RelV x u):absV u=some x:=by
 cases x with
 |non=>cases r;rfl
 |bl _=>cases r;rfl
 |int _=>obtain⟨t,rfl⟩:=r;rfl
 |str _=>obtain⟨t,rfl⟩:=r;rfl
 |byt _=>obtain⟨t,rfl⟩:=r;rfl
 |flt _=>obtain⟨t,rfl⟩:=r;rfl
 |ref _=>cases r;rfl
 |ty _=>cases r;rfl
theorem RelV.inj {x y:V} {u:Value} (r:RelV x u) (q:RelV y u):x=y:=Option.some.inj (r.abs.symm.trans q.abs)
theorem Vals.inj:∀{xs ys:List V} {us:List Value},Vals xs us->Vals ys us->xs=ys
 |_,_,_,.nil,.nil=>rfl
 |_,_,_,.cons r t,.cons r' t'=>by rw [r.inj r',Vals.inj t t']
section
variable {X:Cx} {pins:List (Addr×Obj)} {σ:St} {H:Hp} {s:Shared} {a:Addr} {xs ys:List V}
theorem SqL.of {K:PySem.W.Frag} (h:H a=some (.lst xs)):SqL K H a xs:= .inl (.inl h)
theorem SqT.of {K:PySem.W.Frag} (h:H a=some (.tup xs)):SqT K H a xs:= .inl (.inl h)
theorem Inv.list (I:Inv X pins σ H s) (h:SqL X.K H a xs):∃its:List Value,Vals xs its/\PlainL s.heap a its.toArray/\xs.length<=sizeLine:=by
 rcases h with h|⟨o,its,n,hk,hc,hd,hs,hz,r⟩
 ·obtain⟨z,its,n,r,e⟩:=h.ok I.hok
  exact⟨its,r,⟨_,n,e,rfl,rfl,rfl⟩,z⟩
 ·refine⟨its.toList,r,⟨o,n,I.kIn a o hk,hc,hd,by simpa using hs⟩,?_⟩
  have e:=r.length
  simp only [Array.length_toList]at e
  omega
theorem Inv.tuple (I:Inv X pins σ H s) (h:SqT X.K H a xs):∃its:List Value,Vals xs its/\IsTup s.heap a its.toArray/\xs.length<=sizeLine:=by
 rcases h with h|⟨o,its,n,hk,hc,hs,hz,r⟩
 ·obtain⟨z,its,r,p⟩:=h.ok I.hok
  exact⟨its,r,p,z⟩
 ·refine⟨its.toList,r,⟨o,I.kIn a o hk,hc,n,by simpa using hs⟩,?_⟩
  have e:=r.length
  simp only [Array.length_toList]at e
  omega
theorem Inv.list_inj (I:Inv X pins σ H s) (h:SqL X.K H a xs) (h':SqL X.K H a ys):xs=ys:=by
 obtain⟨its,r,⟨o,n,e,_,_,d⟩,_⟩:=I.list h
 obtain⟨its',r',⟨o',n',e',_,_,d'⟩,_⟩:=I.list h'
 rw [e]at e';cases e'
 rw [d]at d'
 injection d' with d1 _
 have:its=its':=by simpa using congrArg Array.toList d1
 subst this
 exact r.inj r'
theorem Inv.tuple_inj (I:Inv X pins σ H s) (h:SqT X.K H a xs) (h':SqT X.K H a ys):xs=ys:=by
 obtain⟨its,r,⟨o,e,_,n,d⟩,_⟩:=I.tuple h
 obtain⟨its',r',⟨o',e',_,n',d'⟩,_⟩:=I.tuple h'
 rw [e]at e';cases e'
 rw [d]at d'
 injection d' with d1 _
 have:its=its':=by simpa using congrArg Array.toList d1
 subst this
 exact r.inj r'
end
abbrev Cx.wish (X:Cx) (E:Value->Shared->Prop):Cx:={X with xe:=E}
abbrev Cx.nox (X:Cx):Cx:=X.wish fun _ _=>False
theorem Cx.Ok.wish {X:Cx} (ok:X.Ok) (E:Value->Shared->Prop):(X.wish E).Ok:=
 ⟨ok.mod,ok.kind,ok.glob,ok.blt,ok.above,ok.inj,ok.has,ok.cab,ok.hd,ok.frames,ok.stk,ok.exf,ok.bs,ok.bsz,ok.noex,ok.exfs,ok.funs,ok.frf⟩
theorem Cx.Ok.unwish {X:Cx} {E:Value->Shared->Prop} (ok:(X.wish E).Ok):X.Ok:=
 ⟨ok.mod,ok.kind,ok.glob,ok.blt,ok.above,ok.inj,ok.has,ok.cab,ok.hd,ok.frames,ok.stk,ok.exf,ok.bs,ok.bsz,ok.noex,ok.exfs,ok.funs,ok.frf⟩
section
variable {X:Cx} {pins:List (Addr×Obj)} {σ:St} {H:Hp} {s:Shared} {E:Value->Shared->Prop}
theorem Inv.wish (I:Inv X pins σ H s) (E:Value->Shared->Prop):Inv (X.wish E) pins σ H s:=⟨I.ok.wish E,I.os,I.bare,I.base,I.loc,I.cell,I.free,I.freeC,I.pin,I.hok,I.len⟩
theorem Inv.unwish (I:Inv (X.wish E) pins σ H s):Inv X pins σ H s:=⟨I.ok.unwish,I.os,I.bare,I.base,I.loc,I.cell,I.free,I.freeC,I.pin,I.hok,I.len⟩
theorem SP.unwish {D:Ends} {f:Flow} {s':Shared} (h:SP (X.wish E) pins D f s'):SP X pins D f s':=by
 cases f with
 |next=>obtain⟨σ',H',I,q⟩:=h;exact⟨σ',H',I.unwish,q⟩
 |brk=>obtain⟨σ',H',I,q⟩:=h;exact⟨σ',H',I.unwish,q⟩
 |cont=>obtain⟨σ',H',I,q⟩:=h;exact⟨σ',H',I.unwish,q⟩
 |ret u=>obtain⟨v,σ',H',I,r,q⟩:=h;exact⟨v,σ',H',I.unwish,r,q⟩
theorem PSs.nox {st:List Stmt} {t:TS} (h:PSs X.nox st t):PSs X st t:=fun pins s σ H D I hw=>
 wpAny_mono (h pins s σ H D (I.wish _) hw) (fun _ _ q=>q.unwish) fun _ _ z=>False.elim z
end
section
variable {X:Cx} {st:Stmt} {rest:List Stmt} {t u:TS} {e:Expr} {te:TE} {pos:Pos}
def tNext:TS:=fun D σ H=>D.nx σ H
def tSeq (t u:TS):TS:=fun D σ H=>t {D with nx:=u D} σ H
theorem pss_nil:PSs X [] tNext:=fun _ _ σ H _ I h=>wpAny_execs_nil ⟨σ,H,I,h⟩
theorem pss_cons (h1:PS X st t) (h2:PSs X rest u):PSs X (st::rest) (tSeq t u):=by
 intro pins s σ H D I h
 refine wpAny_execs_cons (thn (h1 pins s σ H {D with nx:=u D} I h) fun f s1 q=>?_)
 cases f with
 |next=>
  obtain⟨σ',H',I',q⟩:=q
  exact h2 pins s1 σ' H' D I' q
 |ret v=>exact q
 |brk=>exact q
 |cont=>exact q
theorem pss_one (h1:PS X st t):PSs X [st] t:=by
 intro pins s σ H D I h
 refine wpAny_execs_cons (thn (h1 pins s σ H D I h) fun f s1 q=>?_)
 cases f with
 |next=>exact wpAny_execs_nil q
 |ret v=>exact q
 |brk=>exact q
 |cont=>exact q
theorem Inv.quiet {pins:List (Addr×Obj)} {σ:St} {H:Hp} {s:Shared} (I:Inv X pins σ H s):interactive X.env=false:=by simp [interactive,I.ok.kind]
def tDrop (te:TE):TS:=fun D σ H=>te σ H fun _ H1=>D.nx σ H1
theorem ps_expr (he:PE X e te) (hs:swapsWith e none pos.line X.env=pure false:=by rfl):PS X (.Expr e pos) (tDrop te):=by
 intro pins s σ H D I h
 exact wpAny_Expr_any (thn (he pins s σ H _ I h) fun v s1 ⟨x,H1,I1,r1,q1⟩=>⟨σ,H1,I1,q1⟩) I.quiet hs
def tRet (te:TE):TS:=fun D σ H=>te σ H D.rt
theorem ps_ret (he:PE X e te):PS X (.Return (some e) pos) (tRet te):=by
 intro pins s σ H D I h
 exact wpAny_Return_some (thn (he pins s σ H _ I h) fun v s1 ⟨x,H1,I1,r1,q1⟩=>⟨x,σ,H1,I1,r1,q1⟩)
def tIfS (c:TT) (t u:TS):TS:=fun D σ H=>c σ H fun b H1=>if b=true then t D σ H1 else u D σ H1
theorem ps_if {c:Expr} {a b:List Stmt} {tc:TT} (hc:PT X c tc) (ha:PSs X a t) (hb:PSs X b u):PS X (.If c a b pos) (tIfS tc t u):=by
 intro pins s σ H D I h
 refine wpAny_If (thn (hc pins s σ H _ I h) fun d s1 ⟨H1,I1,q1⟩=>?_)
 cases d with
 |true=>exact ha pins s1 σ H1 D I1 q1
 |false=>exact hb pins s1 σ H1 D I1 q1
def tNever:TS:=fun _ _ _=>False
theorem ps_never:PS X st tNever:=fun _ _ _ _ _ _ h=>h.elim
theorem pss_never {sts:List Stmt}:PSs X sts tNever:=fun _ _ _ _ _ _ h=>h.elim
end
abbrev TG:=V->St->Hp->(St->Hp->Prop)->Prop
abbrev TGs:=List V->St->Hp->(St->Hp->Prop)->Prop
def PG (X:Cx) (target:Expr) (t:TG):Prop:=
 ∀(pins:List (Addr×Obj)) (s:Shared) (σ:St) (H:Hp) (v:V) (u:Value) (Q:St->Hp->Prop),Inv X pins σ H s->RelV v u->t v σ H Q->
  wpAny (model X.prog X.w) X.A (assign target X.env u) (fun _ s'=>∃σ' H',Inv X pins σ' H' s'/\Q σ' H') X.xe s
def PGs (X:Cx) (ts:List Expr) (t:TGs):Prop:=
 ∀(pins:List (Addr×Obj)) (s:Shared) (σ:St) (H:Hp) (vs:List V) (us:List Value) (Q:St->Hp->Prop),Inv X pins σ H s->Vals vs us->t vs σ H Q->
  wpAny (model X.prog X.w) X.A (assignInOrder ((assignEach ts X.env).map (·.2)) us) (fun _ s'=>∃σ' H',Inv X pins σ' H' s'/\Q σ' H') X.xe s
abbrev TSet:=V->V->V->Hp->(Hp->Prop)->Prop
def PSet (X:Cx) (t:TSet):Prop:=
 ∀(pins:List (Addr×Obj)) (s:Shared) (σ:St) (H:Hp) (o i v:V) (ov iv u:Value) (Q:Hp->Prop),Inv X pins σ H s->RelV o ov->RelV i iv->RelV v u->t o i v H Q->
  wpAny (model X.prog X.w) X.A (setItem ov iv u) (fun _ s'=>∃H',Inv X pins σ H' s'/\Q H') X.xe s
section
variable {X:Cx} {pos:Pos}
def gName (i:Nat):TG:=fun v σ H Q=>Q (σ.set i (some v)) H
theorem pg_name {i:Nat} {x:Str} (hN:X.N.Nodup) (hi:X.N[i]? =some x) (hx:Loc X.env.scope x) (hf:X.fn x=true∨X.env.scope.names.lookup x=some .local:=by first|exact .inl rfl|exact .inr rfl|assumption):PG X (.Name x pos) (gName i):=by
 intro pins s σ H v u Q I r h
 exact wpAny_assign_Name (store_ok I hN hi hx r (fun s' I'=>⟨_,H,I',h⟩) hf)
def gNil:TGs:=fun vs σ H Q=>vs=[]/\Q σ H
def gCons (t:TG) (u:TGs):TGs:=fun vs σ H Q=>∃v r,vs=v::r/\t v σ H fun σ' H'=>u r σ' H' Q
theorem pgs_nil:PGs X [] gNil:=by
 intro pins s σ H vs us Q I r h
 obtain⟨e,h⟩:=h
 subst e
 cases r
 exact assignInOrder_nil ⟨σ,H,I,h⟩
theorem pgs_cons {e:Expr} {es:List Expr} {t:TG} {u:TGs} (h1:PG X e t) (h2:PGs X es u)
  (hs:(assignEach (e::es) X.env).map (·.2)=assign e X.env::(assignEach es X.env).map (·.2):=by rfl):PGs X (e::es) (gCons t u):=by
 intro pins s σ H vs us Q I r h
 obtain⟨v,vr,e1,h⟩:=h
 subst e1
 cases r with
 |cons r rr=>
  rw [hs]
  refine assignInOrder_cons (thn (h1 pins s σ H _ _ _ I r h) fun _ s1 ⟨σ1,H1,I1,q1⟩=>?_)
  exact h2 pins s1 σ1 H1 _ _ Q I1 rr q1
def gTup (K:PySem.W.Frag) (n:Nat) (t:TGs):TG:=fun v σ H Q=>∃a xs,v= .ref a/\SqT K H a xs/\xs.length=n/\t xs σ H Q
theorem pg_tup {es:List Expr} {k:Nat} {t:TGs} {n:Nat} (hc:X.calm=true) (h:PGs X es t)
  (hn:(assignEach es X.env).length=n:=by rfl) (hst:(assignEach es X.env).findIdx? (·.1)=none:=by rfl):PG X (.Tuple es k pos) (gTup X.K n t):=by
 intro pins s σ H v u Q I r hw
 obtain⟨a,xs,e1,hq,hl,hw⟩:=hw
 subst e1
 cases r
 obtain⟨its,rv,ht,hz⟩:=I.tuple hq
 refine assign_Tuple_tuple (I.ok.hd hc) ht (by simp [hn, <-hl,rv.length]) hst fun h' hx=>?_
 have I1:Inv X pins σ H {s with heap:=h'}:=I.kept (t':=s.toks) fun b o e=>hx b o (Nat.ne_of_lt (Heap.lt_size e)) e
 exact h pins _ σ H xs _ Q I1 (by simpa using rv) hw
def gSub (to ti:TE) (t:TSet):TG:=fun v σ H Q=>to σ H fun o H1=>ti σ H1 fun i H2=>t o i v H2 fun H3=>Q σ H3
theorem pg_sub {o i:Expr} {to ti:TE} {t:TSet} (ho:PE X o to) (hi:PE X i ti) (hs:PSet X t)
  (ha:∀v,assign (.Subscript o i pos) X.env v=(do
   let ov<-holding [v] (eval o X.env)
   let iv<-holding [v,ov] (eval i X.env)
   standAt pos
   holding [v,ov,iv] (setItem ov iv v)
   release [v,ov,iv] []):=by intro _;rfl):PG X (.Subscript o i pos) (gSub to ti t):=by
 intro pins s σ H v u Q I r h
 rw [ha]
 refine wpAny_bind (wpAny_holding (thn (ho pins s σ H _ I h) fun ov s1 ⟨x,H1,I1,r1,q1⟩=>?_))
 refine wpAny_bind (wpAny_holding (thn (hi pins s1 σ H1 _ I1 q1) fun iv s2 ⟨y,H2,I2,r2,q2⟩=>?_))
 refine wpAny_bind (wpAny_standAt (wpAny_bind (wpAny_holding (thn (hs pins s2 σ H2 x y v ov iv u _ I2 r1 r2 r q2) fun _ s3 ⟨H3,I3,q3⟩=>?_))))
 exact wpAny_release ⟨σ,H3,I3,q3⟩
def tAsg (te:TE) (g:TG):TS:=fun D σ H=>te σ H fun x H1=>g x σ H1 D.nx
theorem ps_asg {tg e:Expr} {te:TE} {g:TG} (he:PE X e te) (hg:PG X tg g) (hs:swapsWithSole [tg] e pos.line X.env=pure false:=by rfl) (hw:swappedStores [tg] e X.env=pure none:=by rfl)
  (h1:(assignEach [tg] X.env).map (·.2)=[assign tg X.env]:=by rfl):PS X (.Assign [tg] e pos) (tAsg te g):=by
 intro pins s σ H D I h
 refine wpAny_Assign_stores (thn (he pins s σ H _ I h) fun v s1 ⟨x,H1,I1,r1,q1⟩=>?_) hs hw
 rw [h1]
 exact thn (hg pins s1 σ H1 x v _ I1 r1 q1) fun _ s2 q=>q
theorem ps_set {i:Nat} {x:Str} {e:Expr} {te:TE} {pos':Pos} (hN:X.N.Nodup) (hi:X.N[i]? =some x) (hx:Loc X.env.scope x) (he:PE X e te) (hs:swapsWith e (some (.Name x pos')) pos.line X.env=pure false:=by rfl) (hf:X.fn x=true∨X.env.scope.names.lookup x=some .local:=by first|exact .inl rfl|exact .inr rfl|assumption):
  PS X (.Assign [.Name x pos'] e pos) (tAsg te (gName i)):=by
 intro pins s σ H D I h
 refine wpAny_Assign_Name (thn (he pins s σ H _ I h) fun v s1 ⟨y,H1,I1,r1,q1⟩=>?_) hs
 exact store_ok I1 hN hi hx r1 (fun s2 I2=>⟨_,H1,I2,q1⟩) hf
end
section
variable {X:Cx} {pos:Pos}
end
structure It where
 go:Nat->Hp->Prop
 yld:Nat->Hp->V->Hp->Prop
 stop:Nat->Hp->Prop
def FpOk (X:Cx) (pins:List (Addr×Obj)) (H:Hp) (b:Addr):Prop:=
 H b=none/\b≠X.env.locals/\b∉X.fs/\(b∈X.ex∨X.s₀.heap.objs.size<=b)/\(∀x c,X.env.cells.lookup x=some c->c≠b)/\∀p∈X.pn++pins,p.1≠b
theorem Inv.fpOk {X:Cx} {pins:List (Addr×Obj)} {σ:St} {H H':Hp} {s:Shared} {b:Addr} (I:Inv X pins σ H s) (hb:s.heap.objs.size<=b) (hn:H' b=none):FpOk X pins H' b:=by
 refine⟨hn,Nat.ne_of_gt (Nat.lt_of_lt_of_le I.lt hb),I.nofs hb,.inr (Nat.le_trans I.sz hb),fun x c e z=>?_,fun p hp z=>?_⟩
 ·obtain⟨v,q⟩:=I.cell x c e
  exact absurd (Nat.lt_of_lt_of_le q.lt (by rw [z];exact hb)) (Nat.lt_irrefl _)
 ·exact absurd (Nat.lt_of_lt_of_le (Heap.lt_size (I.pin p hp).1) (by rw [z];exact hb)) (Nat.lt_irrefl _)
structure Turn (P:Program) (w:World) (K:PySem.W.Frag) (tg:Expr) (J:It) (fp:List Addr) (it:Addr) (tn:Nat->Heap->Prop):Prop where
 mem:it∈fp
 obj:∀i h,tn i h->∀b∈fp,∃o,h.get? b=some o/\∀v,o.data≠ .cell v
 keep:∀i h h',tn i h->(∀b∈fp,∀o,h.get? b=some o->h'.get? b=some o)->tn i h'
 item:∀(X:Cx),X.prog=P->X.w=w->X.K=K->X.calm=true->∀(i:Nat) (pins:List (Addr×Obj)) (s:Shared) (σ:St) (H:Hp) (E:Value->Shared->Prop),Inv X pins σ H s->(∀b∈fp,FpOk X pins H b)->tn i s.heap->J.go i H->
  wpAny (model P w) X.A (pyNext (.ref it)) (fun r s1=>∃u,r=some u/\
   wpAny (model P w) X.A (letOwnedTupleGo tg (.ref it) u) (fun _ s2=>∃x H',Inv X pins σ H' s2/\RelV x u/\J.yld i H x H'/\tn (i+1) s2.heap/\∀b∈fp,H' b=none) E s1) E s
 done:∀(X:Cx),X.prog=P->X.w=w->X.K=K->X.calm=true->∀(i:Nat) (pins:List (Addr×Obj)) (s:Shared) (σ:St) (H:Hp) (E:Value->Shared->Prop),Inv X pins σ H s->(∀b∈fp,FpOk X pins H b)->tn i s.heap->J.stop i H->
  wpAny (model P w) X.A (pyNext (.ref it)) (fun r s1=>r=none/\Inv X pins σ H s1) E s
 self:∀(A:Around) (i:Nat) (s:Shared) (Q:Value->Shared->Prop) (E:Value->Shared->Prop),tn i s.heap->Q (.ref it) s->wpAny (model P w) A (pyIter (.ref it)) Q E s
abbrev TI:=St->Hp->(It->Hp->Prop)->Prop
def PIE (X:Cx) (pins:List (Addr×Obj)) (σ:St) (tg:Expr) (R:It->Hp->Prop) (itv:Value) (s2:Shared):Prop:=
 ∃(it:Addr) (fp:List Addr) (tn:Nat->Heap->Prop) (J:It) (H':Hp),itv= .ref it/\Inv X pins σ H' s2/\Turn X.prog X.w X.K tg J fp it tn/\tn 0 s2.heap/\(∀b∈fp,FpOk X pins H' b)/\R J H'
def PI (X:Cx) (tg iter:Expr) (wi:TI):Prop:=
 ∀(pins:List (Addr×Obj)) (s:Shared) (σ:St) (H:Hp) (R:It->Hp->Prop),Inv X pins σ H s->wi σ H R->
  wpAny (model X.prog X.w) X.A (eval iter X.env) (fun v s1=>wpAny (model X.prog X.w) X.A (pyIter v) (PIE X pins σ tg R) X.xe s1) X.xe s
theorem go_of {M : Model} {A : Around} {E : Value → Shared → Prop} {s : Shared} {tg : Expr} {it : Addr} {u : Value} {o : Obj} {n : String} {vs : Array Value} {Q : Unit → Shared → Prop} (ho : s.heap.get? it = some o) (hc : o.cls = .type n) (hd : o.data = .fields vs)
    (hn : ["enumerate", "zip", "dict_itemiterator", "dict_reverseitemiterator", "odict_iterator", "itertools.zip_longest", "itertools.pairwise"].contains n = false) (hQ : Q () s) : wpAny M A (letOwnedTupleGo tg (.ref it) u) Q E s := by
  unfold letOwnedTupleGo
  cases tg <;> first
    | exact wpAny_pure hQ
    | (cases u <;> first
        | exact wpAny_pure hQ
        | (refine wpAny_bind (wpAny_load ho ?_)
           rw [hc, hd]
           show wpAny M A (if (["enumerate", "zip", "dict_itemiterator", "dict_reverseitemiterator", "odict_iterator", "itertools.zip_longest", "itertools.pairwise"].contains n && vs[0]? == some (rawInt _)) = true then _ else _) Q E s
           rw [if_neg (by intro h; rw [hn, Bool.false_and] at h; cases h)]
           exact wpAny_pure hQ))
def Itl (K:PySem.W.Frag) (a:Addr):It:=
 ⟨fun i H=>∃xs x,SqL K H a xs/\xs[i]? =some x,fun i H x H'=>H'=H/\∀xs,SqL K H a xs->xs[i]? =some x,fun i H=>∃xs,SqL K H a xs/\xs.length<=i⟩
def Itt (K:PySem.W.Frag) (a:Addr):It:=
 ⟨fun i H=>∃xs x,SqT K H a xs/\xs[i]? =some x,fun i H x H'=>H'=H/\∀xs,SqT K H a xs->xs[i]? =some x,fun i H=>∃xs,SqT K H a xs/\xs.length<=i⟩
def Itr (lo:Int) (n:Nat):It:=⟨fun i _=>i<n,fun i H x H'=>H'=H/\x= .int (lo+i),fun i _=>n<=i⟩
theorem turn_list {P:Program} {w:World} {K:PySem.W.Frag} {tg:Expr} (a it:Addr):Turn P w K tg (Itl K a) [it] it (fun i h=>h.IsListIter it a i) where
 mem:=by simp
 obj:=fun i h st b hb=>by
  have e:b=it:=by simpa using hb
  subst e
  obtain⟨o,e,c,d⟩:=st
  exact⟨o,e,fun v z=>by rw [d]at z;cases z⟩
 keep:=fun i h h' st k=>st.at fun o e=>k it (by simp) o e
 item:=by
  intro X hP hw hK hc i pins s σ H E I hf st hg
  subst hP hw hK
  obtain⟨xs,x,hq,hx⟩:=hg
  obtain⟨its,rv,p,hz⟩:=I.list hq
  obtain⟨u,hu,ru⟩:=rv.get hx
  obtain⟨f0,f1,f2,f3,f4,f5⟩:=hf it (by simp)
  refine wpAny_pyNext_list_item st p.isList (x:=u) (by simpa using hu) fun h' st' sb=>?_
  have I1:Inv X pins σ H {s with heap:=h'}:=I.turned (t':=s.toks) (fun b o hb e=>(sb.2 b hb).trans e) f0 f1 f3 f4 f5
  obtain⟨o,e,c,d⟩:=id st'
  exact⟨u,rfl,go_of (s:={s with heap:=h'}) e c d (by decide) ⟨x,H,I1,ru,⟨rfl,fun ys hy=>by rw [I.list_inj hy hq];exact hx⟩,st',fun b hb=>(hf b hb).1⟩⟩
 done:=by
  intro X hP hw hK hc i pins s σ H E I hf st hg
  subst hP hw hK
  obtain⟨xs,hq,hx⟩:=hg
  obtain⟨its,rv,p,hz⟩:=I.list hq
  obtain⟨f0,f1,f2,f3,f4,f5⟩:=hf it (by simp)
  have hl:=rv.length
  exact wpAny_pyNext_list_end (I.ok.hd hc) st p.isList (by simp;omega) fun h' eb=>⟨rfl,I.turned (t':=s.toks) (fun b o hb e=>eb b o hb e) f0 f1 f3 f4 f5⟩
 self:=fun _ _ _ _ _ st h=>wpAny_pyIter_listiter st h
theorem turn_tuple {P:Program} {w:World} {K:PySem.W.Frag} {tg:Expr} (a it:Addr):Turn P w K tg (Itt K a) [it] it (fun i h=>h.IsTupleIter it a i) where
 mem:=by simp
 obj:=fun i h st b hb=>by
  have e:b=it:=by simpa using hb
  subst e
  obtain⟨o,e,c,d⟩:=st
  exact⟨o,e,fun v z=>by rw [d]at z;cases z⟩
 keep:=fun i h h' st k=>st.at fun o e=>k it (by simp) o e
 item:=by
  intro X hP hw hK hc i pins s σ H E I hf st hg
  subst hP hw hK
  obtain⟨xs,x,hq,hx⟩:=hg
  obtain⟨its,rv,p,hz⟩:=I.tuple hq
  obtain⟨u,hu,ru⟩:=rv.get hx
  obtain⟨f0,f1,f2,f3,f4,f5⟩:=hf it (by simp)
  refine wpAny_pyNext_tuple_item st (show s.heap.IsTuple a its.toArray from p) (x:=u) (by simpa using hu) fun h' st' sb=>?_
  have I1:Inv X pins σ H {s with heap:=h'}:=I.turned (t':=s.toks) (fun b o hb e=>(sb.2 b hb).trans e) f0 f1 f3 f4 f5
  obtain⟨o,e,c,d⟩:=id st'
  exact⟨u,rfl,go_of (s:={s with heap:=h'}) e c d (by decide) ⟨x,H,I1,ru,⟨rfl,fun ys hy=>by rw [I.tuple_inj hy hq];exact hx⟩,st',fun b hb=>(hf b hb).1⟩⟩
 done:=by
  intro X hP hw hK hc i pins s σ H E I hf st hg
  subst hP hw hK
  obtain⟨xs,hq,hx⟩:=hg
  obtain⟨its,rv,p,hz⟩:=I.tuple hq
  obtain⟨f0,f1,f2,f3,f4,f5⟩:=hf it (by simp)
  have hl:=rv.length
  exact wpAny_pyNext_tuple_end (I.ok.hd hc) st (show s.heap.IsTuple a its.toArray from p) (by simp;omega) fun h' eb=>⟨rfl,I.turned (t':=s.toks) (fun b o hb e=>eb b o hb e) f0 f1 f3 f4 f5⟩
 self:=fun _ _ _ _ _ st h=>wpAny_pyIter_tupleiter st h
theorem turn_range {P:Program} {w:World} {K:PySem.W.Frag} {tg:Expr} (it:Addr) (lo:Int) (n:Nat):Turn P w K tg (Itr lo n) [it] it (fun i h=>IsRangeIter h it (lo+(i:Nat)*1) ((n:Int)-(i:Nat)) 1) where
 mem:=by simp
 obj:=fun i h st b hb=>by
  have e:b=it:=by simpa using hb
  subst e
  exact⟨_,st,fun v z=>by
   have z':Data.fields _=Data.cell v:=z
   cases z'⟩
 keep:=fun i h h' st k=>k it (by simp) _ st
 item:=by
  intro X hP hw hK hc i pins s σ H E I hf st hg
  subst hP hw hK
  obtain⟨f0,f1,f2,f3,f4,f5⟩:=hf it (by simp)
  have W:=Walks.range (prog:=X.prog) (w:=X.w) (I.ok.hd hc) it lo 1 n
  refine W.item i s _ _ hg st fun v h' tk hv st' kk=>?_
  obtain⟨t,rfl⟩:=hv
  have I1:Inv X pins σ H {s with heap:=h',toks:=tk}:=I.turned (fun b o hb e=>kk b o (by simpa using hb) e) f0 f1 f3 f4 f5
  refine⟨_,rfl,go_of (s:={s with heap:=h',toks:=tk}) (n:="range_iterator") st' rfl rfl (by decide) ⟨.int (lo+i),H,I1,⟨t,?_⟩,⟨rfl,rfl⟩,st',fun b hb=>(hf b hb).1⟩⟩
  rw [Int.mul_one]
 done:=by
  intro X hP hw hK hc i pins s σ H E I hf st hg
  subst hP hw hK
  obtain⟨f0,f1,f2,f3,f4,f5⟩:=hf it (by simp)
  exact wpAny_pyNext_range_end (I.ok.hd hc) st (by have:n<=i:=hg;omega) fun h' eb=>⟨rfl,I.turned (t':=s.toks) (fun b o hb e=>eb b o hb e) f0 f1 f3 f4 f5⟩
 self:=fun _ _ _ _ _ st h=>wpAny_pyIter_rangeiter st h
end L2
namespace L2
open PySem PySem.Spec PyProof.Rows
section
variable {X:Cx} {tg:Expr}
def iList (K:PySem.W.Frag) (tl:TE):TI:=fun σ H R=>tl σ H fun x H1=>∃a,x= .ref a/\(∃xs,SqL K H1 a xs)/\R (Itl K a) H1
def iTup (K:PySem.W.Frag) (tl:TE):TI:=fun σ H R=>tl σ H fun x H1=>∃a,x= .ref a/\(∃xs,SqT K H1 a xs)/\R (Itt K a) H1
theorem pi_list {l:Expr} {tl:TE} (hl:PE X l tl):PI X tg l (iList X.K tl):=by
 intro pins s σ H R I h
 refine thn (hl pins s σ H _ I h) fun v s1 ⟨x,H1,I1,r1,q1⟩=>?_
 obtain⟨a,e,⟨xs,hq⟩,q⟩:=q1
 subst e
 cases r1
 obtain⟨its,rv,p,hz⟩:=I1.list hq
 refine wpAny_pyIter_list p.isList ?_
 refine⟨s1.heap.objs.size,[s1.heap.objs.size],_,_,H1,rfl,I1.kept (t':=s1.toks) fun b o e=>Heap.get?_push_of_some _ e,turn_list a _,⟨_,Heap.get?_push_size _ rfl,rfl,rfl⟩,fun b hb=>?_,q⟩
 have e:b=s1.heap.objs.size:=by simpa using hb
 subst e
 exact I1.fpOk (Nat.le_refl _) (I1.hok.fresh (Nat.le_refl _))
theorem pi_tup {l:Expr} {tl:TE} (hl:PE X l tl):PI X tg l (iTup X.K tl):=by
 intro pins s σ H R I h
 refine thn (hl pins s σ H _ I h) fun v s1 ⟨x,H1,I1,r1,q1⟩=>?_
 obtain⟨a,e,⟨xs,hq⟩,q⟩:=q1
 subst e
 cases r1
 obtain⟨its,rv,p,hz⟩:=I1.tuple hq
 refine wpAny_pyIter_tuple (show s1.heap.IsTuple a its.toArray from p) ?_
 refine⟨s1.heap.objs.size,[s1.heap.objs.size],_,_,H1,rfl,I1.kept (t':=s1.toks) fun b o e=>Heap.get?_push_of_some _ e,turn_tuple a _,⟨_,Heap.get?_push_size _ rfl,rfl,rfl⟩,fun b hb=>?_,q⟩
 have e:b=s1.heap.objs.size:=by simpa using hb
 subst e
 exact I1.fpOk (Nat.le_refl _) (I1.hok.fresh (Nat.le_refl _))
theorem range_it {pins:List (Addr×Obj)} {σ:St} {H:Hp} {s:Shared} {R:It->Hp->Prop} {E:Value->Shared->Prop} {lo hi:Int} {t u v:Tok} {tk:Nat} (I:Inv X pins σ H s) (h1: -(2 ^ 62)<=lo) (h2:lo<2 ^ 62) (h3: -(2 ^ 62)<=hi) (h4:hi<2 ^ 62)
  (q:R (Itr lo (hi-lo).toNat) H):wpAny (model X.prog X.w) X.A (pyIter (.ref s.heap.objs.size)) (PIE X pins σ tg R) E {s with heap:=s.heap.push {cls:= .type "range",data:= .fields #[.int lo t,.int hi u,.int 1 v]},toks:=tk}:=by
 refine wpAny_pyIter_range (IsRange.new ..) (small_one h1 h2 h3 h4) ?_
 have I1:Inv X pins σ H {s with heap:=s.heap.push {cls:= .type "range",data:= .fields #[.int lo t,.int hi u,.int 1 v]},toks:=tk}:=I.kept fun b o e=>Heap.get?_push_of_some _ e
 refine⟨(s.heap.push {cls:= .type "range",data:= .fields #[.int lo t,.int hi u,.int 1 v]}).objs.size,[(s.heap.push {cls:= .type "range",data:= .fields #[.int lo t,.int hi u,.int 1 v]}).objs.size],_,_,H,rfl,
  I1.kept (t':=tk) fun b o e=>Heap.get?_push_of_some _ e,turn_range _ lo (hi-lo).toNat,?_,fun b hb=>?_,q⟩
 ·have e1:lo+((0:Nat):Int)*1=lo:=by simp
  have e2:(((hi-lo).toNat:Nat):Int)-((0:Nat):Int)=Builtin.Range.rangeSize lo hi 1:=by rw [rangeSize_one];split<;>omega
  show IsRangeIter _ _ (lo+((0:Nat):Int)*1) ((((hi-lo).toNat:Nat):Int)-((0:Nat):Int)) 1
  rw [e1,e2]
  exact Heap.get?_push_size _ rfl
 ·have e:b=(s.heap.push {cls:= .type "range",data:= .fields #[.int lo t,.int hi u,.int 1 v]}).objs.size:=by simpa using hb
  subst e
  exact I1.fpOk (Nat.le_refl _) (I1.hok.fresh (Nat.le_refl _))
def iRng1 (ta:TA):TI:=fun σ H R=>ta σ H fun vs H1=>∃j:Int,vs=[.int j]/\ -(2 ^ 62)<=j/\j<2 ^ 62/\R (Itr 0 j.toNat) H1
def iRng2 (ta:TA):TI:=fun σ H R=>ta σ H fun vs H1=>∃i j:Int,vs=[.int i,.int j]/\(-(2 ^ 62)<=i/\i<2 ^ 62/\ -(2 ^ 62)<=j/\j<2 ^ 62)/\R (Itr i (j-i).toNat) H1
theorem pi_range1 {a:Expr} {ta:TA} {p pos:Pos} (hg:Gl X "range") (hm:X.mg "range"=none) (ha:PA X [a] ta) (hs:starEach [a] X.env=[(false,eval a X.env)]:=by rfl):PI X tg (.Call (.Name "range" p) [a] [] pos) (iRng1 ta):=by
 intro pins s σ H R I h
 refine Call_ (ld_blt I hg hm boot_range (PyProof.Rows.callWith_type1 (thn (ha pos pins s σ H _ I h) fun us s1 ⟨vs,H1,I1,r1,q1⟩=>?_) hs rfl))
 obtain⟨j,e,q1,q2,q⟩:=q1
 subst e
 cases r1 with
 |cons r rr=>
  cases rr
  obtain⟨t,rfl⟩:=r
  exact call_range_1 (range_it I1 (by omega) (by omega) q1 q2 (by simpa using q))
theorem pi_range2 {a b:Expr} {ta:TA} {p pos:Pos} (hg:Gl X "range") (hm:X.mg "range"=none) (ha:PA X [a,b] ta) (hs:starEach [a,b] X.env=[(false,eval a X.env),(false,eval b X.env)]:=by rfl) (hs2:starEach [b] X.env=[(false,eval b X.env)]:=by rfl):
  PI X tg (.Call (.Name "range" p) [a,b] [] pos) (iRng2 ta):=by
 intro pins s σ H R I h
 refine Call_ (ld_blt I hg hm boot_range (PyProof.Rows.callWith_type1 (thn (ha pos pins s σ H _ I h) fun us s1 ⟨vs,H1,I1,r1,q1⟩=>?_) (by rw [hs,hs2]) (by rw [hs2];rfl)))
 obtain⟨i,j,e,⟨q1,q2,q3,q4⟩,q⟩:=q1
 subst e
 cases r1 with
 |cons r rr=>
  cases rr with
  |cons r' rr=>
   cases rr
   obtain⟨t,rfl⟩:=r
   obtain⟨t',rfl⟩:=r'
   exact call_range_2 (range_it I1 q1 q2 q3 q4 q)
def tFor (wi:TI) (g:TG) (tb:TS):TS:=fun D σ H=>wi σ H fun J H1=>∃W:Nat->Nat->St->Hp->Prop,(∃m,W 0 m σ H1)/\∀i m σ H,W i m σ H->
 (J.stop i H/\D.nx σ H)∨(J.go i H/\∃N:St->Hp->Prop,(∀σ' H',N σ' H'->∃m',m'<m/\W (i+1) m' σ' H')/\∀x H',J.yld i H x H'->g x σ H' fun σ2 H2=>tb {D with nx:=N,ct:=N,bk:=D.nx} σ2 H2)
def pinsAt (fp:List Addr) (h:Heap):List (Addr×Obj):=fp.filterMap fun b=>(h.get? b).map fun o=>(b,o)
theorem mem_pinsAt {fp:List Addr} {h:Heap} {b:Addr} {o:Obj} (hb:b∈fp) (e:h.get? b=some o):(b,o)∈pinsAt fp h:=List.mem_filterMap.mpr ⟨b,hb,by rw [e];rfl⟩
theorem of_pinsAt {fp:List Addr} {h:Heap} {p:Addr×Obj} (hp:p∈pinsAt fp h):p.1∈fp/\h.get? p.1=some p.2:=by
 obtain⟨b,hb,e⟩:=List.mem_filterMap.mp hp
 cases q:h.get? b with
 |none=>rw [q]at e;cases e
 |some o=>
  rw [q]at e
  have e':(b,o)=p:=Option.some.inj e
  subst e'
  exact⟨hb,q⟩
theorem Inv.pinned {pins:List (Addr×Obj)} {σ:St} {H:Hp} {s:Shared} {fp:List Addr} (I:Inv X pins σ H s) (hf:∀b∈fp,FpOk X pins H b) (ho:∀b∈fp,∃o,s.heap.get? b=some o/\∀v,o.data≠ .cell v):Inv X (pins++pinsAt fp s.heap) σ H s:=
 I.pins_of fun p hp=>(List.mem_append.mp hp).elim (fun z=>I.pin p (List.mem_append_right _ z)) fun z=>by
  obtain⟨hb,e⟩:=of_pinsAt z
  obtain⟨f0,f1,f2,_⟩:=hf p.1 hb
  obtain⟨o,e',d⟩:=ho p.1 hb
  rw [e]at e';cases e'
  exact⟨e,f0,f1,f2,d⟩
theorem Inv.unpinned {pins pl:List (Addr×Obj)} {σ:St} {H:Hp} {s:Shared} (I:Inv X (pins++pl) σ H s):Inv X pins σ H s:=I.pins_of fun p hp=>I.pin p (List.mem_append_right _ (List.mem_append_left _ hp))
theorem ps_for {iter:Expr} {body:List Stmt} {wi:TI} {g:TG} {tb:TS} {pos:Pos} (hp:PassesOwn (model X.prog X.w) X.A X.env X.xe) (hc:X.calm=true) (hi:PI X tg iter wi) (hg:PG X tg g) (hb:PSs X body tb)
  (hs:∀x,foldedSetIterable iter X.env x=pure x:=by intro _;rfl):PS X (.For tg iter body [] pos) (tFor wi g tb):=by
 intro pins s σ H D I h
 refine wpAny_For (thn (hi pins s σ H _ I h) fun v s1 h1=>thn h1 fun itv s2 h2=>?_) hs
 obtain⟨it,fp,tn,J,H2,e,I2,T,st2,f2,W,⟨m0,w0⟩,turn⟩:=h2
 subst e
 have stat:∀{H':Hp},(∀b∈fp,H' b=none)->∀b∈fp,FpOk X pins H' b:=fun hn b hb=>⟨hn b hb,(f2 b hb).2⟩
 refine codeAny_forLoop_any (fun n s'=>∃i σ' H',Inv X pins σ' H' s'/\tn i s'.heap/\(∀b∈fp,H' b=none)/\W i n σ' H') ?_ m0 ⟨0,σ,H2,I2,st2,fun b hb=>(f2 b hb).1,w0⟩
 rintro n s3 ⟨i,σ3,H3,I3,st3,fr3,w3⟩
 rcases turn i n σ3 H3 w3 with ⟨stop,qn⟩|⟨go,N,hN,step⟩
 ·refine wpAny_passesOwn hp (thn (T.done X rfl rfl rfl hc i pins s3 σ3 H3 X.xe I3 (stat fr3) st3 stop) fun r s4 ⟨hr,I4⟩=>?_)
  subst hr
  exact wpAny_execs_nil ⟨σ3,H3,I4,qn⟩
 ·refine wpAny_passesOwn hp (thn (T.item X rfl rfl rfl hc i pins s3 σ3 H3 X.xe I3 (stat fr3) st3 go) fun r s4 ⟨u,hr,h4⟩=>?_)
  subst hr
  refine wpAny_passesOwn hp (thn h4 fun _ s5 ⟨x,H5,I5,r5,y5,st5,fr5⟩=>?_)
  have I5':=I5.pinned (stat fr5) (T.obj _ _ st5)
  refine wpAny_passesOwn hp (thn (hg _ s5 σ3 H5 x u _ I5' r5 (step x H5 y5)) fun _ s6 ⟨σ6,H6,I6,q6⟩=>?_)
  refine wpAny_passesOwn hp (thn (hb _ s6 σ6 H6 _ I6 q6) fun f s7 q7=>?_)
  have again:∀{σ7:St} {H7:Hp},Inv X (pins++pinsAt fp s5.heap) σ7 H7 s7->N σ7 H7->∃m,m<n/\∃i σ' H',Inv X pins σ' H' s7/\tn i s7.heap/\(∀b∈fp,H' b=none)/\W i m σ' H':=fun{σ7 H7} I7 n7=>by
   obtain⟨m',hm,w7⟩:=hN σ7 H7 n7
   refine⟨m',hm,i+1,σ7,H7,I7.unpinned,T.keep _ _ _ st5 fun b hb o e=>(I7.pin (b,o) (List.mem_append_right _ (List.mem_append_right _ (mem_pinsAt hb e)))).1,fun b hb=>?_,w7⟩
   obtain⟨o,e,d⟩:=T.obj _ _ st5 b hb
   exact(I7.pin (b,o) (List.mem_append_right _ (List.mem_append_right _ (mem_pinsAt hb e)))).2.1
  cases f with
  |next=>obtain⟨σ7,H7,I7,n7⟩:=q7;exact again I7 n7
  |cont=>obtain⟨σ7,H7,I7,n7⟩:=q7;exact again I7 n7
  |brk=>obtain⟨σ7,H7,I7,q7⟩:=q7;exact⟨σ7,H7,I7.unpinned,q7⟩
  |ret v=>obtain⟨x7,σ7,H7,I7,r7,q7⟩:=q7;exact⟨x7,σ7,H7,I7.unpinned,r7,q7⟩
end
theorem for_list {K:PySem.W.Frag} {a:Addr} {xs:List V} {g:TG} {tb:TS} {D:Ends} {σ:St} {H:Hp} (Pv:Nat->St->Hp->Prop) (h0:Pv 0 σ H) (hl:∀i σ H,i<=xs.length->Pv i σ H->SqL K H a xs)
  (hs:∀i x σ H,xs[i]? =some x->Pv i σ H->g x σ H fun σ2 H2=>tb {D with nx:=Pv (i+1),ct:=Pv (i+1),bk:=D.nx} σ2 H2) (hd:∀σ H,Pv xs.length σ H->D.nx σ H):
  ∃W:Nat->Nat->St->Hp->Prop,(∃m,W 0 m σ H)/\∀i m σ H,W i m σ H->
   ((Itl K a).stop i H/\D.nx σ H)∨((Itl K a).go i H/\∃N:St->Hp->Prop,(∀σ' H',N σ' H'->∃m',m'<m/\W (i+1) m' σ' H')/\∀x H',(Itl K a).yld i H x H'->g x σ H' fun σ2 H2=>tb {D with nx:=N,ct:=N,bk:=D.nx} σ2 H2):=by
 refine⟨fun i m σ H=>m=xs.length-i/\i<=xs.length/\Pv i σ H,⟨xs.length,by simp,Nat.zero_le _,h0⟩,?_⟩
 rintro i m σ H ⟨rfl,hi,p⟩
 have q:=hl i σ H hi p
 by_cases hlt:i<xs.length
 ·refine .inr ⟨⟨xs,xs[i],q,by simp [hlt]⟩,Pv (i+1),fun σ' H' p'=>⟨xs.length-(i+1),by omega,rfl,hlt,p'⟩,fun x H' y=>?_⟩
  obtain⟨e,y⟩:=y
  subst e
  exact hs i x σ _ (y xs q) p
 ·have e:i=xs.length:=by omega
  subst e
  exact .inl ⟨⟨xs,q,Nat.le_refl _⟩,hd σ H p⟩
theorem for_tup {K:PySem.W.Frag} {a:Addr} {xs:List V} {g:TG} {tb:TS} {D:Ends} {σ:St} {H:Hp} (Pv:Nat->St->Hp->Prop) (h0:Pv 0 σ H) (hl:∀i σ H,i<=xs.length->Pv i σ H->SqT K H a xs)
  (hs:∀i x σ H,xs[i]? =some x->Pv i σ H->g x σ H fun σ2 H2=>tb {D with nx:=Pv (i+1),ct:=Pv (i+1),bk:=D.nx} σ2 H2) (hd:∀σ H,Pv xs.length σ H->D.nx σ H):
  ∃W:Nat->Nat->St->Hp->Prop,(∃m,W 0 m σ H)/\∀i m σ H,W i m σ H->
   ((Itt K a).stop i H/\D.nx σ H)∨((Itt K a).go i H/\∃N:St->Hp->Prop,(∀σ' H',N σ' H'->∃m',m'<m/\W (i+1) m' σ' H')/\∀x H',(Itt K a).yld i H x H'->g x σ H' fun σ2 H2=>tb {D with nx:=N,ct:=N,bk:=D.nx} σ2 H2):=by
 refine⟨fun i m σ H=>m=xs.length-i/\i<=xs.length/\Pv i σ H,⟨xs.length,by simp,Nat.zero_le _,h0⟩,?_⟩
 rintro i m σ H ⟨rfl,hi,p⟩
 have q:=hl i σ H hi p
 by_cases hlt:i<xs.length
 ·refine .inr ⟨⟨xs,xs[i],q,by simp [hlt]⟩,Pv (i+1),fun σ' H' p'=>⟨xs.length-(i+1),by omega,rfl,hlt,p'⟩,fun x H' y=>?_⟩
  obtain⟨e,y⟩:=y
  subst e
  exact hs i x σ _ (y xs q) p
 ·have e:i=xs.length:=by omega
  subst e
  exact .inl ⟨⟨xs,q,Nat.le_refl _⟩,hd σ H p⟩
theorem for_range {lo:Int} {n:Nat} {g:TG} {tb:TS} {D:Ends} {σ:St} {H:Hp} (Pv:Nat->St->Hp->Prop) (h0:Pv 0 σ H)
  (hs:∀i σ H,i<n->Pv i σ H->g (.int (lo+i)) σ H fun σ2 H2=>tb {D with nx:=Pv (i+1),ct:=Pv (i+1),bk:=D.nx} σ2 H2) (hd:∀σ H,Pv n σ H->D.nx σ H):
  ∃W:Nat->Nat->St->Hp->Prop,(∃m,W 0 m σ H)/\∀i m σ H,W i m σ H->
   ((Itr lo n).stop i H/\D.nx σ H)∨((Itr lo n).go i H/\∃N:St->Hp->Prop,(∀σ' H',N σ' H'->∃m',m'<m/\W (i+1) m' σ' H')/\∀x H',(Itr lo n).yld i H x H'->g x σ H' fun σ2 H2=>tb {D with nx:=N,ct:=N,bk:=D.nx} σ2 H2):=by
 refine⟨fun i m σ H=>m=n-i/\i<=n/\Pv i σ H,⟨n,by simp,Nat.zero_le _,h0⟩,?_⟩
 rintro i m σ H ⟨rfl,hi,p⟩
 by_cases hlt:i<n
 ·refine .inr ⟨hlt,Pv (i+1),fun σ' H' p'=>⟨n-(i+1),by omega,rfl,hlt,p'⟩,fun x H' y=>?_⟩
  obtain⟨e,y⟩:=y
  subst e y
  exact hs i σ _ hlt p
 ·have e:i=n:=by omega
  subst e
  exact .inl ⟨Nat.le_refl _,hd σ H p⟩
end L2
namespace L2
open PySem PySem.Spec PyProof.Rows
abbrev R2:=V->V->Hp->VK->Prop
def OpR (X:Cx) (f:Value->Value->Sem Value) (r:R2):Prop:=
 ∀(pins:List (Addr×Obj)) (s:Shared) (σ:St) (H:Hp) (x y:V) (v u:Value) (Q:VK),Inv X pins σ H s->RelV x v->RelV y u->r x y H Q->
  wpAny (model X.prog X.w) X.A (f v u) (EP X pins σ Q) X.xe s
def UnR (X:Cx) (f:Value->Sem Value) (r:V->Hp->VK->Prop):Prop:=
 ∀(pins:List (Addr×Obj)) (s:Shared) (σ:St) (H:Hp) (x:V) (v:Value) (Q:VK),Inv X pins σ H s->RelV x v->r x H Q->
  wpAny (model X.prog X.w) X.A (f v) (EP X pins σ Q) X.xe s
def CallR (X:Cx) (f:Value) (r:List V->Hp->VK->Prop):Prop:=
 ∀(pins:List (Addr×Obj)) (s:Shared) (σ:St) (H:Hp) (xs:List V) (us:List Value) (Q:VK),Inv X pins σ H s->Vals xs us->r xs H Q->
  wpAny (model X.prog X.w) X.A (call f us) (EP X pins σ Q) X.xe s
def tOp (r:R2) (ta tb:TE):TE:=fun σ H Q=>ta σ H fun x H1=>tb σ H1 fun y H2=>r x y H2 Q
def tUn (r:V->Hp->VK->Prop) (ta:TE):TE:=fun σ H Q=>ta σ H fun x H1=>r x H1 Q
def rI (C:Int->Int->Prop) (g:Int->Int->V):R2:=fun x y H Q=>∃i j,x= .int i/\y= .int j/\C i j/\Q (g i j) H
def rI0 (g:Int->Int->V):R2:=fun x y H Q=>∃i j,x= .int i/\y= .int j/\Q (g i j) H
def rU (g:Int->V):V->Hp->VK->Prop:=fun x H Q=>∃i,x= .int i/\Q (g i) H
section
variable {X:Cx} {a b c:Expr} {ta tb tc:TE} {pos:Pos}
theorem binT (ha:PE X a ta) (hb:PE X b tb) {pins:List (Addr×Obj)} {s:Shared} {σ:St} {H:Hp} {R:V->V->Hp->Prop} (I:Inv X pins σ H s)
  (h:ta σ H fun x H1=>tb σ H1 fun y H2=>R x y H2) {Q:Value->Shared->Prop} {f:Value->Value->Sem Value}
  (hf:∀v u s2 x y H2,Inv X pins σ H2 s2->RelV x v->RelV y u->R x y H2->wpAny (model X.prog X.w) X.A (f v u) Q X.xe s2):
  wpAny (model X.prog X.w) X.A (eval a X.env) (fun v s₁=>wpAny (model X.prog X.w) X.A (eval b X.env) (fun u s₂=>wpAny (model X.prog X.w) X.A (f v u) Q X.xe s₂) X.xe s₁) X.xe s:=by
 refine thn (ha pins s σ H _ I h) fun v s1 ⟨x,H1,I1,r1,q1⟩=>?_
 refine thn (hb pins s1 σ H1 _ I1 q1) fun u s2 ⟨y,H2,I2,r2,q2⟩=>?_
 exact hf v u s2 x y H2 I2 r1 r2 q2
theorem pe_op {op:Operator} {r:R2} (ho:OpR X (binaryOp op) r) (ha:PE X a ta) (hb:PE X b tb):PE X (.BinOp a op b pos) (tOp r ta tb):=by
 intro pins s σ H Q I h
 exact wpAny_BinOp (binT ha hb I h fun v u s2 x y H2 I2 rx ry q=>ho pins s2 σ H2 x y v u Q I2 rx ry q)
theorem pe_un {op:UnaryOp} {r:V->Hp->VK->Prop} (ho:UnR X (unaryOp op) r) (ha:PE X a ta):PE X (.UnaryOp op a pos) (tUn r ta):=by
 intro pins s σ H Q I h
 exact UnaryOp_ (thn (ha pins s σ H _ I h) fun v s1 ⟨x,H1,I1,r1,q1⟩=>ho pins s1 σ H1 x v Q I1 r1 q1)
theorem opI {f:Value->Value->Sem Value} {C:Int->Int->Prop} {g:Int->Int->Int}
  (rule:∀(i j:Int) (t u:Tok) (s:Shared) (Q:Value->Shared->Prop) (E:Value->Shared->Prop),C i j->Q (.int (g i j) s.toks) {s with toks:=s.toks+1}->wpAny (model X.prog X.w) X.A (f (.int i t) (.int j u)) Q E s):
  OpR X f (rI C fun i j=> .int (g i j)):=by
 intro pins s σ H x y v u Q I rx ry h
 obtain⟨i,j,rfl,rfl,hc,q⟩:=h
 obtain⟨t,rfl⟩:=rx
 obtain⟨t',rfl⟩:=ry
 exact rule i j t t' s _ _ hc ⟨.int (g i j),H,I.tok _,⟨_,rfl⟩,q⟩
theorem opI0 {f:Value->Value->Sem Value} {g:Int->Int->Int}
  (rule:∀(i j:Int) (t u:Tok) (s:Shared) (Q:Value->Shared->Prop) (E:Value->Shared->Prop),Q (.int (g i j) s.toks) {s with toks:=s.toks+1}->wpAny (model X.prog X.w) X.A (f (.int i t) (.int j u)) Q E s):
  OpR X f (rI0 fun i j=> .int (g i j)):=by
 intro pins s σ H x y v u Q I rx ry h
 obtain⟨i,j,rfl,rfl,q⟩:=h
 obtain⟨t,rfl⟩:=rx
 obtain⟨t',rfl⟩:=ry
 exact rule i j t t' s _ _ ⟨.int (g i j),H,I.tok _,⟨_,rfl⟩,q⟩
theorem opB0 {f:Value->Value->Sem Value} {g:Int->Int->Bool}
  (rule:∀(i j:Int) (t u:Tok) (s:Shared) (Q:Value->Shared->Prop) (E:Value->Shared->Prop),Q (.bool (g i j)) s->wpAny (model X.prog X.w) X.A (f (.int i t) (.int j u)) Q E s):
  OpR X f (rI0 fun i j=> .bl (g i j)):=by
 intro pins s σ H x y v u Q I rx ry h
 obtain⟨i,j,rfl,rfl,q⟩:=h
 obtain⟨t,rfl⟩:=rx
 obtain⟨t',rfl⟩:=ry
 exact rule i j t t' s _ _ ⟨.bl (g i j),H,I,rfl,q⟩
def CDiv (i j:Int):Prop:=0<j/\j<1073741824
def CPow (i j:Int):Prop:=0<=j/\j<=1000000/\i.natAbs<2 ^ 64
def CMul (i j:Int):Prop:=(-(2 ^ 64)<i/\i<2 ^ 64)∨(-(2 ^ 64)<j/\j<2 ^ 64)
theorem CMul.ok {i j:Int} (h:CMul i j):IntMulOk i j:=by
 rcases h with ⟨h1,h2⟩|⟨h1,h2⟩
 ·exact .of_left (intBits_le_64 h1 h2)
 ·exact .of_right (intBits_le_64 h1 h2)
theorem op_add:OpR X (binaryOp .Add) (rI0 fun i j=> .int (i+j)):=opI0 fun _ _ _ _ _ _ _ q=>add_int q
theorem op_sub:OpR X (binaryOp .Sub) (rI0 fun i j=> .int (i-j)):=opI0 fun _ _ _ _ _ _ _ q=>sub_int q
theorem op_mul:OpR X (binaryOp .Mult) (rI CMul fun i j=> .int (i*j)):=opI fun _ _ _ _ _ _ _ hc q=>mul_int q hc.ok
theorem op_fdiv:OpR X (binaryOp .FloorDiv) (rI CDiv fun i j=> .int (i / j)):=opI fun i j _ _ _ _ _ hc q=>by
 have h1:(0:Int)<j:=hc.1
 have h2:j<1073741824:=hc.2
 exact floordiv_int (by omega) (by rw [Int.fdiv_eq_ediv_of_nonneg i (by omega)];exact q) (.inl (PyProof.noPylong_small (by omega)))
theorem op_mod:OpR X (binaryOp .Mod) (rI (fun _ j=>0<j) fun i j=> .int (i % j)):=opI fun i j _ _ _ _ _ hc q=>by
 have h1:(0:Int)<j:=hc
 exact mod_int' (by omega) (by rw [Int.fmod_eq_emod_of_nonneg i (by omega)];exact q)
theorem op_pow:OpR X (binaryOp .Pow) (rI CPow fun i j=> .int (i ^ j.toNat)):=opI fun _ _ _ _ _ _ _ hc q=>pow_int_small hc.1 hc.2.1 hc.2.2 q
theorem unI {f:Value->Sem Value} {g:Int->Int}
  (rule:∀(i:Int) (t:Tok) (s:Shared) (Q:Value->Shared->Prop) (E:Value->Shared->Prop),Q (.int (g i) s.toks) {s with toks:=s.toks+1}->wpAny (model X.prog X.w) X.A (f (.int i t)) Q E s):
  UnR X f (rU fun i=> .int (g i)):=by
 intro pins s σ H x v Q I rx h
 obtain⟨i,rfl,q⟩:=h
 obtain⟨t,rfl⟩:=rx
 exact rule i t s _ _ ⟨.int (g i),H,I.tok _,⟨_,rfl⟩,q⟩
theorem un_neg:UnR X (unaryOp .USub) (rU fun i=> .int (-i)):=unI fun _ _ _ _ _ q=>neg_int q
end
def scal:V->V->Bool
 | .non,.non=>true| .non,.int _=>true| .int _,.non=>true| .non,.bl _=>true| .bl _,.non=>true| .non,.str _=>true| .str _,.non=>true
 | .int _,.int _=>true| .bl _,.bl _=>true| .str _,.str _=>true| .byt _,.byt _=>true
 | .int _,.str _=>true| .str _,.int _=>true| .bl _,.str _=>true| .str _,.bl _=>true
 |_,_=>false
def rEq:R2:=fun x y H Q=>scal x y=true/\Q (.bl (decide (x=y))) H
def rNe:R2:=fun x y H Q=>scal x y=true/\Q (.bl (!decide (x=y))) H
theorem dec_int {i j:Int}:decide (V.int i=V.int j)=(i==j):=by
 rw [Bool.eq_iff_iff]
 simp
theorem dec_bl {i j:Bool}:decide (V.bl i=V.bl j)=(i==j):=by
 rw [Bool.eq_iff_iff]
 simp
theorem dec_str {i j:Str}:decide (V.str i=V.str j)=(i==j):=by
 rw [Bool.eq_iff_iff]
 simp
theorem dec_byt {i j:Array UInt8}:decide (V.byt i=V.byt j)=(i.toList==j.toList):=by
 rw [Bool.eq_iff_iff]
 cases i
 cases j
 simp
section
variable {X:Cx} {a b c:Expr} {ta tb tc:TE} {pos:Pos}
theorem fin_bl {pins:List (Addr×Obj)} {σ:St} {H:Hp} {s:Shared} {Q:VK} {k k':Bool} (I:Inv X pins σ H s) (q:Q (.bl k) H) (e:k=k'):EP X pins σ Q (.bool k') s:=by
 subst e
 exact⟨.bl k,H,I,rfl,q⟩
theorem op_eq:OpR X (compareOp .Eq) rEq:=by
 intro pins s σ H x y v u Q I rx ry h
 obtain⟨hs,q⟩:=h
 cases x with
 |non=>
  cases rx
  cases y with
  |non=>cases ry;exact PySem.EqNone.eq_none_none (fin_bl I q (by simp))
  |bl j=>cases ry;exact PySem.EqNone.eq_none_bool (fin_bl I q (by simp))
  |int j=>obtain⟨t',rfl⟩:=ry;exact PySem.EqNone.eq_none_int (fin_bl I q (by simp))
  |str j=>obtain⟨t',rfl⟩:=ry;exact PySem.EqNone.eq_none_str (fin_bl I q (by simp))
  |_=>exact absurd (show false=true from hs) Bool.false_ne_true
 |bl i=>
  cases rx
  cases y with
  |non=>cases ry;exact PySem.EqNone.eq_bool_none (fin_bl I q (by simp))
  |bl j=>cases ry;exact eq_bool (fin_bl I q dec_bl)
  |str j=>obtain⟨t',rfl⟩:=ry;exact PySem.EqMixed.eq_bool_str (fin_bl I q (by simp))
  |_=>exact absurd (show false=true from hs) Bool.false_ne_true
 |int i=>
  obtain⟨t,rfl⟩:=rx
  cases y with
  |non=>cases ry;exact PySem.EqNone.eq_int_none (fin_bl I q (by simp))
  |int j=>obtain⟨t',rfl⟩:=ry;exact eq_int (fin_bl I q dec_int)
  |str j=>obtain⟨t',rfl⟩:=ry;exact PySem.EqMixed.eq_int_str (fin_bl I q (by simp))
  |_=>exact absurd (show false=true from hs) Bool.false_ne_true
 |str i=>
  obtain⟨t,rfl⟩:=rx
  cases y with
  |non=>cases ry;exact PySem.EqNone.eq_str_none (fin_bl I q (by simp))
  |bl j=>cases ry;exact PySem.EqMixed.eq_str_bool (fin_bl I q (by simp))
  |int j=>obtain⟨t',rfl⟩:=ry;exact PySem.EqMixed.eq_str_int (fin_bl I q (by simp))
  |str j=>obtain⟨t',rfl⟩:=ry;exact eq_str (fin_bl I q dec_str)
  |_=>exact absurd (show false=true from hs) Bool.false_ne_true
 |byt i=>
  obtain⟨t,rfl⟩:=rx
  cases y with
  |byt j=>obtain⟨t',rfl⟩:=ry;exact PySem.W.eq_bytes (fin_bl I q dec_byt)
  |_=>exact absurd (show false=true from hs) Bool.false_ne_true
 |_=>cases y<;>exact absurd (show false=true from hs) Bool.false_ne_true
theorem op_ne:OpR X (compareOp .NotEq) rNe:=by
 intro pins s σ H x y v u Q I rx ry h
 obtain⟨hs,q⟩:=h
 cases x with
 |non=>
  cases rx
  cases y with
  |non=>cases ry;exact PySem.EqNone.ne_none_none (fin_bl I q (by simp))
  |bl j=>cases ry;exact PySem.EqNone.ne_none_bool (fin_bl I q (by simp))
  |int j=>obtain⟨t',rfl⟩:=ry;exact PySem.EqNone.ne_none_int (fin_bl I q (by simp))
  |str j=>obtain⟨t',rfl⟩:=ry;exact PySem.EqNone.ne_none_str (fin_bl I q (by simp))
  |_=>exact absurd (show false=true from hs) Bool.false_ne_true
 |bl i=>
  cases rx
  cases y with
  |non=>cases ry;exact PySem.EqNone.ne_bool_none (fin_bl I q (by simp))
  |bl j=>cases ry;exact ne_bool (fin_bl I q (congrArg not dec_bl))
  |str j=>obtain⟨t',rfl⟩:=ry;exact PySem.EqMixed.ne_bool_str (fin_bl I q (by simp))
  |_=>exact absurd (show false=true from hs) Bool.false_ne_true
 |int i=>
  obtain⟨t,rfl⟩:=rx
  cases y with
  |non=>cases ry;exact PySem.EqNone.ne_int_none (fin_bl I q (by simp))
  |int j=>obtain⟨t',rfl⟩:=ry;exact ne_int (fin_bl I q (congrArg not dec_int))
  |str j=>obtain⟨t',rfl⟩:=ry;exact PySem.EqMixed.ne_int_str (fin_bl I q (by simp))
  |_=>exact absurd (show false=true from hs) Bool.false_ne_true
 |str i=>
  obtain⟨t,rfl⟩:=rx
  cases y with
  |non=>cases ry;exact PySem.EqNone.ne_str_none (fin_bl I q (by simp))
  |bl j=>cases ry;exact PySem.EqMixed.ne_str_bool (fin_bl I q (by simp))
  |int j=>obtain⟨t',rfl⟩:=ry;exact PySem.EqMixed.ne_str_int (fin_bl I q (by simp))
  |str j=>obtain⟨t',rfl⟩:=ry;exact ne_str (fin_bl I q (congrArg not dec_str))
  |_=>exact absurd (show false=true from hs) Bool.false_ne_true
 |byt i=>
  obtain⟨t,rfl⟩:=rx
  cases y with
  |byt j=>obtain⟨t',rfl⟩:=ry;exact PySem.W.ne_bytes (fin_bl I q (congrArg not dec_byt))
  |_=>exact absurd (show false=true from hs) Bool.false_ne_true
 |_=>cases y<;>exact absurd (show false=true from hs) Bool.false_ne_true
theorem op_lt:OpR X (compareOp .Lt) (rI0 fun i j=> .bl (decide (i<j))):=opB0 fun _ _ _ _ _ _ _ q=>lt_int q
theorem op_le:OpR X (compareOp .LtE) (rI0 fun i j=> .bl (decide (i<=j))):=opB0 fun _ _ _ _ _ _ _ q=>le_int q
theorem op_gt:OpR X (compareOp .Gt) (rI0 fun i j=> .bl (decide (j<i))):=opB0 fun _ _ _ _ _ _ _ q=>gt_int q
theorem op_ge:OpR X (compareOp .GtE) (rI0 fun i j=> .bl (decide (j<=i))):=opB0 fun _ _ _ _ _ _ _ q=>ge_int q
theorem op_notN:OpR X (compareOp .IsNot) (fun x y H Q=>y= .non/\Q (.bl (!decide (x= .non))) H):=by
 intro pins s σ H x y v u Q I rx ry h
 obtain⟨rfl,q⟩:=h
 cases ry
 refine isnot_none_gen (fin_bl I q ?_)
 cases x<;>first
  |(cases rx;rfl)
  |(obtain⟨t,rfl⟩:=rx;rfl)
theorem OpR.or {f:Value->Value->Sem Value} {r r':R2} (h:OpR X f r) (h':OpR X f r'):OpR X f (fun x y H Q=>r x y H Q∨r' x y H Q):=by
 intro pins s σ H x y v u Q I rx ry q
 rcases q with q|q
 ·exact h pins s σ H x y v u Q I rx ry q
 ·exact h' pins s σ H x y v u Q I rx ry q
theorem nomark (b:Expr) {op:CmpOp} (h:op≠ .In:=by decide) (h2:op≠ .NotIn:=by decide):behindInMarks op b=false:=by
 have e1:(op==CmpOp.In)=false:=by cases op<;>first|rfl|exact absurd rfl h
 have e2:(op==CmpOp.NotIn)=false:=by cases op<;>first|rfl|exact absurd rfl h2
 cases b<;>simp [behindInMarks,e1,e2]
theorem pe_cmpR {op:CmpOp} {r:R2} (ho:OpR X (compareOp op) r) (ha:PE X a ta) (hb:PE X b tb) (hm:behindInMarks op b=false):PE X (.Compare a [op] [b] pos) (tOp r ta tb):=by
 intro pins s σ H Q I h
 exact wpAny_Compare1 (binT ha hb I h fun v u s2 x y H2 I2 rx ry q=>ho pins s2 σ H2 x y v u Q I2 rx ry q) hm
def tTest (t:TE):TT:=fun σ H Q=>t σ H fun x H'=>∃k,x= .bl k/\Q k H'
theorem pt_cmpR {op:CmpOp} {r:R2} (ho:OpR X (compareOp op) r) (ha:PE X a ta) (hb:PE X b tb) (hm:behindInMarks op b=false):PT X (.Compare a [op] [b] pos) (tTest (tOp r ta tb)):=by
 intro pins s σ H Q I h
 refine wpAny_isTrue_Compare1 (thn (ha pins s σ H _ I h) fun v s1 ⟨x,H1,I1,r1,q1⟩=>thn (hb pins s1 σ H1 _ I1 q1) fun u s2 ⟨y,H2,I2,r2,q2⟩=>
  thn (ho pins s2 σ H2 x y v u _ I2 r1 r2 q2) fun c s3 ⟨z,H3,I3,r3,k,e,q3⟩=>?_) hm
 subst e
 cases r3
 exact wpAny_truthy_bool ⟨H3,I3,q3⟩
def tChain (r r':R2) (ta tb tc:TE):TE:=fun σ H Q=>ta σ H fun x H1=>tb σ H1 fun y H2=>r x y H2 fun z H3=>∃k,z= .bl k/\
 (if k=true then tc σ H3 fun w' H4=>r' y w' H4 Q else Q (.bl false) H3)
theorem pe_chain {op op':CmpOp} {r r':R2} (ho:OpR X (compareOp op) r) (ho':OpR X (compareOp op') r') (ha:PE X a ta) (hb:PE X b tb) (hc:PE X c tc)
  (hm:lastMarks [op,op'] [b,c]=false:=by with_unfolding_all rfl):PE X (.Compare a [op,op'] [b,c] pos) (tChain r r' ta tb tc):=by
 intro pins s σ H Q I h
 refine Compare_chain (thn (ha pins s σ H _ I h) fun v s1 ⟨x,H1,I1,r1,q1⟩=>chain_link (thn (hb pins s1 σ H1 _ I1 q1) fun u s2 ⟨y,H2,I2,r2,q2⟩=>
  thn (ho pins s2 σ H2 x y v u _ I2 r1 r2 q2) fun d s3 ⟨z,H3,I3,r3,k,e,q3⟩=>?_)) hm
 subst e
 cases r3
 refine wpAny_truthy_bool ?_
 cases k with
 |false=>exact ite_ff ⟨.bl false,H3,I3,rfl,q3⟩
 |true=>exact ite_tt (chain_last (thn (hc pins s3 σ H3 _ I3 q3) fun w' s4 ⟨z',H4,I4,r4,q4⟩=>ho' pins s4 σ H4 y z' u w' Q I4 r2 r4 q4))
theorem pt_chain {op op':CmpOp} {r r':R2} (ho:OpR X (compareOp op) r) (ho':OpR X (compareOp op') r') (ha:PE X a ta) (hb:PE X b tb) (hc:PE X c tc)
  (hm:lastMarks [op,op'] [b,c]=false:=by with_unfolding_all rfl):PT X (.Compare a [op,op'] [b,c] pos) (tTest (tChain r r' ta tb tc)):=by
 intro pins s σ H Q I h
 refine isTrue_chain (thn (ha pins s σ H _ I h) fun v s1 ⟨x,H1,I1,r1,q1⟩=>test_link (thn (hb pins s1 σ H1 _ I1 q1) fun u s2 ⟨y,H2,I2,r2,q2⟩=>
  thn (ho pins s2 σ H2 x y v u _ I2 r1 r2 q2) fun d s3 ⟨z,H3,I3,r3,k,e,q3⟩=>?_)) hm
 subst e
 cases r3
 refine wpAny_truthy_bool ?_
 cases k with
 |false=>
  obtain⟨k',e',q'⟩:=q3
  cases e'
  exact ite_ff ⟨H3,I3,q'⟩
 |true=>
  refine ite_tt (test_last (thn (hc pins s3 σ H3 _ I3 q3) fun w' s4 ⟨z',H4,I4,r4,q4⟩=>thn (ho' pins s4 σ H4 y z' u w' _ I4 r2 r4 q4) fun d' s5 ⟨z2,H5,I5,r5,k2,e2,q5⟩=>?_))
  subst e2
  cases r5
  exact wpAny_truthy_bool ⟨H5,I5,q5⟩
theorem line63:(sizeLine:Nat)<2 ^ 63:=by rw [sizeLine_eq];decide
theorem vals1 {x:V} {us:List Value} (r:Vals [x] us):∃u,us=[u]/\RelV x u:=by
 cases r with
 |cons r1 r2=>cases r2;exact⟨_,rfl,r1⟩
theorem vals2 {x y:V} {us:List Value} (r:Vals [x,y] us):∃u w',us=[u,w']/\RelV x u/\RelV y w':=by
 cases r with
 |cons r1 r2=>
  cases r2 with
  |cons r3 r4=>cases r4;exact⟨_,_,rfl,r1,r3⟩
theorem call_min2 (hc:X.calm=true):CallR X (.builtin "min") (fun xs H Q=>∃i j,xs=[.int i,.int j]/\Q (.int (if j<i then j else i)) H):=by
 intro pins s σ H xs us Q I r h
 obtain⟨i,j,rfl,q⟩:=h
 obtain⟨u,w',rfl,⟨t,rfl⟩,⟨t',rfl⟩⟩:=vals2 r
 refine min_two_ints (I.ok.hd hc) fun h' tk k=>⟨_,H,I.kept k,?_,q⟩
 by_cases hj:j<i
 ·rw [if_pos hj,if_pos hj];exact⟨_,rfl⟩
 ·rw [if_neg hj,if_neg hj];exact⟨_,rfl⟩
theorem call_int1:CallR X (.type "int") (fun xs H Q=>(∃i,xs=[.int i]/\Q (.int i) H)∨∃k,xs=[.bl k]/\Q (.int (if k then 1 else 0)) H):=by
 intro pins s σ H xs us Q I r h
 rcases h with ⟨i,rfl,q⟩|⟨k,rfl,q⟩
 ·obtain⟨u,rfl,t,rfl⟩:=vals1 r
  exact call_int_int ⟨.int i,H,I,⟨_,rfl⟩,q⟩
 ·obtain⟨u,rfl,r1⟩:=vals1 r
  cases r1
  exact call_int_bool ⟨.int (if k then 1 else 0),H,I.tok _,⟨_,rfl⟩,q⟩
end
end L2
namespace L2
open PySem PySem.Spec PyProof.Rows
structure ObjM (h:Heap) (x dx C:Addr) (mA:Str->Option Value):Prop where
 obj:h.get? x=some (PySem.W.instObj C dx)
 ns:h.Ns1 dx mA
 ne:dx≠x
theorem lookIn_ns {h:Heap} {dx:Addr} {mA:Str->Option Value} (n:h.Ns1 dx mA):∃od,h.get? dx=some od/\∀name,PySem.W.lookIn name od=some (mA name):=by
 obtain⟨o,es,ep,ho,hd,hk,_,hm⟩:=n
 refine⟨o,ho,fun name=>?_⟩
 have e:=hm name
 unfold nsFind findBy at e
 rw [<-Array.find?_toList]at e
 unfold PySem.W.lookIn
 rw [hd]
 dsimp only
 split
 ·rename_i y q
  rw [q]at e
  exact congrArg some e
 ·rename_i q
  rw [q]at e
  have a:es.toList.any (·.refKey)=false:=by
   rw [List.any_eq_false]
   intro y hy
   obtain⟨z,t,hkey⟩:=hk y (Array.mem_toList_iff.mp hy)
   simp [DictEntry.refKey,hkey]
  have a':¬es.toList.any (·.refKey)=true:=by rw [a];exact Bool.false_ne_true
  rw [if_neg a']
  exact congrArg some e
theorem ObjM.look {h:Heap} {x dx C:Addr} {mA:Str->Option Value} (I:ObjM h x dx C mA):∃od,PySem.W.InstAt h x (PySem.W.instObj C dx) C (some od)/\∀name,PySem.W.lookIn name od=some (mA name):=
 let⟨od,ho,hl⟩:=lookIn_ns I.ns
 ⟨od,⟨I.obj,rfl,rfl,ho⟩,hl⟩
section
variable {prog:Program} {w:World} {A:Around} {E:Value->Shared->Prop} {s:Shared} {K:PySem.W.Frag} {x dx C f:Addr} {mA:Str->Option Value} {name:Str} {v:Value}
theorem get_map {expr:Bool} {Q:Value->Shared->Prop} (X:K.In s.heap) (I:ObjM s.heap x dx C mA) (hg:PySem.W.plainGet K C name=true) (hh:PySem.W.hasDictIn K C=true)
  (ha:PySem.W.findIn K (.ref C) name=some none) (hv:mA name=some v) (hv':PySem.W.handedIn v=true) (h:Q v {s with toks:=s.toks+1}):
  wpAny (model prog w) A (getAttr (.ref x) name expr) Q E s:=by
 obtain⟨od,J,hl⟩:=I.look
 exact PySem.W.get_value X J (PySem.W.plainGet_of hg).1 (PySem.W.findObj_own hh ha rfl (by rw [hl,hv])) hv' h
theorem get_meth {pl:Sem Bool} {Q:Value×List Value->Shared->Prop} (X:K.In s.heap) (I:ObjM s.heap x dx C mA) (hg:PySem.W.plainGet K C name=true)
  (hf:PySem.W.findIn K (.ref C) name=some (some (.ref f))) (ht:PySem.W.isFn K (.ref f)=true) (hv:mA name=none) (h:Q (.ref f,[.ref x]) s):
  wpAny (model prog w) A (getMethod (.ref x) name pl) Q E s:=by
 obtain⟨od,J,hl⟩:=I.look
 exact PySem.W.method_fn X J (PySem.W.plainGet_of hg).1 (PySem.W.plainGet_of hg).2 hf (beq_iff_eq.mp ht) (by show(PySem.W.lookIn name od).map (·.isSome)=some false;rw [hl,hv];rfl) h
theorem set_map {ns:List Str} {Q:Unit->Shared->Prop} (X:K.In s.heap) (I:ObjM s.heap x dx C mA)
  (hs:PySem.W.findIn K (.ref C) "__setattr__"=some (some (.builtin "object.__setattr__"))) (hp:PySem.W.plainOver K C=true) (ht:PySem.W.takerIn K C name=some none) (hh:PySem.W.hasDictIn K C=true)
  (hw:PySem.Within mA ns) (hsz:ns.length<=sizeLine)
  (h:∀h',ObjM h' x dx C (fun y=>if y=name then some v else mA y)->Heap.SameBut dx s.heap h'->Q () {s with heap:=h',toks:=s.toks+2}):
  wpAny (model prog w) A (setAttr (.ref x) name v) Q E s:=by
 obtain⟨od,J,hl⟩:=I.look
 refine PySem.W.set_plain X J hs (PySem.W.osa_open (s:={s with toks:=s.toks+1}) (r:=none) X J hp ht fun b=>?_)
 obtain⟨cd,hc,hd'⟩:=PySem.W.any_some hh
 have hx:s.heap.get? x=some ⟨.ref C,some dx,.plain, #[]⟩:=I.obj
 refine wpAny_bind (wpAny_pure (wpAny_bind (wpAny_bind (wpAny_loadPart hx (wpAny_bind (PySem.W.Looks.here (s:={s with toks:=s.toks+1}) (PySem.W.looks_clsIn X hc) ?_))))))
 rw [hd']
 refine wpAny_pure (a:=some dx) (wpAny_bind (wpAny_pure (wpAny_bind ?_)))
 refine wpAny_nsSet1 (s:={s with toks:=s.toks+1}) I.ns fun h' hn2 hs2=>?_
 obtain⟨oD,esD,epD,hoD,hdD,hcD⟩:=hn2.count (PySem.Within.cons name v hw)
 refine wpAny_bind (wpAny_lookBehind hoD (by rw [hdD];exact pastItsLine_dict (Nat.le_trans hcD (by rw [List.length_cons];omega))) ?_)
 exact wpAny_pure (h _ ⟨(hs2.2 _ (Ne.symm I.ne)).trans I.obj,hn2,I.ne⟩ hs2)
theorem make_map {R:Result->Shared->Prop} {vs:List Value} {kw:List (Str×Value)} (X:K.In s.heap) (hm:PySem.W.makesIn K C=true)
  (hi:PySem.W.findIn K (.ref C) "__init__"=some (some (.ref f))) (hf:PySem.W.typeIn K (.ref f)=some (.type "function"))
  (h:codeAny (model prog w) (A.under (.builtin "type.__call__" ⟨.ref C::vs,kw⟩)) (.call (.ref f) ⟨.ref (s.heap.objs.size+1)::vs,kw⟩) (PySem.W.InitBack (s.heap.objs.size+1) R)
   {s with heap:=(s.heap.push PySem.W.emptyDict).push (PySem.W.instObj C s.heap.objs.size)}):
  codeAny (model prog w) A (.call (.ref C) ⟨vs,kw⟩) R s:=by
 obtain⟨hh,g,d,t,os⟩:=s
 exact PySem.W.make_core (PySem.W.makes_of X hm) (PySem.W.looks_findIn X hi) (fun self=>PySem.W.bind_fn X self hf) (.inl rfl) h
end
def putF (f:Str) (v:V):List (Str×V)->List (Str×V)
 | []=>[(f,v)]
 |(g,x)::r=>if g=f then(g,v)::r else(g,x)::putF f v r
theorem lookup_putF (f g:Str) (v:V):∀fs:List (Str×V),(putF f v fs).lookup g=if g=f then some v else fs.lookup g
 | []=>by
  show List.lookup g [(f,v)]=_
  by_cases h:g=f
  ·have hb:(g==f)=true:=beq_iff_eq.mpr h
   simp only [List.lookup,hb,if_pos h]
  ·have hb:(g==f)=false:=beq_eq_false_iff_ne.mpr h
   simp only [List.lookup,hb,if_neg h]
 |(k,x)::r=>by
  have ih:=lookup_putF f g v r
  rw [show putF f v ((k,x)::r)=(if k=f then(k,v)::r else(k,x)::putF f v r)from rfl]
  by_cases hk:k=f
  ·rw [if_pos hk]
   by_cases h:g=k
   ·have hb:(g==k)=true:=beq_iff_eq.mpr h
    simp only [List.lookup,hb,if_pos (h.trans hk)]
   ·have hb:(g==k)=false:=beq_eq_false_iff_ne.mpr h
    simp only [List.lookup,hb,if_neg (fun e:g=f=>h (e.trans hk.symm))]
  ·rw [if_neg hk]
   by_cases h:g=k
   ·have hb:(g==k)=true:=beq_iff_eq.mpr h
    simp only [List.lookup,hb,if_neg (fun e:g=f=>hk (h.symm.trans e))]
   ·have hb:(g==k)=false:=beq_eq_false_iff_ne.mpr h
    simp only [List.lookup,hb]
    exact ih
theorem keys_putF (f:Str) (v:V):∀fs:List (Str×V),f∈(putF f v fs).map (·.1)/\∀g,g∈fs.map (·.1)->g∈(putF f v fs).map (·.1)
 | []=>⟨by simp [putF],fun g h=>by simp at h⟩
 |(k,x)::r=>by
  obtain⟨i1,i2⟩:=keys_putF f v r
  rw [show putF f v ((k,x)::r)=(if k=f then(k,v)::r else(k,x)::putF f v r)from rfl]
  by_cases hk:k=f
  ·rw [if_pos hk]
   subst hk
   exact⟨by simp,fun g h=>by simpa using h⟩
  ·rw [if_neg hk]
   refine⟨?_,fun g h=>?_⟩
   ·rw [List.map_cons]
    exact List.mem_cons_of_mem _ i1
   ·rw [List.map_cons]at h⊢
    rcases List.mem_cons.mp h with e|e
    ·exact List.mem_cons.mpr (.inl e)
    ·exact List.mem_cons_of_mem _ (i2 g e)
theorem length_putF (f:Str) (v:V):∀fs:List (Str×V),(putF f v fs).length<=fs.length+1
 | []=>by simp [putF]
 |(k,x)::r=>by
  have ih:=length_putF f v r
  rw [show putF f v ((k,x)::r)=(if k=f then(k,v)::r else(k,x)::putF f v r)from rfl]
  by_cases hk:k=f
  ·rw [if_pos hk,List.length_cons,List.length_cons];omega
  ·rw [if_neg hk,List.length_cons,List.length_cons];omega
theorem RelO.some_of {v:V} {o:Option Value} (r:RelO (some v) o):∃u,o=some u/\RelV v u:=by
 cases o with
 |none=>exact(show False from r).elim
 |some u=>exact⟨u,rfl,r⟩
theorem RelO.none_of {o:Option Value} (r:RelO none o):o=none:=by
 cases o with
 |none=>rfl
 |some u=>exact(show False from r).elim
theorem handed_of {v:V} {u:Value} (r:RelV v u):PySem.W.handedIn u=true:=by
 cases v with
 |non=>cases (show u=Value.none from r);rfl
 |bl b=>cases (show u=Value.bool b from r);rfl
 |int i=>obtain⟨t,e⟩:=(show∃t,u=Value.int i t from r);cases e;rfl
 |str x=>obtain⟨t,e⟩:=(show∃t,u=Value.str x t from r);cases e;rfl
 |byt b=>obtain⟨t,e⟩:=(show∃t,u=Value.bytes b t from r);cases e;rfl
 |flt b=>obtain⟨t,e⟩:=(show∃t,u=Value.float b t from r);cases e;rfl
 |ref a=>cases (show u=Value.ref a from r);rfl
 |ty n=>cases (show u=Value.type n from r);rfl
section
variable {P:Program} {w:World} {H H':Hp} {h h':Heap} {a C dx:Addr} {fs fs':List (Str×V)}
theorem ins_get (hok:HOk P w H h) (e:H a=some (.ins C dx fs)):∃mA,ObjM h a dx C mA/\(∀f,RelO (fs.lookup f) (mA f))/\PySem.Within mA (fs.map (·.1))/\fs.length<=1000/\H dx=some (.own a):=by
 obtain⟨d,z,ne,ob,mA,n,r,q⟩:=(show ObjOk P w H h a (.ins C dx fs)from hok a _ e)
 exact⟨mA,⟨ob,n,ne⟩,r,q,z,d⟩
end
structure Cls (K:PySem.W.Frag) (C:Addr):Prop where
 pg:PySem.W.plainGet K C Str.empty=true
 hd:PySem.W.hasDictIn K C=true
 po:PySem.W.plainOver K C=true
 sa:PySem.W.findIn K (.ref C) "__setattr__"=some (some (.builtin "object.__setattr__"))
theorem Cls.get {K:PySem.W.Frag} {C:Addr} (c:Cls K C) (f:Str):PySem.W.plainGet K C f=true:=c.pg
def NoAttr (K:PySem.W.Frag) (C:Addr) (f:Str):Prop:=PySem.W.findIn K (.ref C) f=some none
theorem NoAttr.taker {K:PySem.W.Frag} {C:Addr} {f:Str} (n:NoAttr K C f):PySem.W.takerIn K C f=some none:=by
 unfold PySem.W.takerIn
 rw [show PySem.W.findIn K (.ref C) f=some none from n]
 rfl
structure Meth (K:PySem.W.Frag) (C:Addr) (m:Str) (f:Addr):Prop where
 at_:PySem.W.findIn K (.ref C) m=some (some (.ref f))
 fn:PySem.W.isFn K (.ref f)=true
 kp:PySem.W.keepIn K (.ref f)=true
section
variable {X:Cx} {pins:List (Addr×Obj)} {σ:St} {H:Hp} {s:Shared} {a C dx:Addr} {fs:List (Str×V)} {f:Str} {v:V} {A:Around} {E:Value->Shared->Prop}
theorem getattr_ok {b:Bool} {Q:Value->Shared->Prop} (I:Inv X pins σ H s) (e:H a=some (.ins C dx fs)) (c:Cls X.K C) (n:NoAttr X.K C f) (l:fs.lookup f=some v)
  (h:∀u s',Inv X pins σ H s'->RelV v u->Q u s'):wpAny (model X.prog X.w) A (getAttr (.ref a) f b) Q E s:=by
 obtain⟨mA,O,r,_,_,_⟩:=ins_get I.hok e
 obtain⟨u,hu,ru⟩:=RelO.some_of (v:=v) (o:=mA f) (by rw [<-l];exact r f)
 exact get_map I.kIn O (c.get f) c.hd n hu (handed_of ru) (h u _ (I.tok _) ru)
theorem getmeth_ok {m:Str} {g:Addr} {pl:Sem Bool} {Q:Value×List Value->Shared->Prop} (I:Inv X pins σ H s) (e:H a=some (.ins C dx fs)) (c:Cls X.K C) (k:Meth X.K C m g) (l:fs.lookup m=none)
  (h:Q (.ref g,[.ref a]) s):wpAny (model X.prog X.w) A (getMethod (.ref a) m pl) Q E s:=by
 obtain⟨mA,O,r,_,_,_⟩:=ins_get I.hok e
 have hn:mA m=none:=RelO.none_of (by rw [<-l];exact r m)
 exact get_meth I.kIn O (c.get m) k.at_ k.fn hn h
theorem setattr_ok {y:V} {u:Value} {Q:Unit->Shared->Prop} (I:Inv X pins σ H s) (e:H a=some (.ins C dx fs)) (c:Cls X.K C) (n:NoAttr X.K C f) (hl:fs.length<1000) (ry:RelV y u)
  (h:∀s',Inv X pins σ (upd H a (.ins C dx (putF f y fs))) s'->Q () s'):wpAny (model X.prog X.w) A (setAttr (.ref a) f u) Q E s:=by
 obtain⟨mA,O,r,wi,_,ho⟩:=ins_get I.hok e
 have hz:(fs.map (·.1)).length<=sizeLine:=by rw [List.length_map,sizeLine_eq];omega
 refine set_map I.kIn O c.sa c.po n.taker c.hd wi hz fun h' O' sb=>h _ ?_
 have hd:∃o,h'.get? dx=some o:=let⟨o,_,_,e',_⟩:=O'.ns;⟨o,e'⟩
 refine I.write (x:=a) (e:=dx) (by rw [e];exact True.intro) (.inr ho) (fun b q hb z=>(sb.2 b hb).trans z) hd ?_
 refine⟨by rw [upd_ne O.ne];exact ho,?_,O.ne,O'.obj,_,O'.ns,fun g=>?_,fun g hg=>?_⟩
 ·have:=length_putF f y fs;omega
 ·show RelO ((putF f y fs).lookup g) (if g=f then some u else mA g)
  rw [lookup_putF]
  by_cases q:g=f
  ·rw [if_pos q,if_pos q];exact ry
  ·rw [if_neg q,if_neg q];exact r g
 ·by_cases q:g=f
  ·rw [q];exact(keys_putF f y fs).1
  ·refine(keys_putF f y fs).2 g (wi g fun z=>hg ?_)
   show(if g=f then some u else mA g)=none
   rw [if_neg q];exact z
theorem Inv.made (I:Inv X pins σ H s):Inv X pins σ (upd (upd H s.heap.objs.size (.own (s.heap.objs.size+1))) (s.heap.objs.size+1) (.ins C s.heap.objs.size []))
  {s with heap:=(s.heap.push PySem.W.emptyDict).push (PySem.W.instObj C s.heap.objs.size)}:=by
 have e1:(s.heap.push PySem.W.emptyDict).get? s.heap.objs.size=some PySem.W.emptyDict:=Heap.get?_push_size s.heap rfl
 have e2:((s.heap.push PySem.W.emptyDict).push (PySem.W.instObj C s.heap.objs.size)).get? (s.heap.objs.size+1)=some (PySem.W.instObj C s.heap.objs.size):=by
  have:=Heap.get?_push_size (s.heap.push PySem.W.emptyDict) (o:=PySem.W.instObj C s.heap.objs.size) rfl
  rwa [Heap.size_push]at this
 have e3:(s.heap.push PySem.W.emptyDict).Ns s.heap.objs.size (fun _=>none):=⟨PySem.W.emptyDict, #[],_,e1,rfl,(fun e he=>absurd he (by simp)),fun _=>rfl⟩
 have I1:=I.laid (a:=s.heap.objs.size) (o:= .own (s.heap.objs.size+1)) (h':=s.heap.push PySem.W.emptyDict) (t':=s.toks) (fun b u q=>Heap.get?_push_of_some _ q) (Nat.le_refl _) ⟨_,e1⟩
 refine I1.laid (a:=s.heap.objs.size+1) (o:= .ins C s.heap.objs.size []) (t':=s.toks) (fun b u q=>Heap.get?_push_of_some _ q) (Nat.le_of_eq (Heap.size_push _ _)) ?_
 have ne:s.heap.objs.size≠s.heap.objs.size+1:=Nat.ne_of_lt (Nat.lt_succ_self _)
 refine⟨by rw [upd_ne ne,upd_same],Nat.zero_le _,ne,e2,fun _=>none,(Heap.Ns1.of_empty e3).at fun o q=>Heap.get?_push_of_some _ q,fun _=>True.intro,fun y hy=>absurd rfl hy⟩
theorem attr_of {prog:Program} {w:World} {env:Env} {e:Expr} {f:Str} {pos:Pos} {s:Shared} {Q:Value->Shared->Prop} (hb:attributeBase e f env (eval e env)=eval e env)
  (h:wpAny (model prog w) A (eval e env) (fun o s₁=>wpAny (model prog w) A (getAttr o f true) Q E s₁) E s):wpAny (model prog w) A (eval (.Attribute e f pos) env) Q E s:=
 Attribute_any_ h (by rw [arm_eval_Attribute,hb])
end
def tFld (K:PySem.W.Frag) (ta:TE) (f:Str):TE:=fun σ H Q=>ta σ H fun x H1=>∃a C dx fs v,x= .ref a/\H1 a=some (.ins C dx fs)/\Cls K C/\NoAttr K C f/\fs.lookup f=some v/\Q v H1
def sFld (K:PySem.W.Frag) (ta tv:TE) (f:Str):TS:=fun D σ H=>tv σ H fun y H1=>ta σ H1 fun x H2=>∃a C dx fs,x= .ref a/\H2 a=some (.ins C dx fs)/\Cls K C/\NoAttr K C f/\fs.length<1000/\
 D.nx σ (upd H2 a (.ins C dx (putF f y fs)))
section
variable {X:Cx} {o e value:Expr} {f:Str} {pos pos' tpos:Pos} {ta tv:TE}
theorem pe_fld (he:PE X e ta) (hb:attributeBase e f X.env (eval e X.env)=eval e X.env):PE X (.Attribute e f pos) (tFld X.K ta f):=by
 intro pins s σ H Q I h
 refine attr_of hb (thn (he pins s σ H _ I h) fun u s1 ⟨x,H1,I1,rx,a,C,dx,fs,v,ex,ea,c,n,l,q⟩=>?_)
 subst ex
 obtain rfl:u=Value.ref a:=rx
 exact getattr_ok I1 ea c n l fun u' s2 I2 ru=>⟨v,H1,I2,ru,q⟩
theorem ps_fld (ha:PE X o ta) (hv:PE X value tv) (hs:swapsWith value (some (.Attribute o f pos')) pos.line X.env=pure false):PS X (.Assign [.Attribute o f pos'] value pos) (sFld X.K ta tv f):=by
 intro pins s σ H D I h
 refine plainObj_wpAny_Assign_Attribute (thn (hv pins s σ H _ I h) fun u s1 ⟨y,H1,I1,ry,q⟩=>thn (ha pins s1 σ H1 _ I1 q) fun ov s2 ⟨x,H2,I2,rx,a,C,dx,fs,ex,ea,c,n,l,q2⟩=>?_) hs
 subst ex
 obtain rfl:ov=Value.ref a:=rx
 exact setattr_ok I2 ea c n l ry fun s3 I3=>⟨σ,_,I3,q2⟩
end
section
variable {X:Cx} {pins:List (Addr×Obj)} {σ:St} {H:Hp} {s:Shared} {A:Around} {E:Value->Shared->Prop} {Q:Value->Shared->Prop} {c:Value} {b:Bool}
inductive TyOf (K:PySem.W.Frag) (H:Hp):V->Value->Prop where
 |non:TyOf K H .non (.type "NoneType")
 |bl (x:Bool):TyOf K H (.bl x) (.type "bool")
 |int (i:Int):TyOf K H (.int i) (.type "int")
 |str (x:Str):TyOf K H (.str x) (.type "str")
 |flt (x:UInt64):TyOf K H (.flt x) (.type "float")
 |lst {a:Addr} {xs:List V} (e:H a=some (.lst xs)):TyOf K H (.ref a) (.type "list")
 |frz {a:Addr} {o:Obj} {xs:List V} (e:H a=some (.frz o (.lst xs))):TyOf K H (.ref a) (.type "list")
 |tup {a:Addr} {xs:List V} (e:H a=some (.tup xs)):TyOf K H (.ref a) (.type "tuple")
 |dK {a:Addr} {kvs:List (Key×V)} (e:H a=some (.dK kvs)):TyOf K H (.ref a) (.type "dict")
 |dT {a:Addr} {kvs:List (List Key×V)} (e:H a=some (.dT kvs)):TyOf K H (.ref a) (.type "dict")
 |ins {a C dx:Addr} {fs:List (Str×V)} (e:H a=some (.ins C dx fs)) (cl:Cls K C) (ha:PySem.W.findIn K (.ref C) "__class__"=some (some (.builtin "object.__class__")))
   (hn:PySem.W.specialIn K (.builtin "object.__class__") "__get__"=some (some (.builtin "getset_descriptor.__get__"))) (htk:PySem.W.takesIn K (.builtin "object.__class__")=some true)
   (hm:PySem.W.mroIn K C (.type "object")=some true):TyOf K H (.ref a) (.ref C)
theorem isinst_ok {x:V} {u t:Value} (I:Inv X pins σ H s) (rx:RelV x u) (ty:TyOf X.K H x t) (e:PySem.W.kitOne X.K t c=some b) (h:∀tk,Q (.bool b) {s with toks:=tk}):
  wpAny (model X.prog X.w) A (call (.builtin "isinstance") [u,c]) Q E s:=by
 cases ty with
 |non=>cases (show u=Value.none from rx);exact PySem.W.kia_one PySem.W.kitx_none I.kIn True.intro e (fun z=>nomatch z) h
 |bl y=>cases (show u=Value.bool y from rx);exact PySem.W.kia_one PySem.W.kitx_bool I.kIn True.intro e (fun z=>nomatch z) h
 |int i=>obtain⟨t,q⟩:=(show∃t,u=Value.int i t from rx);cases q;exact PySem.W.kia_one PySem.W.kitx_int I.kIn True.intro e (fun z=>nomatch z) h
 |str y=>obtain⟨t,q⟩:=(show∃t,u=Value.str y t from rx);cases q;exact PySem.W.kia_one PySem.W.kitx_str I.kIn True.intro e (fun z=>nomatch z) h
 |flt y=>obtain⟨t,q⟩:=(show∃t,u=Value.float y t from rx);cases q;exact PySem.W.kia_one PySem.W.kitx_float I.kIn True.intro e (fun z=>nomatch z) h
 |@lst a xs ea=>
  cases (show u=Value.ref a from rx)
  obtain⟨_,_,n,_,h1⟩:=(show ObjOk X.prog X.w H s.heap a (.lst xs)from I.hok a _ ea)
  exact PySem.W.kia_one PySem.W.kitx_list I.kIn ⟨_,h1,rfl⟩ e (fun z=>nomatch z) h
 |@frz a ob xs ea=>
  cases (show u=Value.ref a from rx)
  obtain⟨_,_,_,n,_,h1⟩:=(show ObjOk X.prog X.w H s.heap a (.frz ob (.lst xs))from I.hok a _ ea)
  exact PySem.W.kia_one PySem.W.kitx_list I.kIn ⟨_,h1,rfl⟩ e (fun z=>nomatch z) h
 |@tup a xs ea=>
  cases (show u=Value.ref a from rx)
  obtain⟨_,_,_,p⟩:=(show ObjOk X.prog X.w H s.heap a (.tup xs)from I.hok a _ ea)
  obtain⟨o,h1,h2,_⟩:=p
  exact PySem.W.kia_one PySem.W.kitx_tuple I.kIn ⟨o,h1,h2⟩ e (fun z=>nomatch z) h
 |@dK a kvs ea=>
  cases (show u=Value.ref a from rx)
  obtain⟨_,_,vs,_,p⟩:=(show ObjOk X.prog X.w H s.heap a (.dK kvs)from I.hok a _ ea)
  obtain⟨o,es,ep,h1,h2,_⟩:=p
  exact PySem.W.kia_one PySem.W.kitx_dict I.kIn ⟨o,h1,h2.1⟩ e (fun z=>nomatch z) h
 |@dT a kvs ea=>
  cases (show u=Value.ref a from rx)
  obtain⟨_,_,xs,_,o,es,ep,h1,h2,_⟩:=(show ObjOk X.prog X.w H s.heap a (.dT kvs)from I.hok a _ ea)
  exact PySem.W.kia_one PySem.W.kitx_dict I.kIn ⟨o,h1,h2.1⟩ e (fun z=>nomatch z) h
 |@ins a C dx fs ea cl ha hn htk hm=>
  cases (show u=Value.ref a from rx)
  obtain⟨mA,O,_⟩:=ins_get I.hok ea
  obtain⟨od,J,_⟩:=O.look
  exact PySem.W.kia_one (PySem.W.kitx_own (cl.get _) cl.hd ha hn htk hm) I.kIn J e (fun z=>nomatch z) h
end
end L2
namespace L2
open PySem PySem.Spec PyProof.Rows
structure Room (k:Nat) (A:Around):Prop where
 hd:A.handled=none
 dp:A.depth+3*k+5<recursionLimit
 un:A.units+16*k+200<cLine
theorem Room.mono {j k:Nat} {A:Around} (r:Room k A) (h:j<=k):Room j A:=⟨r.hd,by have:=r.dp;omega,by have:=r.un;omega⟩
theorem Room.deeper {k:Nat} {A:Around} (r:Room (k+1) A) (env:Env):Room k (A.deeper env):=
 ⟨r.hd,by have:=r.dp;show A.depth+1+3*k+5<_;omega,by have:=r.un;show A.units+3+16*k+200<_;omega⟩
theorem make_depth {A:Around} {C:Addr} {us:List Value} {kw:List (Str×Value)}:(A.under (.builtin "type.__call__" ⟨.ref C::us,kw⟩)).depth=A.depth+1:=by
 first|rfl|simp [Around.under,Code.weight,Code.isCreation,Code.isGuard,Code.isCaller,Code.frames,Code.isFrame,guardIds]
theorem make_units {A:Around} {C:Addr} {us:List Value} {kw:List (Str×Value)}:(A.under (.builtin "type.__call__" ⟨.ref C::us,kw⟩)).units=A.units+1:=by
 first|rfl|simp [Around.under,Code.cUnits,Code.frames,Code.isFrame]
theorem Room.make {k:Nat} {A:Around} (r:Room (k+1) A) (C:Addr) (us:List Value) (kw:List (Str×Value)):Room k (A.under (.builtin "type.__call__" ⟨.ref C::us,kw⟩)):=
 ⟨r.hd,by have:=r.dp;rw [make_depth];omega,by have:=r.un;rw [make_units];omega⟩
theorem Room.depth {k:Nat} {A:Around} (r:Room k A):A.depth<recursionLimit:=by have:=r.dp;omega
theorem Room.units {k:Nat} {A:Around} (r:Room k A):A.units+64<cLine:=by have:=r.un;omega
def tNil:TA:=fun _ H Q=>Q [] H
def tCons (ta:TE) (tr:TA):TA:=fun σ H Q=>ta σ H fun x H1=>tr σ H1 fun xs H2=>Q (x::xs) H2
section
variable {X:Cx} {e:Expr} {es:List Expr} {te:TE} {t:TA} {pos:Pos}
theorem pa_nil:PA X [] tNil:=fun _ _ _ _ H Q I h=>Calls.spliced_nil ⟨[],H,I,.nil,h⟩
theorem pa_cons (ha:PE X e te) (hr:PA X es t) (hs:starEach (e::es) X.env=(false,eval e X.env)::starEach es X.env:=by rfl):PA X (e::es) (tCons te t):=by
 intro pos pins s σ H Q I h
 rw [hs]
 show wpAny _ _ (spliced ((false,eval e X.env)::backTo pos (starEach es X.env))) _ _ s
 refine Calls.spliced_cons (thn (ha pins s σ H _ I h) fun u s1 ⟨x,H1,I1,r1,q1⟩=>?_)
 exact thn (hr pos pins s1 σ H1 _ I1 q1) fun us s2 ⟨xs,H2,I2,r2,q2⟩=>⟨x::xs,H2,I2,.cons r1 r2,q2⟩
def tTup (t:TA):TE:=fun σ H Q=>t σ H fun xs H1=>xs.length<=sizeLine/\∀p,H1 p=none->Q (.ref p) (upd H1 p (.tup xs))
def tLst (t:TA):TE:=fun σ H Q=>t σ H fun xs H1=>xs.length<=sizeLine/\∀p,H1 p=none->Q (.ref p) (upd H1 p (.lst xs))
theorem pe_tup {x1} (h:PA X es t):PE X (.Tuple es x1 pos) (tTup t):=by
 intro pins s σ H Q I hq
 refine wpAny_Tuple_spliced (thn (h pos pins s σ H _ I hq) fun us s1 ⟨xs,H1,I1,r,z,q⟩=>⟨by rw [<-r.length];exact z,?_⟩)
 have hf:H1 s1.heap.objs.size=none:=I1.hok.fresh (Nat.le_refl _)
 refine⟨.ref s1.heap.objs.size,upd H1 s1.heap.objs.size (.tup xs),I1.laid (t':=s1.toks) (fun b u e=>Heap.get?_push_of_some _ e) (Nat.le_refl _) ?_,rfl,q _ hf⟩
 exact⟨z,us,r,⟨_,Heap.get?_push_size _ rfl,rfl,_,rfl⟩⟩
theorem pe_lst (h:PA X es t):PE X (.List es pos) (tLst t):=by
 intro pins s σ H Q I hq
 refine wpAny_List_spliced (thn (h pos pins s σ H _ I hq) fun us s1 ⟨xs,H1,I1,r,z,q⟩=>⟨by rw [<-r.length];exact z,?_⟩)
 have hf:H1 s1.heap.objs.size=none:=I1.hok.fresh (Nat.le_refl _)
 refine⟨.ref s1.heap.objs.size,upd H1 s1.heap.objs.size (.lst xs),I1.laid (t':=s1.toks) (fun b u e=>Heap.get?_push_of_some _ e) (Nat.le_refl _) ?_,rfl,q _ hf⟩
 exact⟨z,us,0,r,Heap.get?_push_size _ rfl⟩
end
abbrev Sp:=List V->Hp->VK->XK->Prop
abbrev CXT:=List Env->Hp->Shared->XK->Value->Shared->Prop
structure Env0 (P:Program) (w:World) (K:PySem.W.Frag) (mg:Str->Option Value) (base:Heap) (A:Around) (outer:List Env) (s:Shared) (H:Hp):Prop where
 frames:A.frames=some outer
 mod:Mod K mg base
 bs:∀b o,base.get? b=some o->s.heap.get? b=some o/\H b=none
 bsz:base.objs.size<=s.heap.objs.size
 funs:s.heap.FunFrames base outer
 frf:∀b∈frs outer,H b=none
 hok:HOk P w H s.heap
 bare:AllBare s.gens
def CE (outer:List Env) (P:Program) (w:World) (H:Hp) (s:Shared) (Q:VK) (u:Value) (s':Shared):Prop:=
 ∃v H',s'.os=s.os/\AllBare s'.gens/\Un (frs outer) [] H H' s.heap s'.heap/\HOk P w H' s'.heap/\RelV v u/\Q v H'
def CR (CX:CXT) (outer:List Env) (P:Program) (w:World) (H:Hp) (s:Shared) (Q:VK) (E:XK) (r:Result) (s':Shared):Prop:=
 match r with
 | .ok (.ret u)=>CE outer P w H s Q u s'
 | .ok _=>False
 | .error e=>CX outer H s E e s'
structure FnOk (P:Program) (w:World) (K:PySem.W.Frag) (mg:Str->Option Value) (base:Heap) (CX:CXT) (k:Nat) (f:Addr) (fd:FuncData) (ps:List Str) (sp:Sp):Prop where
 len:∀vs H Q E,sp vs H Q E->vs.length=ps.length
 run:∀(A:Around) (outer:List Env) (s:Shared) (H:Hp) (args:Args) (us:List Value) (vs:List V) (Q:VK) (E:XK),Room k A->Env0 P w K mg base A outer s H->BindsTo s fd args (ps.zip us)->Vals vs us->sp vs H Q E->
  codeAny (model P w) A (.call (.ref f) args) (CR CX outer P w H s Q E) s
theorem FnOk.mono {P:Program} {w:World} {K:PySem.W.Frag} {mg:Str->Option Value} {base:Heap} {CX:CXT} {j k:Nat} {f:Addr} {fd:FuncData} {ps:List Str} {sp:Sp} (F:FnOk P w K mg base CX j f fd ps sp) (h:j<=k):
  FnOk P w K mg base CX k f fd ps sp:=⟨F.len,fun A outer s H args us vs Q E hr=>F.run A outer s H args us vs Q E (hr.mono h)⟩
theorem Env0.make {P:Program} {w:World} {K:PySem.W.Frag} {mg:Str->Option Value} {base:Heap} {A:Around} {outer:List Env} {s:Shared} {H:Hp} (e:Env0 P w K mg base A outer s H) (C:Addr) (us:List Value) (kw:List (Str×Value)):
  Env0 P w K mg base (A.under (.builtin "type.__call__" ⟨.ref C::us,kw⟩)) outer s H:=⟨by first|exact e.frames|(simpa [Around.under,Code.envs,Code.isFrame,pushEnvs]using e.frames),e.mod,e.bs,e.bsz,e.funs,e.frf,e.hok,e.bare⟩
section
variable {X:Cx} {pins:List (Addr×Obj)} {σ:St} {H:Hp} {s s':Shared}
theorem Inv.env0 (I:Inv X pins σ H s):Env0 X.prog X.w X.K X.mg X.base X.A X.stack s H:=
 ⟨I.ok.frames,I.ok.mod,I.bs,Nat.le_trans I.ok.bsz I.sz,I.stack,I.stkFree,I.hok,I.bare⟩
theorem Inv.after {Q:VK} {u:Value} (I:Inv X pins σ H s) (h:CE X.stack X.prog X.w H s Q u s'):EP X pins σ Q u s':=by
 obtain⟨v,H',os,bare,un,hok,r,q⟩:=h
 obtain⟨hh,g,d,t,os'⟩:=s'
 obtain rfl:os'=s.os:=os
 exact⟨v,H',I.call (h':=hh) (g':=g) (d':=d) (t':=t) (ch:=[]) un hok bare (fun b z=>absurd z (by simp)),r,q⟩
end
def tCall (sp:Sp) (dvs:List V) (E:XK) (t:TA):TE:=fun σ H Q=>t σ H fun vs H1=>sp (vs++dvs) H1 Q E
def tMeth (C:Addr) (m:Str) (sp:Sp) (dvs:List V) (E:XK) (ta:TE) (t:TA):TE:=fun σ H Q=>ta σ H fun x H1=>∃a dx fs,x= .ref a/\H1 a=some (.ins C dx fs)/\fs.lookup m=none/\
 t σ H1 fun vs H2=>sp (x::(vs++dvs)) H2 Q E
def tMake (C:Addr) (sp:Sp) (dvs:List V) (E:XK) (t:TA):TE:=fun σ H Q=>t σ H fun vs H1=>∀x dx,H1 x=none->H1 dx=none->dx≠x->
 sp (.ref x::(vs++dvs)) (upd (upd H1 dx (.own x)) x (.ins C dx [])) (fun v H2=>v= .non/\Q (.ref x) H2) E
def Binds (K:PySem.W.Frag) (fd:FuncData) (ps:List Str) (ds:List Value):Prop:=
 ∀(s:Shared) (us:List Value),K.In s.heap->(us++ds).length=ps.length->BindsTo s fd ⟨us,[]⟩ (ps.zip (us++ds))
theorem Binds.all {K:PySem.W.Frag} {fd:FuncData} {ps:List Str} (h:∀us:List Value,us.length=ps.length->bindArgs fd ⟨us,[]⟩=pure (ps.zip us)):Binds K fd ps []:=fun s us _ hl=>by
 rw [List.append_nil]at hl⊢
 exact .of_eq (h us hl)
def Passes (CX:CXT) (X:Cx) (E:XK):Prop:=∀(pins:List (Addr×Obj)) (σ:St) (H:Hp) (s:Shared) (e:Value) (s':Shared),Inv X pins σ H s->CX X.stack H s E e s'->X.xe e s'
section
variable {X:Cx} {CX:CXT} {k:Nat} {f C:Addr} {fd:FuncData} {ps:List Str} {sp:Sp} {dvs:List V} {ds:List Value} {E:XK} {x m:Str} {p pos apos:Pos} {e o:Expr} {es:List Expr} {ta:TE} {t:TA}
theorem run_fn {pins:List (Addr×Obj)} {σ:St} {H:Hp} {s:Shared} {Q:VK} {us:List Value} {vs:List V} (F:FnOk X.prog X.w X.K X.mg X.base CX k f fd ps sp) (hr:Room k X.A) (hb:Binds X.K fd ps ds) (hd:Vals dvs ds) (hx:Passes CX X E)
  (I:Inv X pins σ H s) (r:Vals vs us) (h:sp (vs++dvs) H Q E):wpAny (model X.prog X.w) X.A (call (.ref f) us) (EP X pins σ Q) X.xe s:=by
 have r2:Vals (vs++dvs) (us++ds):=r.append hd
 have hl:(us++ds).length=ps.length:=by rw [<-r2.length];exact F.len _ _ _ _ h
 refine wpAny_call (codeAny_mono (F.run X.A X.stack s H ⟨us,[]⟩ (us++ds) (vs++dvs) Q E hr I.env0 (hb s us I.kIn hl) r2 h) fun r s' hq=>?_)
 cases r with
 |error e=>exact hx pins σ H s e s' I hq
 |ok fl=>
  cases fl with
  |ret u=>exact I.after hq
  |next=>exact False.elim hq
  |brk=>exact False.elim hq
  |cont=>exact False.elim hq
theorem pe_call (F:FnOk X.prog X.w X.K X.mg X.base CX k f fd ps sp) (hr:Room k X.A) (hg:Gl X x) (hm:X.mg x=some (.ref f)) (hk:PySem.W.keepIn X.K (.ref f)=true) (hb:Binds X.K fd ps ds) (hd:Vals dvs ds) (hx:Passes CX X E)
  (ha:PA X (e::es) t) (hdb:(x==("__debug__":Str))=false:=by decide) (he:starEach (e::es) X.env=(false,eval e X.env)::starEach es X.env:=by rfl) (hpl:(backTo pos (starEach es X.env)).any (·.1)=false:=by rfl):
  PE X (.Call (.Name x p) (e::es) [] pos) (tCall sp dvs E t):=by
 intro pins s σ H Q I h
 refine wpAny_Call_Name_kw (ld_glob I hg hm ?_ hdb)
 refine PySem.W.callWith_K (h₀:=X.base) I.ok.mod.kin hk (thn (ha pos pins s σ H _ I h) fun us s1 ⟨vs,H1,I1,r,q⟩=>⟨I1.kIn,?_⟩) he hpl
 exact run_fn F hr hb hd hx I1 r q
theorem pe_meth0 {pl:Sem Bool} (he:PE X o ta) (c:Cls X.K C) (hm:Meth X.K C m f) (F:FnOk X.prog X.w X.K X.mg X.base CX k f fd ps sp) (hr:Room k X.A) (hb:Binds X.K fd ps ds) (hd:Vals dvs ds) (hx:Passes CX X E)
  (ht:eval (.Call (.Attribute o m apos) [] [] pos) X.env=(do
   let ov<-eval o X.env
   standAt apos.atName
   let(f,first)<-holding [ov] (getMethod ov m pl)
   callWith pos f first (backTo pos (starEach [] X.env)) (backToKw pos (keywordEach [] X.env))):=by rfl):
  PE X (.Call (.Attribute o m apos) [] [] pos) (tMeth C m sp dvs E ta tNil):=by
 intro pins s σ H Q I h
 refine PySem.W.methodCall_KW (pl:=pl) (thn (he pins s σ H _ I h) fun u s1 ⟨x,H1,I1,rx,a,dx,fs,ex,ea,l,q⟩=>?_) ht
 subst ex
 obtain rfl:u=Value.ref a:=rx
 refine getmeth_ok I1 ea c hm l ?_
 exact PySem.W.callWith_K0 (first:=[.ref a]) I1.kIn hm.kp (run_fn (us:=[.ref a]) (vs:=[.ref a]) F hr hb hd hx I1 (.cons rfl .nil) q)
structure Mk (K:PySem.W.Frag) (C f:Addr):Prop where
 makes:PySem.W.makesIn K C=true
 init:PySem.W.findIn K (.ref C) "__init__"=some (some (.ref f))
 fn:PySem.W.isFn K (.ref f)=true
 kp:PySem.W.keepIn K (.ref C)=true
theorem run_make {pins:List (Addr×Obj)} {σ:St} {H:Hp} {s:Shared} {Q:VK} {us:List Value} {vs:List V} (M:Mk X.K C f) (F:FnOk X.prog X.w X.K X.mg X.base CX k f fd ps sp) (hr:Room (k+1) X.A) (hb:Binds X.K fd ps ds) (hd:Vals dvs ds)
  (hx:Passes CX X E) (I:Inv X pins σ H s) (r:Vals vs us)
  (h:∀x dx,H x=none->H dx=none->dx≠x->sp (.ref x::(vs++dvs)) (upd (upd H dx (.own x)) x (.ins C dx [])) (fun v H2=>v= .non/\Q (.ref x) H2) E):
  wpAny (model X.prog X.w) X.A (call (.ref C) us) (EP X pins σ Q) X.xe s:=by
 have hq:=h (s.heap.objs.size+1) s.heap.objs.size (I.hok.fresh (Nat.le_succ _)) (I.hok.fresh (Nat.le_refl _)) (Nat.ne_of_lt (Nat.lt_succ_self _))
 have I2:=Inv.made (C:=C) I
 have r2:Vals (V.ref (s.heap.objs.size+1)::(vs++dvs)) (Value.ref (s.heap.objs.size+1)::(us++ds)):= .cons rfl (r.append hd)
 have hl:(Value.ref (s.heap.objs.size+1)::us++ds).length=ps.length:=by
  have e:=r2.length
  rw [F.len _ _ _ _ hq]at e
  exact e.symm
 refine wpAny_call (make_map (f:=f) I.kIn M.makes M.init (beq_iff_eq.mp M.fn) (codeAny_mono (F.run _ X.stack _ _ ⟨Value.ref (s.heap.objs.size+1)::us,[]⟩ (Value.ref (s.heap.objs.size+1)::(us++ds)) _ _ E (hr.make C us [])
  (I2.env0.make C us []) (hb _ (Value.ref (s.heap.objs.size+1)::us) I2.kIn hl) r2 hq) fun r s' hq'=>?_))
 cases r with
 |error e=>exact hx pins σ _ _ e s' I2 hq'
 |ok fl=>
  cases fl with
  |ret u=>
   obtain⟨v,H',I3,rv,ev,q3⟩:=I2.after hq'
   subst ev
   exact⟨rv,⟨V.ref (s.heap.objs.size+1),H',I3,rfl,q3⟩⟩
  |next=>exact False.elim hq'
  |brk=>exact False.elim hq'
  |cont=>exact False.elim hq'
theorem pe_make (M:Mk X.K C f) (F:FnOk X.prog X.w X.K X.mg X.base CX k f fd ps sp) (hr:Room (k+1) X.A) (hg:Gl X x) (hm:X.mg x=some (.ref C)) (hb:Binds X.K fd ps ds) (hd:Vals dvs ds) (hx:Passes CX X E)
  (ha:PA X (e::es) t) (hdb:(x==("__debug__":Str))=false:=by decide) (he:starEach (e::es) X.env=(false,eval e X.env)::starEach es X.env:=by rfl) (hpl:(backTo pos (starEach es X.env)).any (·.1)=false:=by rfl):
  PE X (.Call (.Name x p) (e::es) [] pos) (tMake C sp dvs E t):=by
 intro pins s σ H Q I h
 refine wpAny_Call_Name_kw (ld_glob I hg hm ?_ hdb)
 refine PySem.W.callWith_K (h₀:=X.base) I.ok.mod.kin M.kp (thn (ha pos pins s σ H _ I h) fun us s1 ⟨vs,H1,I1,r,q⟩=>⟨I1.kIn,?_⟩) he hpl
 exact run_make M F hr hb hd hx I1 r q
end
def PK (X:Cx) (kws:List Keyword) (t:TA):Prop:=
 ∀(pos:Pos) (pins:List (Addr×Obj)) (s:Shared) (σ:St) (H:Hp) (Q:List V->Hp->Prop),Inv X pins σ H s->t σ H Q->wpAny (model X.prog X.w) X.A (evalAll ((backToKw pos (keywordEach kws X.env)).map (·.2))) (AP X pins σ Q) X.xe s
section
variable {X:Cx} {CX:CXT} {k:Nat} {f C:Addr} {fd:FuncData} {ps ks:List Str} {sp:Sp} {E:XK} {x m:Str} {p pos apos kpos:Pos} {e o:Expr} {es:List Expr} {kws:List Keyword} {te ta:TE} {t tk:TA} {nm:Option Str}
theorem pk_nil:PK X [] tNil:=fun _ _ _ _ H Q I h=>wpAny_evalAll_nil ⟨[],H,I,.nil,h⟩
theorem pk_cons (ha:PE X e te) (hr:PK X kws t):PK X (⟨nm,e,kpos⟩::kws) (tCons te t):=by
 intro pos pins s σ H Q I h
 show wpAny _ _ (evalAll ((do let v<-eval e X.env;standAt pos;pure v)::(backToKw pos (keywordEach kws X.env)).map (·.2))) _ _ s
 refine wpAny_evalAll_cons (wpAny_bind (thn (ha pins s σ H _ I h) fun u s1 ⟨x,H1,I1,r1,q1⟩=>wpAny_bind (wpAny_standAt (wpAny_pure ?_))))
 exact thn (hr pos pins s1 σ H1 _ I1 q1) fun us s2 ⟨xs,H2,I2,r2,q2⟩=>⟨x::xs,H2,I2,.cons r1 r2,q2⟩
variable {g:List Value->List Value->List Value} {gV:List V->List V->List V}
end
structure FnScope (N P:List Str) (sc:Scope):Prop where
 kind:sc.kind= .function
 co:sc.isCoroutine=false
 gen:sc.isGenerator=false
 nd:N.Nodup
 pre:N.take P.length=P
 par:∀x∈P,sc.names.lookup x=some .local∨sc.names.lookup x=some .cell
 nofree:∀y∈sc.names,y.2≠ .free
theorem bindL_out {kindOf:Str->Option NameKind} {x:Str}:∀{binds:List (Str×Value)} {m:Str->Option Value},(∀v,(x,v)∉binds)->bindL kindOf binds m x=m x
 | [],_,_=>rfl
 |(n,v)::r,m,h=>by
  unfold bindL
  rw [bindL_out fun w hw=>h w (List.mem_cons_of_mem _ hw)]
  split
  ·have:x≠n:=by rintro rfl;exact h v List.mem_cons_self
   simp [this]
  ·rfl
theorem bindC_out {kindOf:Str->Option NameKind} {x:Str}:∀{binds:List (Str×Value)} {m:Str->Option Value},(∀v,(x,v)∉binds)->bindC kindOf binds m x=m x
 | [],_,_=>rfl
 |(n,v)::r,m,h=>by
  unfold bindC
  rw [bindC_out fun w hw=>h w (List.mem_cons_of_mem _ hw)]
  split
  ·rfl
  ·have:x≠n:=by rintro rfl;exact h v List.mem_cons_self
   simp [this]
theorem bindL_get {kindOf:Str->Option NameKind} {x:Str} {v:Value}:∀{P:List Str} {vs:List Value} {i:Nat} {m:Str->Option Value},P.Nodup->P[i]? =some x->vs[i]? =some v->kindOf x=some .local->
  bindL kindOf (P.zip vs) m x=some v
 | [],_,_,_,_,h,_,_=>by simp at h
 |_::_,[],_,_,_,_,h,_=>by simp at h
 |p::P,w::vs,0,m,nd,h1,h2,hk=>by
  simp at h1 h2;subst h1;subst h2
  show bindL kindOf ((p,w)::P.zip vs) m p=_
  unfold bindL
  rw [bindL_out fun v hv=>(List.nodup_cons.mp nd).1 (List.of_mem_zip hv).1,if_pos hk]
  simp
 |p::P,w::vs,i+1,m,nd,h1,h2,hk=>by
  show bindL kindOf ((p,w)::P.zip vs) m x=_
  unfold bindL
  exact bindL_get (i:=i) (List.nodup_cons.mp nd).2 (by simpa using h1) (by simpa using h2) hk
theorem bindC_get {kindOf:Str->Option NameKind} {x:Str} {v:Value}:∀{P:List Str} {vs:List Value} {i:Nat} {m:Str->Option Value},P.Nodup->P[i]? =some x->vs[i]? =some v->kindOf x≠some .local->
  bindC kindOf (P.zip vs) m x=some v
 | [],_,_,_,_,h,_,_=>by simp at h
 |_::_,[],_,_,_,_,h,_=>by simp at h
 |p::P,w::vs,0,m,nd,h1,h2,hk=>by
  simp at h1 h2;subst h1;subst h2
  show bindC kindOf ((p,w)::P.zip vs) m p=_
  unfold bindC
  rw [bindC_out fun v hv=>(List.nodup_cons.mp nd).1 (List.of_mem_zip hv).1,if_neg hk]
  simp
 |p::P,w::vs,i+1,m,nd,h1,h2,hk=>by
  show bindC kindOf ((p,w)::P.zip vs) m x=_
  unfold bindC
  exact bindC_get (i:=i) (List.nodup_cons.mp nd).2 (by simpa using h1) (by simpa using h2) hk
def start (N:List Str) (vs:List V):St:=vs.map some++List.replicate (N.length-vs.length) none
def cxOf (CX:CXT) (P:Program) (w:World) (K:PySem.W.Frag) (mg:Str->Option Value) (base:Heap) (N:List Str) (qual:Str) (scope:Scope) (f:Addr) (cd:Value) (A:Around) (outer:List Env) (s:Shared) (H:Hp) (E:XK):Cx where
 prog:=P
 w:=w
 K:=K
 mg:=mg
 base:=base
 A:=A.deeper (envOfC qual scope s.heap.objs.size f cd)
 N:=N
 s₀:=s
 H₀:=H
 env:=envOfC qual scope s.heap.objs.size f cd
 outer:=outer
 stack:=envOfC qual scope s.heap.objs.size f cd::outer
 ex:=[]
 calm:=true
 fn:=fun _=>true
 pn:=[]
 xe:=fun e s'=>wpAny (model P w) (A.deeper (envOfC qual scope s.heap.objs.size f cd)) (leaving (envOfC qual scope s.heap.objs.size f cd) e) (fun _ s''=>CX outer H s E e s'') (fun e' s''=>CX outer H s E e' s'') s'
theorem cell_has {sc:Scope} {n:Nat} {x:Str} (h:sc.names.lookup x=some .cell):∃c,(cellsFrom n sc.names []).lookup x=some c:=by
 have q:=PySem.W.cellsFrom_some sc.names n [] (.inl h)
 exact Option.isSome_iff_exists.mp q
theorem inv_start {CX:CXT} {P:Program} {w:World} {K:PySem.W.Frag} {mg:Str->Option Value} {base:Heap} {N ps:List Str} {qual:Str} {scope:Scope} {f:Addr} {cd:Value} {A:Around} {outer:List Env} {s s1:Shared} {H:Hp} {E:XK} {us:List Value} {vs:List V}
  (S:FnScope N ps scope) (hd:A.handled=none) (e0:Env0 P w K mg base A outer s H) (hl:vs.length=ps.length) (r:Vals vs us)
  (x:InCallC s s.heap.objs.size (bindL (envOfC qual scope s.heap.objs.size f cd).kindOf (ps.zip us) fun _=>none) (cellsFrom (s.heap.objs.size+1) scope.names []) (bindC (envOfC qual scope s.heap.objs.size f cd).kindOf (ps.zip us) fun _=>none) s1):
  Inv (cxOf CX P w K mg base N qual scope f cd A outer s H E) [] (start N vs) H s1:=by
 have hpl:ps.length<=N.length:=by have:=congrArg List.length S.pre;rw [List.length_take]at this;omega
 obtain⟨h1,tk,rfl,hk⟩:=x.done
 have noA:∀b:Addr,b∉(cxOf CX P w K mg base N qual scope f cd A outer s H E).ex:=fun b z=>absurd (show b∈([]:List Addr)from z) (by simp)
 refine⟨⟨e0.mod,S.kind,rfl,rfl,Nat.le_refl _,fun y z c h1 h2=>?_,fun y hy=>?_,fun y c _ h=>?_,fun _=>hd,Around.frames_deeper e0.frames,.inr ⟨rfl,rfl⟩,fun b z=>absurd z (noA b),e0.bs,e0.bsz,fun b _ _=>noA b,fun b z=>absurd z (noA b),e0.funs,e0.frf⟩,
  rfl,e0.bare,Un.kept hk,⟨_,x.toInCall.ns,fun i y v h1 h2 h3=>?_⟩,fun y c h=>⟨_,x.cell y c h⟩,e0.hok.fresh (Nat.le_refl _),fun y c h=>?_,fun p hp=>absurd (show p∈([]:List (Addr×Obj))from hp) (by simp),e0.hok.kept hk,?_⟩
 ·exact name_of_addr x.apart (PySem.mem_of_lookup h1) (PySem.mem_of_lookup h2)
 ·have hy:scope.names.lookup y=some .cell∨scope.names.lookup y=some .free:=hy
  rcases hy with hy|hy
  ·exact cell_has hy
  ·exact absurd rfl (S.nofree _ (PySem.mem_of_lookup hy))
 ·exact Nat.le_of_lt (x.above y c (PySem.mem_of_lookup h))
 ·have hi:i<vs.length:=by
   unfold start at h2
   by_cases hi:i<vs.length
   ·exact hi
   ·rw [List.getElem?_append_right (by simpa using hi)]at h2
    rw [List.getElem?_replicate]at h2
    split at h2<;>cases h2
  have ha:vs[i]? =some v:=by
   unfold start at h2
   rw [List.getElem?_append_left (by simpa using hi),List.getElem?_map]at h2
   cases e:vs[i]? with
   |none=>rw [e]at h2;cases h2
   |some a=>rw [e]at h2;cases h2;rfl
  obtain⟨u,hu,rv⟩:=r.get ha
  have hp:ps[i]? =some y:=by
   rw [<-S.pre,List.getElem?_take_of_lt (by omega)];exact h1
  have ndP:ps.Nodup:=by rw [<-S.pre];exact S.nd.sublist (List.take_sublist _ _)
  refine⟨u,rv,?_⟩
  rcases S.par y (List.mem_of_getElem? hp)with k|k
  ·exact .inl ⟨k,bindL_get ndP hp hu k⟩
  ·obtain⟨c,e⟩:=cell_has (n:=s.heap.objs.size+1) k
   refine .inr ⟨.inl k,c,e,?_⟩
   have q:=x.cell y c e
   rw [bindC_get ndP hp hu (by show scope.names.lookup y≠_;rw [k];decide)]at q
   exact q
 ·exact e0.hok.fresh (Nat.le_of_lt (x.above y c (PySem.mem_of_lookup h)))
 ·unfold start
  show _=N.length
  rw [List.length_append,List.length_map,List.length_replicate]
  omega
theorem fn_of {CX:CXT} {P:Program} {w:World} {K:PySem.W.Frag} {mg:Str->Option Value} {base:Heap} {k:Nat} {f:Addr} {name qual:Str} {params:Arguments} {body:List Stmt} {scope:Scope} {dV kV doc pm cdv ct oc:Value} {an od:Option Addr}
  {osl:Array (Option Value)} {N ps:List Str} {sp:Sp} (lk:K.lookup f=some ⟨oc,od,.func (PySem.W.fnOf name qual params body scope dV kV doc pm an cdv ct),osl⟩) (hcd:PySem.W.codeIn K cdv qual=true) (S:FnScope N ps scope)
  (len:∀vs H Q E,sp vs H Q E->vs.length=ps.length)
  (hbody:∀(A:Around) (outer:List Env) (s:Shared) (H:Hp) (vs:List V) (Q:VK) (E:XK),Room k (A.deeper (envOfC qual scope s.heap.objs.size f cdv))->sp vs H Q E->
   ∃t,PSs (cxOf CX P w K mg base N qual scope f cdv A outer s H E) body t/\t {nx:=fun _ H'=>Q .non H',rt:=Q} (start N vs) H):
  FnOk P w K mg base CX (k+1) f (PySem.W.fnOf name qual params body scope dV kV doc pm an cdv ct) ps sp:=by
 refine⟨len,fun A outer s H args us vs Q E hr e0 hb r hsp=>?_⟩
 have hl:=len _ _ _ _ hsp
 have KX:K.In s.heap:=e0.mod.kin.keeps fun b o e=>(e0.bs b o e).1
 have lim:s.heap.NoLimit:=e0.mod.nolimit.keeps fun b o e=>(e0.bs b o e).1
 have hkind:∀y∈ps.zip us,scope.names.lookup y.1=some .local∨(scope.names.lookup y.1=some .cell/\((cellsFrom (s.heap.objs.size+1) scope.names []).lookup y.1).isSome=true):=fun⟨n,v⟩ hy=>by
  rcases S.par n (List.of_mem_zip hy).1 with q|q
  ·exact .inl q
  ·exact .inr ⟨q,PySem.W.cellsFrom_some _ _ _ (.inl q)⟩
 refine codeAny_call_function hr.depth (KX _ _ lk) rfl S.co S.gen rfl (PySem.W.codeRec_of KX hcd) (hb _ _ _ _ ?_)
 refine wpAny_newFunctionEnv_cells S.kind hkind fun env he s1 x=>?_
 subst he
 refine⟨lim.keeps x.toInCall.keep,codeAny_func ?_⟩
 obtain⟨t,ht,hq⟩:=hbody A outer s H vs Q E (hr.deeper _) hsp
 have I:Inv (cxOf CX P w K mg base N qual scope f cdv A outer s H E) [] (start N vs) H s1:=inv_start S hr.hd e0 hl r x
 refine wpAny_mono (ht [] s1 (start N vs) H _ I hq) (fun fl s' hs=>?_) fun e s' hs=>hs
 have fin:∀{σ':St} {H':Hp} {v:V} {u:Value},Inv (cxOf CX P w K mg base N qual scope f cdv A outer s H E) [] σ' H' s'->RelV v u->Q v H'->CE outer P w H s Q u s':=
  fun{σ' H' v u} J rv q=>⟨v,H',J.os,J.bare,J.base,J.hok,rv,q⟩
 cases fl with
 |ret u=>
  obtain⟨v,σ',H',J,rv,q⟩:=hs
  exact fin J rv q
 |next=>
  obtain⟨σ',H',J,q⟩:=hs
  exact fin (v:=V.non) (u:=Value.none) J rfl q
 |brk=>
  obtain⟨_,_,_,q⟩:=hs
  exact False.elim q
 |cont=>
  obtain⟨_,_,_,q⟩:=hs
  exact False.elim q
end L2
namespace L2
open PySem PySem.Spec PyProof.Rows
section
variable {X:Cx} {x:Str} {p pos:Pos} {e:Expr} {es:List Expr} {t:TA} {id T:String} {r:List V->Hp->VK->Prop}
def tCB (r:List V->Hp->VK->Prop) (t:TA):TE:=fun σ H Q=>t σ H fun vs H1=>r vs H1 Q
theorem pe_callB (hc:CallR X (.builtin id) r) (hg:Gl X x) (hm:X.mg x=none) (hv:bootBuiltins x=some (.builtin id)) (ha:PA X (e::es) t) (hn:x≠"__name__":=by decide) (hdb:(x==("__debug__":Str))=false:=by decide)
  (he:starEach (e::es) X.env=(false,eval e X.env)::starEach es X.env:=by rfl) (hpl:(backTo pos (starEach es X.env)).any (·.1)=false:=by rfl):PE X (.Call (.Name x p) (e::es) [] pos) (tCB r t):=by
 intro pins s σ H Q I h
 refine wpAny_Call_Name_kw (ld_blt I hg hm hv ?_ hn hdb)
 exact PyProof.Rows.callWith_builtin1 (thn (ha pos pins s σ H _ I h) fun us s1 ⟨vs,H1,I1,r1,q1⟩=>hc pins s1 σ H1 vs us Q I1 r1 q1) he hpl
theorem pe_callTy (hc:CallR X (.type T) r) (hg:Gl X x) (hm:X.mg x=none) (hv:bootBuiltins x=some (.type T)) (ha:PA X (e::es) t) (hn:x≠"__name__":=by decide) (hdb:(x==("__debug__":Str))=false:=by decide)
  (he:starEach (e::es) X.env=(false,eval e X.env)::starEach es X.env:=by rfl) (hpl:(backTo pos (starEach es X.env)).any (·.1)=false:=by rfl):PE X (.Call (.Name x p) (e::es) [] pos) (tCB r t):=by
 intro pins s σ H Q I h
 refine wpAny_Call_Name_kw (ld_blt I hg hm hv ?_ hn hdb)
 exact PyProof.Rows.callWith_type1 (thn (ha pos pins s σ H _ I h) fun us s1 ⟨vs,H1,I1,r1,q1⟩=>hc pins s1 σ H1 vs us Q I1 r1 q1) he hpl
end
end L2
namespace HT
open PySem PyProof.Rows
section
open PySem.SeqAt
open PySem.AutoSeq1 (wpAny_loadPart')
open PySem.MeetsSeq PySem.MeetsSeq2 PySem.MeetsSeq3
end
section
variable {prog:Program} {w:World} {A:Around} {E:Value->Shared->Prop} {s:Shared}
theorem cat_tup {t b:Addr} {vs ws:List Value} {Q:Value->Shared->Prop} (ht:IsTup s.heap t vs.toArray) (hb:IsTup s.heap b ws.toArray) (hv:vs≠[])
  (h1:ws=[]->Q (.ref t) s) (h2:ws≠[]->Q (.ref s.heap.objs.size) {s with heap:=s.heap.push {cls:= .type "tuple",data:= .seq (vs++ws).toArray}})
  (hsz:vs.length+ws.length<=sizeLine):wpAny (model prog w) A (binaryOp .Add (.ref t) (.ref b)) Q E s:=by
 obtain⟨⟨cls,dd,data,sl⟩,ho,hc,n,hd⟩:=id ht
 obtain⟨⟨cls2,dd2,data2,sl2⟩,ho2,hc2,n2,hd2⟩:=id hb
 simp only at hc hd hc2 hd2
 subst hc hd hc2 hd2
 have e:vs.toArray++ws.toArray=(vs++ws).toArray:=by simp
 by_cases hw:ws=[]
 ·exact concat_meets ⟨_,ho,rfl⟩ ⟨_,ho2,rfl⟩ noFill_tuple_add seq_tuple_add PySem.F.slot_tuple_add PySem.F.entry_tuple_add (PySem.F.args_tuple_add_2 _ _)
   (tuple_addW1 t b vs.toArray ws.toArray n n2 dd dd2 sl sl2 (by simpa using hv) (by simp [hw])) ⟨ho,ho2,h1 hw⟩
 ·refine concat_meets ⟨_,ho,rfl⟩ ⟨_,ho2,rfl⟩ noFill_tuple_add seq_tuple_add PySem.F.slot_tuple_add PySem.F.entry_tuple_add (PySem.F.args_tuple_add_2 _ _)
   (tuple_addW2 t b vs.toArray ws.toArray n n2 dd dd2 sl sl2 (by simpa using hv) (by simpa using hw) (by rw [List.size_toArray,List.size_toArray];exact hsz)) ⟨ho,ho2,?_⟩
  rw [e]
  exact h2 hw
def sIx (n d:Nat):Option Int->Nat
 |none=>d
 |some v=>if v<0 then(v+(n:Int)).toNat else min v.toNat n
theorem sIx_nat (n d k:Nat):sIx n d (some (k:Int))=min k n:=by
 show(if(k:Int)<0 then((k:Int)+(n:Int)).toNat else min (k:Int).toNat n)=min k n
 rw [if_neg (by omega),Int.toNat_natCast]
theorem sIx_le (n d:Nat) (hd:d<=n) (o:Option Int):sIx n d o<=n:=by
 cases o with
 |none=>exact hd
 |some v=>
  show(if v<0 then(v+(n:Int)).toNat else min v.toNat n)<=n
  by_cases hv:v<0
  ·rw [if_pos hv];omega
  ·rw [if_neg hv];exact Nat.min_le_right _ _
theorem clip_eq (v:Int) (n d:Nat):(if v<0 then max (v+(n:Int)) 0 else min v (n:Int))=((sIx n d (some v):Nat):Int):=by
 show(if v<0 then max (v+(n:Int)) 0 else min v (n:Int))=(((if v<0 then(v+(n:Int)).toNat else min v.toNat n):Nat):Int)
 by_cases hv:v<0
 ·simp only [if_pos hv];omega
 ·simp only [if_neg hv];omega
theorem adjust_gen (lo hi:Option Int) (n:Nat):Builtin.Slice.sliceAdjust lo hi 1 (n:Int)=(((sIx n 0 lo:Nat):Int),((sIx n n hi:Nat):Int)):=by
 have h1:¬((1:Int)<0):=by omega
 unfold Builtin.Slice.sliceAdjust
 simp only [h1,if_false]
 refine Prod.ext ?_ ?_
 ·cases lo with
  |none=>rfl
  |some v=>exact clip_eq v n 0
 ·cases hi with
  |none=>rfl
  |some v=>exact clip_eq v n n
theorem places_gen (i j:Nat):Builtin.Slice.slicePlaces (i:Int) (j:Int) 1=j-i:=by
 unfold Builtin.Slice.slicePlaces
 have h1:(1:Int)>0:=by omega
 simp only [h1,if_true,Int.ediv_one]
 split<;>omega
theorem slicePart_ {v:Value} {o:Option Int} {Q:Option Int->Shared->Prop} (p:IsPart v o) (h:Q o s):wpAny (model prog w) A (Builtin.Slice.slicePartIndex v) Q E s:=by
 cases p with
 |none=>exact slicePart_none h
 |int i t=>exact slicePart_int h
theorem sliceApplied_gen {sl:Addr} {vl vu:Value} {lo hi:Option Int} {n:Nat} {Q:Int×Int×Nat->Shared->Prop} (hs:s.heap.IsSliceOf sl vl vu .none) (pl:IsPart vl lo) (pu:IsPart vu hi)
  (h:Q (((sIx n 0 lo:Nat):Int),1,sIx n n hi-sIx n 0 lo) s):wpAny (model prog w) A (Builtin.Slice.sliceApplied (.ref sl) (pure (n:Int))) Q E s:=by
 obtain⟨os,hos,hcs,hds⟩:=id hs
 unfold Builtin.Slice.sliceApplied Builtin.Slice.sliceFields
 refine wpAny_bind (wpAny_bind (wpAny_field hos hds (x:=vl) rfl (wpAny_bind (wpAny_field hos hds (x:=vu) rfl (wpAny_bind (wpAny_field hos hds (x:= .none) rfl (wpAny_pure ?_)))))))
 refine wpAny_bind (slicePart_none ?_)
 show wpAny _ _ (if((1:Int)==0)=true then _ else _) _ _ s
 rw [if_neg (by decide)]
 refine wpAny_bind (slicePart_ pl (wpAny_bind (slicePart_ pu (wpAny_bind (wpAny_pure ?_)))))
 show wpAny _ _ (match Builtin.Slice.sliceAdjust lo hi 1 (n:Int)with|(lo,hi)=>pure (lo,(1:Int),Builtin.Slice.slicePlaces lo hi 1)) _ _ s
 rw [adjust_gen lo hi n]
 show wpAny _ _ (pure (((sIx n 0 lo:Nat):Int),(1:Int),Builtin.Slice.slicePlaces ((sIx n 0 lo:Nat):Int) ((sIx n n hi:Nat):Int) 1)) _ _ s
 rw [places_gen]
 exact wpAny_pure h
theorem pick_gen (xs:Array Value) (i k:Nat):((List.range k).filterMap fun(m:Nat)=>xs[((i:Int)+(m:Int)*1).toNat]?).toArray=((xs.toList.drop i).take k).toArray:=by
 have e:(fun(m:Nat)=>xs[((i:Int)+(m:Int)*1).toNat]?)=fun m=>xs[i+m]? :=by
  funext m
  have:((i:Int)+(m:Int)*1).toNat=i+m:=by omega
  rw [this]
 rw [e]
 have:=pick_run xs i k
 rw [List.filterMap_map]at this
 have e2:((fun x=>xs[x]?)∘fun x=>i+x)=fun m=>xs[i+m]? :=rfl
 rw [e2]at this
 rw [this]
theorem getItem_tuple_cut {t sl:Addr} {items:Array Value} {vl vu:Value} {lo hi:Option Int} {Q:Value->Shared->Prop} (ht:IsTup s.heap t items) (hs:s.heap.IsSliceOf sl vl vu .none) (pl:IsPart vl lo) (pu:IsPart vu hi)
  (hw:¬(sIx items.size 0 lo=0/\sIx items.size items.size hi=items.size))
  (h:Q (.ref s.heap.objs.size) {s with heap:=s.heap.push {cls:= .type "tuple",data:= .seq ((items.toList.drop (sIx items.size 0 lo)).take (sIx items.size items.size hi-sIx items.size 0 lo)).toArray}})
  (hsz:items.size<=sizeLine):wpAny (model prog w) A (getItem (.ref t) (.ref sl)) Q E s:=by
 have htake:sizeOk (.seq ((items.toList.drop (sIx items.size 0 lo)).take (sIx items.size items.size hi-sIx items.size 0 lo)).toArray):=by
  show((items.toList.drop (sIx items.size 0 lo)).take (sIx items.size items.size hi-sIx items.size 0 lo)).toArray.size<=sizeLine
  rw [List.size_toArray,List.length_take,List.length_drop,Array.length_toList]
  omega
 have hj:sIx items.size items.size hi<=items.size:=sIx_le _ _ (Nat.le_refl _) hi
 obtain⟨os,hos,hcs,hds⟩:=id hs
 have hTs:s.TypeIs (.ref sl) "slice":=⟨os,hos,hcs⟩
 unfold getItem
 try with_reducible refine wpAny_holding ?_
 first|refine wpAny_bind (wpAny_pure ?_)|skip
 refine wpAny_bind (wpAny_sequenceKey ht.typeIs (by decide) ?_)
 refine wpAny_bind (wpAny_callSpecial?_slot (name:=Str.ofString "__getitem__") ht.typeIs PyProof.Rows.slot_tuple_getitem
  (wpAny_call_entry PyProof.Rows.slot_tuple_getitem ht.typeIs entry_tuple_getitem ?_ (args_tuple_getitem _ _)))
 show wpAny _ _ (Builtin.Tuple.tupleItemsOf (.ref t)>>=_) _ _ s
 refine wpAny_bind (tupleItemsOf_ ht ?_)
 refine wpAny_bind (wpAny_typeOf hTs ?_)
 rw [if_pos (by decide)]
 refine wpAny_bind (sliceApplied_gen hs pl pu ?_)
 have hno:¬((((sIx items.size 0 lo:Nat):Int)==0 && (1:Int)==1 && (sIx items.size items.size hi-sIx items.size 0 lo)==items.size)=true):=by
  intro q
  rw [Bool.and_eq_true,Bool.and_eq_true]at q
  have q1:((sIx items.size 0 lo:Nat):Int)=0:=eq_of_beq q.1.1
  have q2:sIx items.size items.size hi-sIx items.size 0 lo=items.size:=eq_of_beq q.2
  exact hw ⟨by omega,by omega⟩
 show wpAny _ _ (if(((sIx items.size 0 lo:Nat):Int)==0 && (1:Int)==1 && (sIx items.size items.size hi-sIx items.size 0 lo)==items.size)=true then _ else _) _ _ s
 rw [if_neg hno,pick_gen]
 first
  |exact wpAny_bind (m:=Builtin.Tuple.tupleExact _) (wpAny_newObj_type (wpAny_pure ⟨_,rfl,wpAny_pure h⟩) htake)
  |exact wpAny_bind (m:=Builtin.Tuple.tupleExact _) (wpAny_newObj_type (wpAny_bind (wpAny_pure (wpAny_pure ⟨_,rfl,wpAny_pure h⟩))) htake)
  |exact wpAny_bind (wpAny_bind (m:=Builtin.Tuple.tupleExact _) (wpAny_newObj_type (wpAny_pure (wpAny_pure ⟨_,rfl,wpAny_pure h⟩)) htake))
  |exact wpAny_bind (wpAny_bind (m:=Builtin.Tuple.tupleExact _) (wpAny_newObj_type (wpAny_pure ⟨_,rfl,wpAny_pure h⟩) htake))
end
end HT
namespace L2
open PySem PySem.Spec PyProof.Rows
abbrev TO:=St->Hp->(Option Int->Hp->Prop)->Prop
def PO (X:Cx) (e:Option Expr) (t:TO):Prop:=
 ∀(pins:List (Addr×Obj)) (s:Shared) (σ:St) (H:Hp) (Q:Option Int->Hp->Prop),Inv X pins σ H s->t σ H Q->
  wpAny (model X.prog X.w) X.A (evalPart e X.env) (fun u s'=>∃o H',Inv X pins σ H' s'/\IsPart u o/\Q o H') X.xe s
def tNoPart:TO:=fun _ H Q=>Q none H
def tPart (t:TE):TO:=fun σ H Q=>t σ H fun x H1=>∃i,x= .int i/\Q (some i) H1
theorem intsAre_of {ns:List Int}:∀{us:List Value},Vals (ns.map V.int) us->IntsAre us ns:=by
 induction ns with
 |nil=>intro us r;rw [List.map_nil]at r;cases r;exact .nil
 |cons n ns ih=>
  intro us r
  rw [List.map_cons]at r
  cases r with
  |cons r1 r2=>
   obtain⟨t,e⟩:=r1
   subst e
   exact .cons n t (ih r2)
section
variable {X:Cx} {e:Expr} {te:TE} {lo hi:Option Expr} {tl th:TO} {pos p2:Pos}
theorem po_none:PO X none tNoPart:=by
 intro pins s σ H Q I h
 rw [evalPart_none]
 exact wpAny_pure ⟨none,H,I,.none,h⟩
theorem po_some (h:PE X e te):PO X (some e) (tPart te):=by
 intro pins s σ H Q I hw
 rw [evalPart_some]
 refine thn (h pins s σ H _ I hw) fun u s1 ⟨x,H1,I1,r1,q1⟩=>?_
 obtain⟨i,rfl,q⟩:=q1
 obtain⟨t,rfl⟩:=r1
 exact⟨some i,H1,I1,.int i t,q⟩
def SlR (X:Cx) (r:V->Option Int->Option Int->Hp->VK->Prop):Prop:=
 ∀(pins:List (Addr×Obj)) (s:Shared) (σ:St) (H:Hp) (x:V) (v vl vu:Value) (lo hi:Option Int) (sl:Addr) (Q:VK),Inv X pins σ H s->RelV x v->s.heap.IsSliceOf sl vl vu .none->IsPart vl lo->IsPart vu hi->r x lo hi H Q->
  ∃T id,typeLookup (.type T) "__getitem__"=pure (some (.builtin id))/\s.TypeIs v T/\wpAny (model X.prog X.w) X.A (getItem v (.ref sl)) (EP X pins σ Q) X.xe s
def tSl (r:V->Option Int->Option Int->Hp->VK->Prop) (te:TE) (tl th:TO):TE:=fun σ H Q=>te σ H fun x H1=>tl σ H1 fun l H2=>th σ H2 fun u H3=>r x l u H3 Q
theorem pe_slice {r:V->Option Int->Option Int->Hp->VK->Prop} (hr:SlR X r) (he:PE X e te) (hl:PO X lo tl) (hu:PO X hi th):PE X (.Subscript e (.Slice lo hi none p2) pos) (tSl r te tl th):=by
 intro pins s σ H Q I h
 refine Subscript_ (thn (he pins s σ H _ I h) fun v s1 ⟨x,H1,I1,r1,q1⟩=>?_)
 refine wpAny_Slice (thn (hl pins s1 σ H1 _ I1 q1) fun vl s2 ⟨l,H2,I2,pl,q2⟩=>thn (hu pins s2 σ H2 _ I2 q2) fun vu s3 ⟨u,H3,I3,pu,q3⟩=>?_)
 rw [evalPart_none]
 refine wpAny_pure ?_
 have I4:Inv X pins σ H3 {s3 with heap:=s3.heap.push {cls:= .type "slice",data:= .fields #[vl,vu,.none]}}:=I3.kept (t':=s3.toks) fun b ob q=>Heap.get?_push_of_some _ q
 obtain⟨T,id,hT,ht,hg⟩:=hr pins {s3 with heap:=s3.heap.push {cls:= .type "slice",data:= .fields #[vl,vu,.none]}} σ H3 x v vl vu l u s3.heap.objs.size Q I4 r1 (Heap.IsSliceOf.new ..) pl pu q3
 show wpAny (model X.prog X.w) X.A (subscriptTail e (.Slice lo hi none p2) v (.ref s3.heap.objs.size)) (EP X pins σ Q) X.xe {s3 with heap:=s3.heap.push {cls:= .type "slice",data:= .fields #[vl,vu,.none]}}
 exact tail_any (ops:=[.ref s3.heap.objs.size,v]) ht hT hg (by with_unfolding_all rfl)
def cutV (xs:List V) (lo hi:Option Int):List V:=(xs.drop (HT.sIx xs.length 0 lo)).take (HT.sIx xs.length xs.length hi-HT.sIx xs.length 0 lo)
theorem cutV_length (xs:List V) (lo hi:Option Int):(cutV xs lo hi).length<=xs.length:=by
 unfold cutV
 rw [List.length_take,List.length_drop]
 omega
def rSlT (K:PySem.W.Frag):V->Option Int->Option Int->Hp->VK->Prop:=fun x lo hi H Q=>∃a xs,x= .ref a/\SqT K H a xs/\
 ¬(HT.sIx xs.length 0 lo=0/\HT.sIx xs.length xs.length hi=xs.length)/\∀p,H p=none->Q (.ref p) (upd H p (.tup (cutV xs lo hi)))
theorem sl_tup:SlR X (rSlT X.K):=by
 intro pins s σ H x v vl vu lo hi sl Q I rx hs pl pu h
 obtain⟨a,xs,rfl,hx,hw,q⟩:=h
 cases rx
 obtain⟨its,r,ht,hz⟩:=I.tuple hx
 have hlen:its.toArray.size=xs.length:=by rw [List.size_toArray];exact r.length.symm
 refine⟨"tuple",_,PyProof.Rows.slot_tuple_getitem.lookup,ht.typeIs,?_⟩
 refine HT.getItem_tuple_cut ht hs pl pu (by rw [hlen];exact hw) ?_ (by rw [hlen];exact hz)
 rw [hlen]
 refine⟨.ref s.heap.objs.size,_,I.laid (t':=s.toks) (o:= .tup (cutV xs lo hi)) (fun b ob q=>Heap.get?_push_of_some _ q) (Nat.le_refl _) ?_,rfl,q _ (I.hok.fresh (Nat.le_refl _))⟩
 exact⟨Nat.le_trans (cutV_length xs lo hi) hz,_,(r.drop (HT.sIx xs.length 0 lo)).take (HT.sIx xs.length xs.length hi-HT.sIx xs.length 0 lo),IsTup.new _ _⟩
def rCatT (K:PySem.W.Frag):R2:=fun x y H Q=>∃a b xs ys,x= .ref a/\y= .ref b/\SqT K H a xs/\SqT K H b ys/\xs≠[]/\xs.length+ys.length<=sizeLine/\
 (ys=[]->Q (.ref a) H)/\(ys≠[]->∀p,H p=none->Q (.ref p) (upd H p (.tup (xs++ys))))
theorem Vals.nil_iff {xs:List V} {us:List Value} (r:Vals xs us):us=[]↔xs=[]:=by
 cases r with
 |nil=>simp
 |cons _ _=>simp
theorem op_catT:OpR X (binaryOp .Add) (rCatT X.K):=by
 intro pins s σ H x y v u Q I rx ry h
 obtain⟨a,b,xs,ys,rfl,rfl,ha,hb,hx,hz,q1,q2⟩:=h
 cases rx
 cases ry
 obtain⟨its,r1,p1,_⟩:=I.tuple ha
 obtain⟨its2,r2,p2,_⟩:=I.tuple hb
 refine HT.cat_tup p1 p2 (fun z=>hx (r1.nil_iff.mp z)) (fun z=>⟨.ref a,H,I,rfl,q1 (r2.nil_iff.mp z)⟩) (fun z=>?_) (by rw [<-r1.length, <-r2.length];exact hz)
 refine⟨.ref s.heap.objs.size,_,I.laid (t':=s.toks) (o:= .tup (xs++ys)) (fun b ob q=>Heap.get?_push_of_some _ q) (Nat.le_refl _) ?_,rfl,q2 (fun w=>z (r2.nil_iff.mpr w)) _ (I.hok.fresh (Nat.le_refl _))⟩
 exact⟨by rw [List.length_append];exact hz,_,r1.append r2,IsTup.new _ _⟩
end
end L2
namespace L2
open PySem PySem.Spec PyProof.Rows
def ixN (n:Nat) (i:Int):Option Nat:=if 0<=i then(if i<n then some i.toNat else none)else if-(n:Int)<=i then some (i+n).toNat else none
def atI {α:Type} (xs:List α) (i:Int):Option α:=(ixN xs.length i).bind fun j=>xs[j]?
theorem ixN_seq {n:Nat} {i:Int} {j:Nat} (h:ixN n i=some j):seqIndex? i n=some j/\j<n/\ -(n:Int)<=i/\i<n:=by
 unfold ixN at h
 by_cases h0:0<=i
 ·rw [if_pos h0]at h
  by_cases h1:i<n
  ·rw [if_pos h1]at h
   have e:i.toNat=j:=Option.some.inj h
   exact⟨by rw [seqIndex_of h0 h1,e],by omega,by omega,h1⟩
  ·rw [if_neg h1]at h;cases h
 ·rw [if_neg h0]at h
  by_cases h1: -(n:Int)<=i
  ·rw [if_pos h1]at h
   have e:(i+n).toNat=j:=Option.some.inj h
   exact⟨by rw [seqIndex_neg (by omega) h1,e],by omega,h1,by omega⟩
  ·rw [if_neg h1]at h;cases h
theorem atI_get {α:Type} {xs:List α} {i:Int} {v:α} (h:atI xs i=some v):∃j,seqIndex? i xs.length=some j/\xs[j]? =some v/\j<xs.length/\ -(xs.length:Int)<=i/\i<xs.length:=by
 unfold atI at h
 cases e:ixN xs.length i with
 |none=>rw [e]at h;cases h
 |some j=>
  rw [e]at h
  obtain⟨h1,h2,h3,h4⟩:=ixN_seq e
  exact⟨j,h1,h,h2,h3,h4⟩
theorem atI_nat {α:Type} {xs:List α} {j:Nat} {v:α} (h:xs[j]? =some v):atI xs (j:Int)=some v:=by
 have hj:j<xs.length:=(List.getElem?_eq_some_iff.mp h).1
 have e:ixN xs.length (j:Int)=some j:=by
  unfold ixN
  rw [if_pos (by omega),if_pos (by omega)];simp
 unfold atI;rw [e];exact h
def PlainIx (b:Expr):Prop:=∀o i,subscripted b false o i=operate [o,i] (getItem o i)
def IxR (X:Cx) (r:R2):Prop:=
 ∀(value slice:Expr) (pins:List (Addr×Obj)) (s:Shared) (σ:St) (H:Hp) (x y:V) (v u:Value) (Q:VK),Inv X pins σ H s->RelV x v->RelV y u->r x y H Q->
  subscripted slice false v u=operate [v,u] (getItem v u)->wpAny (model X.prog X.w) X.A (subscriptTail value slice v u) (EP X pins σ Q) X.xe s
def MtR (X:Cx) (id:String) (r:V->List V->Hp->VK->Prop):Prop:=
 ∀(pins:List (Addr×Obj)) (s:Shared) (σ:St) (H:Hp) (x:V) (xs:List V) (v:Value) (us:List Value) (Q:VK),Inv X pins σ H s->RelV x v->Vals xs us->r x xs H Q->
  wpAny (model X.prog X.w) X.A (call (.builtin id) (v::us)) (EP X pins σ Q) X.xe s
section
variable {X:Cx} {a b:Expr} {ta tb:TE} {pos:Pos}
theorem pe_ix {r:R2} (hr:IxR X r) (ha:PE X a ta) (hb:PE X b tb) (hs:PlainIx b):PE X (.Subscript a b pos) (tOp r ta tb):=by
 intro pins s σ H Q I h
 exact Subscript_ (binT ha hb I h fun v u s2 x y H2 I2 rx ry q=>hr a b pins s2 σ H2 x y v u Q I2 rx ry q (hs _ _))
def rIxL (K:PySem.W.Frag):R2:=fun x y H Q=>∃p xs i v,x= .ref p/\y= .int i/\SqL K H p xs/\atI xs i=some v/\Q v H
def rIxT (K:PySem.W.Frag):R2:=fun x y H Q=>∃p xs i v,x= .ref p/\y= .int i/\SqT K H p xs/\atI xs i=some v/\Q v H
theorem ix_list:IxR X (rIxL X.K):=by
 intro value slice pins s σ H x y v u Q I rx ry h hs
 obtain⟨p,xs,i,z,rfl,rfl,hq,he,q⟩:=h
 cases rx
 obtain⟨t,rfl⟩:=ry
 obtain⟨its,r,pl,hz⟩:=I.list hq
 obtain⟨j,h1,h2,h3,h4,h5⟩:=atI_get he
 obtain⟨w,ew,rw'⟩:=r.get h2
 have hl:=r.length
 have hn:=line63
 have fin:EP X pins σ Q w s:=⟨z,H,I,rw',q⟩
 by_cases h0:0<=i
 ·have hj:i.toNat=j:=by
   rw [seqIndex_of h0 h5]at h1
   exact Option.some.inj h1
  exact item_listR pl.isList h0 (by omega) (by rw [hj];simpa using ew) fin hs
 ·have hj:(i+(its.toArray.size:Int)).toNat=j:=by
   rw [seqIndex_neg (by omega) h4]at h1
   rw [List.size_toArray, <-hl]
   exact Option.some.inj h1
  exact subscriptTail_builtinR (x:=w) pl.isList.typeIs slot_list_getitem.lookup
   (wpAny_getItem_list_neg (Q:=fun r s'=>r=w/\EP X pins σ Q r s') pl.isList (by omega) (by rw [List.size_toArray]<;>omega) (by omega) (by rw [hj];simpa using ew) ⟨rfl,fin⟩) hs
theorem ix_tup:IxR X (rIxT X.K):=by
 intro value slice pins s σ H x y v u Q I rx ry h hs
 obtain⟨p,xs,i,z,rfl,rfl,hq,he,q⟩:=h
 cases rx
 obtain⟨t,rfl⟩:=ry
 obtain⟨its,r,pl,hz⟩:=I.tuple hq
 obtain⟨j,h1,h2,h3,h4,h5⟩:=atI_get he
 obtain⟨w,ew,rw'⟩:=r.get h2
 have hl:=r.length
 have hn:=line63
 have fin:EP X pins σ Q w s:=⟨z,H,I,rw',q⟩
 exact subscriptTail_builtinR (x:=w) pl.typeIs slot_tuple_getitem.lookup
  (getItem_tuple (j:=j) (Q:=fun r s'=>r=w/\EP X pins σ Q r s') pl (by omega) (by omega) (by rw [List.size_toArray, <-hl];exact h1) (by simpa using ew) ⟨rfl,fin⟩) hs
theorem mapSeq_set (its:List Value) (n j:Nat) (u:Value):Obj.mapSeq (·.setIfInBounds j u) {cls:= .type "list",data:= .seq its.toArray n}={cls:= .type "list",data:= .seq (its.set j u).toArray n}:=by
 simp [Obj.mapSeq]
theorem Inv.lst {pins:List (Addr×Obj)} {σ:St} {H:Hp} {s:Shared} {p:Addr} {xs:List V} (I:Inv X pins σ H s) (h:H p=some (.lst xs)):
  ∃(its:List Value) (n:Nat),Vals xs its/\s.heap.get? p=some {cls:= .type "list",data:= .seq its.toArray n}/\xs.length<=sizeLine:=by
 obtain⟨z,its,n,r,e⟩:=I.hok p _ h
 exact⟨its,n,r,e,z⟩
theorem Inv.lstUpd {pins:List (Addr×Obj)} {σ:St} {H:Hp} {s:Shared} {p:Addr} {xs ys:List V} {its its':List Value} {n n':Nat} {f:Obj->Obj} (I:Inv X pins σ H s) (h:H p=some (.lst xs))
  (ho:s.heap.get? p=some {cls:= .type "list",data:= .seq its.toArray n}) (hf:f {cls:= .type "list",data:= .seq its.toArray n}={cls:= .type "list",data:= .seq its'.toArray n'}) (r:Vals ys its') (hz:ys.length<=sizeLine) (t:Nat):
  Inv X pins σ (upd H p (.lst ys)) {s with heap:=s.heap.update p f,toks:=t}:=by
 have e:(s.heap.update p f).get? p=some {cls:= .type "list",data:= .seq its'.toArray n'}:=by
  rw [Heap.get?_update_self f ho (by rw [hf]<;>rfl),hf]
 refine I.write (x:=p) (e:=p) (by rw [h];trivial) (.inl rfl) (fun b u hb q=>(Heap.get?_update_other _ _ (Ne.symm hb)).trans q) ⟨_,e⟩ ?_
 exact⟨hz,its',n',r,e⟩
def rSetL:V->V->V->Hp->(Hp->Prop)->Prop:=fun o i v H Q=>∃p xs k j,o= .ref p/\i= .int k/\H p=some (.lst xs)/\ixN xs.length k=some j/\Q (upd H p (.lst (xs.set j v)))
theorem set_list:PSet X rSetL:=by
 intro pins s σ H o i v ov iv u Q I ro ri rv h
 obtain⟨p,xs,k,j,rfl,rfl,hp,hj,q⟩:=h
 cases ro
 obtain⟨t,rfl⟩:=ri
 obtain⟨its,n,r,ho,hz⟩:=I.lst hp
 obtain⟨h1,h2,h3,h4⟩:=ixN_seq hj
 have hl:=r.length
 have hn:=line63
 have I':Inv X pins σ (upd H p (.lst (xs.set j v))) {s with heap:=s.heap.update p (Obj.mapSeq (·.setIfInBounds j u))}:=
  I.lstUpd hp ho (mapSeq_set its n j u) (r.set rv j) (by rw [List.length_set];exact hz) s.toks
 by_cases h0:0<=k
 ·have hk:k.toNat=j:=by
   rw [seqIndex_of h0 h4]at h1
   exact Option.some.inj h1
  exact PySem.W.ki_setAt ho h0 (by omega) (by rw [List.size_toArray, <-hl];exact h4) (by rw [hk];exact⟨_,I',q⟩)
 ·have hk:(k+(its.toArray.size:Int)).toNat=j:=by
   rw [seqIndex_neg (by omega) h3]at h1
   rw [List.size_toArray, <-hl]
   exact Option.some.inj h1
  exact PySem.W.ki_setBack ho (by omega) (by rw [List.size_toArray, <-hl];exact h3) (by omega) (by rw [hk];exact⟨_,I',q⟩)
def flatV:V->Bool
 | .non=>true
 | .bl _=>true
 | .int _=>true
 | .str _=>true
 |_=>false
def eqV:V->V->Bool
 | .non,.non=>true
 | .bl a,.bl b=>a==b
 | .bl a,.int b=>(if a then 1 else 0)==b
 | .int a,.bl b=>a==(if b then 1 else 0)
 | .int a,.int b=>a==b
 | .str a,.str b=>a==b
 |_,_=>false
theorem eqAt_V {A:Around} {s:Shared} {y x:V} {u v:Value} (ry:RelV y u) (rx:RelV x v) (fy:flatV y=true) (fx:flatV x=true):SeqAt.EqAt A s u v (eqV y x):=by
 cases y with
 |non=>
  cases ry
  cases x with
  |non=>cases rx;exact SeqAt.EqAt.same _
  |bl b=>cases rx;exact SeqAt.EqAt.none_bool b
  |int b=>obtain⟨t,rfl⟩:=rx;exact SeqAt.EqAt.none_int b t
  |str b=>obtain⟨t,rfl⟩:=rx;exact SeqAt.EqAt.none_str b t
  |_=>exact absurd (show false=true from fx) Bool.false_ne_true
 |bl a=>
  cases ry
  cases x with
  |non=>cases rx;exact SeqAt.EqAt.bool_none a
  |bl b=>cases rx;exact SeqAt.EqAt.bool_bool a b
  |int b=>obtain⟨t,rfl⟩:=rx;exact SeqAt.EqAt.bool_int a b t
  |str b=>obtain⟨t,rfl⟩:=rx;exact SeqAt.EqAt.bool_str a b t
  |_=>exact absurd (show false=true from fx) Bool.false_ne_true
 |int a=>
  obtain⟨t',rfl⟩:=ry
  cases x with
  |non=>cases rx;exact SeqAt.EqAt.int_none a t'
  |bl b=>cases rx;exact SeqAt.EqAt.int_bool a t' b
  |int b=>obtain⟨t,rfl⟩:=rx;exact SeqAt.EqAt.int_int a t' b t
  |str b=>obtain⟨t,rfl⟩:=rx;exact SeqAt.EqAt.int_str a t' b t
  |_=>exact absurd (show false=true from fx) Bool.false_ne_true
 |str a=>
  obtain⟨t',rfl⟩:=ry
  cases x with
  |non=>cases rx;exact SeqAt.EqAt.str_none a t'
  |bl b=>cases rx;exact SeqAt.EqAt.str_bool a t' b
  |int b=>obtain⟨t,rfl⟩:=rx;exact SeqAt.EqAt.str_int a t' b t
  |str b=>obtain⟨t,rfl⟩:=rx;exact SeqAt.EqAt.str_str a t' b t
  |_=>exact absurd (show false=true from fx) Bool.false_ne_true
 |_=>exact absurd (show false=true from fy) Bool.false_ne_true
def eqU (x:V) (u:Value):Bool:=match u with
 | .none=>eqV .non x
 | .bool b=>eqV (.bl b) x
 | .int i _=>eqV (.int i) x
 | .str z _=>eqV (.str z) x
 |_=>false
theorem eqU_of {x y:V} {u:Value} (r:RelV y u) (f:flatV y=true):eqU x u=eqV y x:=by
 cases y with
 |non=>cases r;rfl
 |bl b=>cases r;rfl
 |int i=>obtain⟨t,rfl⟩:=r;rfl
 |str z=>obtain⟨t,rfl⟩:=r;rfl
 |_=>exact absurd (show false=true from f) Bool.false_ne_true
theorem any_eqU {x:V}:∀{xs:List V} {us:List Value},Vals xs us->xs.all flatV=true->us.any (eqU x)=xs.any fun y=>eqV y x
 |_,_,.nil,_=>rfl
 |y::xs,u::us,.cons r t,f=>by
  rw [List.all_cons,Bool.and_eq_true]at f
  rw [List.any_cons,List.any_cons,eqU_of r f.1,any_eqU t f.2]
theorem mem_eqAt {A:Around} {s:Shared} {x:V} {v:Value} (rx:RelV x v) (fx:flatV x=true):∀{xs:List V} {us:List Value},Vals xs us->xs.all flatV=true->∀u∈us,SeqAt.EqAt A s u v (eqU x u)
 |_,_,.nil,_=>fun u hu=>by cases hu
 |y::xs,u::us,.cons r t,f=>fun u' hu=>by
  rw [List.all_cons,Bool.and_eq_true]at f
  rcases List.mem_cons.mp hu with rfl|hu
  ·rw [eqU_of r f.1];exact eqAt_V r rx f.1 fx
  ·exact mem_eqAt rx fx t f.2 u' hu
def inV (x:V) (xs:List V):Bool:=xs.any fun y=>eqV y x
def rIn (K:PySem.W.Frag) (neg:Bool):R2:=fun x y H Q=>∃p xs,y= .ref p/\(SqL K H p xs∨SqT K H p xs)/\flatV x=true/\xs.all flatV=true/\Q (.bl (if neg then !inV x xs else inV x xs)) H
theorem op_in_seq:OpR X (compareOp .In) (rIn X.K false):=by
 intro pins s σ H x y v u Q I rx ry h
 obtain⟨p,xs,rfl,hq,fx,fs,q⟩:=h
 cases ry
 rcases hq with hq|hq
 ·obtain⟨its,r,pl,hz⟩:=I.list hq
  refine SeqAt.in_listAt (eqU x) pl.isList (fun w hw=>mem_eqAt rx fx r fs w (by simpa using hw)) ⟨.bl _,H,I,rfl,?_⟩
  rw [show its.toArray.any (eqU x)=its.any (eqU x) by simp,any_eqU r fs]
  exact q
 ·obtain⟨its,r,pl,hz⟩:=I.tuple hq
  refine SeqAt.in_tupleAt (eqU x) pl (fun w hw=>mem_eqAt rx fx r fs w (by simpa using hw)) ⟨.bl _,H,I,rfl,?_⟩
  rw [show its.toArray.any (eqU x)=its.any (eqU x) by simp,any_eqU r fs]
  exact q
theorem op_notIn_seq:OpR X (compareOp .NotIn) (rIn X.K true):=by
 intro pins s σ H x y v u Q I rx ry h
 obtain⟨p,xs,rfl,hq,fx,fs,q⟩:=h
 cases ry
 rcases hq with hq|hq
 ·obtain⟨its,r,pl,hz⟩:=I.list hq
  refine SeqAt.notIn_listAt (eqU x) pl.isList (fun w hw=>mem_eqAt rx fx r fs w (by simpa using hw)) ⟨.bl _,H,I,rfl,?_⟩
  rw [show its.toArray.any (eqU x)=its.any (eqU x) by simp,any_eqU r fs]
  exact q
 ·obtain⟨its,r,pl,hz⟩:=I.tuple hq
  refine SeqAt.notIn_tupleAt (eqU x) pl (fun w hw=>mem_eqAt rx fx r fs w (by simpa using hw)) ⟨.bl _,H,I,rfl,?_⟩
  rw [show its.toArray.any (eqU x)=its.any (eqU x) by simp,any_eqU r fs]
  exact q
theorem call_len_seq:CallR X (.builtin "len") (fun xs H Q=>∃p ys,xs=[.ref p]/\(SqL X.K H p ys∨SqT X.K H p ys)/\Q (.int ys.length) H):=by
 intro pins s σ H xs us Q I r h
 obtain⟨p,ys,rfl,hq,q⟩:=h
 obtain⟨u,rfl,rx⟩:=vals1 r
 cases rx
 have hn:=line63
 rcases hq with hq|hq
 ·obtain⟨its,r',pl,hz⟩:=I.list hq
  have hlen:=r'.length
  exact Calls.call_len_list pl.isList (by simp only [List.size_toArray]<;>omega) ⟨.int ys.length,H,I.tok _,⟨s.toks+1,by rw [List.size_toArray,hlen]⟩,q⟩
 ·obtain⟨its,r',pl,hz⟩:=I.tuple hq
  have hlen:=r'.length
  exact len_tuple pl (by simp only [List.size_toArray]<;>omega) ⟨.int ys.length,H,I.tok _,⟨s.toks+1,by rw [List.size_toArray,hlen]⟩,q⟩
theorem call_list_of:CallR X (.type "list") (fun xs H Q=>∃p ys,xs=[.ref p]/\(SqL X.K H p ys∨SqT X.K H p ys)/\∀l,H l=none->Q (.ref l) (upd H l (.lst ys))):=by
 intro pins s σ H xs us Q I r h
 obtain⟨p,ys,rfl,hq,q⟩:=h
 obtain⟨u,rfl,rx⟩:=vals1 r
 cases rx
 have fin:∀(its:List Value),Vals ys its->ys.length<=sizeLine->∀(h':Heap) (c':Nat),(∀b o',s.heap.get? b=some o'->h'.get? b=some o')->
   h'.get? s.heap.objs.size=some {cls:= .type "list",dict:=none,data:= .seq its.toArray c',slots:= #[]}->EP X pins σ Q (.ref s.heap.objs.size) {s with heap:=h'}:=fun its r' hz h' c' kp e=>
  ⟨.ref s.heap.objs.size,_,I.laid (t':=s.toks) kp (Nat.le_refl _) (show ObjOk X.prog X.w _ h' _ (.lst ys)from⟨hz,its,c',r',e⟩),rfl,q _ (I.hok.fresh (Nat.le_refl _))⟩
 rcases hq with hq|hq
 ·obtain⟨its,r',pl,hz⟩:=I.list hq
  have hlen:=r'.length
  obtain⟨o,ho,hc,n,hd⟩:=pl.isList
  exact call_list_seq p (.inl rfl) ho hc hd (fun h' c' kp e=>fin its r' hz h' c' kp e) (by simp only [List.size_toArray]<;>omega)
 ·obtain⟨its,r',pl,hz⟩:=I.tuple hq
  have hlen:=r'.length
  obtain⟨o,ho,hc,n,hd⟩:=pl
  exact call_list_seq p (.inr rfl) ho hc hd (fun h' c' kp e=>fin its r' hz h' c' kp e) (by simp only [List.size_toArray]<;>omega)
theorem call_tuple_of:CallR X (.type "tuple") (fun xs H Q=>∃p ys,xs=[.ref p]/\((SqL X.K H p ys/\∀l,H l=none->Q (.ref l) (upd H l (.tup ys)))∨(SqT X.K H p ys/\Q (.ref p) H))):=by
 intro pins s σ H xs us Q I r h
 obtain⟨p,ys,rfl,h⟩:=h
 obtain⟨u,rfl,rx⟩:=vals1 r
 cases rx
 rcases h with ⟨hq,q⟩|⟨hq,q⟩
 ·obtain⟨its,r',pl,hz⟩:=I.list hq
  have hlen:=r'.length
  refine call_tuple_list pl.isList (fun h' kp=>?_) (by simp only [List.size_toArray]<;>omega)
  have I1:Inv X pins σ H {s with heap:=h'}:=I.kept (t':=s.toks) kp
  have I2:Inv X pins σ (upd H h'.objs.size (.tup ys)) {s with heap:=h'.push {cls:= .type "tuple",data:= .seq its.toArray}}:=
   I1.laid (t':=s.toks) (fun b o e=>Heap.get?_push_of_some _ e) (Nat.le_refl _) (show ObjOk X.prog X.w _ _ _ (.tup ys)from⟨hz,its,r',IsTup.new _ _⟩)
  exact⟨.ref h'.objs.size,_,I2,rfl,q _ (I1.hok.fresh (Nat.le_refl _))⟩
 ·obtain⟨its,r',pl,hz⟩:=I.tuple hq
  exact call_tuple_same pl ⟨.ref p,H,I,rfl,q⟩
def tyV (K:PySem.W.Frag) (T:String) (x:V) (H:Hp):Prop:=match x with
 | .str _=>T="str"
 | .int _=>T="int"
 | .ref p=>(T="list"/\∃xs,SqL K H p xs)∨(T="tuple"/\∃o,K.lookup p=some o/\o.cls= .type "tuple"/\o.dict=none)∨
   (T="dict"/\((∃kvs,H p=some (.dK kvs))∨∃kvs,H p=some (.dT kvs)))∨(T="set"/\∃S n,H p=some (.set S n))
 |_=>False
theorem tyV_is {pins:List (Addr×Obj)} {σ:St} {H:Hp} {s:Shared} {T:String} {x:V} {v:Value} (I:Inv X pins σ H s) (r:RelV x v) (ty:tyV X.K T x H):
  s.TypeIs v T/\∀a,v= .ref a->∃ob,s.heap.get? a=some ob/\ob.dict=none:=by
 cases x with
 |str z=>
  obtain⟨t,rfl⟩:=r
  cases (show T="str" from ty)
  exact⟨typeIs_str s z t,fun _ e=>nomatch e⟩
 |int i=>
  obtain⟨t,rfl⟩:=r
  cases (show T="int" from ty)
  exact⟨typeIs_int s i t,fun _ e=>nomatch e⟩
 |ref p=>
  cases r
  rcases ty with ⟨rfl,xs,hq⟩|⟨rfl,o,hk,hc,hd⟩|⟨rfl,hk⟩|⟨rfl,S,n,hk⟩
  ·obtain⟨its,_,pl,_⟩:=I.list hq
   refine⟨pl.isList.typeIs,fun a e=>?_⟩
   cases e
   obtain⟨o,n,e,c,hd,_⟩:=pl
   exact⟨o,e,hd⟩
  ·refine⟨⟨o,I.kIn p o hk,hc⟩,fun a e=>?_⟩
   cases e
   exact⟨o,I.kIn _ o hk,hd⟩
  ·have z:∃o,s.heap.get? p=some o/\o.ExactDict:=by
    rcases hk with ⟨kvs,hk⟩|⟨kvs,hk⟩
    ·obtain⟨_,_,_,_,o,_,_,e,ex,_⟩:=I.hok p _ hk
     exact⟨o,e,ex⟩
    ·obtain⟨_,_,_,_,o,_,_,e,ex,_⟩:=I.hok p _ hk
     exact⟨o,e,ex⟩
   obtain⟨o,e,ex⟩:=z
   refine⟨⟨o,e,ex.1⟩,fun a e2=>?_⟩
   cases e2
   exact⟨o,e,ex.2.1⟩
  ·obtain⟨o,_,_,_,e,ex,_⟩:=I.hok p _ hk
   refine⟨⟨o,e,ex.1⟩,fun a e2=>?_⟩
   cases e2
   exact⟨o,e,ex.2.1⟩
 |_=>exact False.elim ty
def tBM0 (K:PySem.W.Frag) (T:String) (r:V->List V->Hp->VK->Prop) (to:TE):TE:=fun σ H Q=>to σ H fun x H1=>tyV K T x H1/\r x [] H1 Q
def tBM (K:PySem.W.Frag) (T:String) (r:V->List V->Hp->VK->Prop) (to:TE) (t:TA):TE:=fun σ H Q=>to σ H fun x H1=>tyV K T x H1/\t σ H1 fun xs H2=>r x xs H2 Q
variable {o e:Expr} {es:List Expr} {to:TE} {t:TA} {name:Str} {apos cpos:Pos} {T id:String} {r:V->List V->Hp->VK->Prop}
theorem pe_bm0 (pa:PlainAttrs T) (slot:Slot T name id) (hty:typeOf (.builtin id)=pure (.type "method_descriptor")) (hm:MtR X id r) (ho:PE X o to)
  (hbase:attributeBase o name X.env (eval o X.env)=eval o X.env:=by rfl) (hline:(apos.endLine==cpos.line)=true:=by rfl):PE X (.Call (.Attribute o name apos) [] [] cpos) (tBM0 X.K T r to):=by
 intro pins s σ H Q I h
 refine wpAny_Call_method0_late hbase hline (thn (ho pins s σ H _ I h) fun v s1 ⟨x,H1,I1,r1,ty,q1⟩=>?_)
 obtain⟨h1,h2⟩:=tyV_is I1 r1 ty
 exact⟨T,id,pa,slot,hty,h1,h2,Calls.callWith_builtin rfl (PySem.evalArgs_none (hm pins s1 σ H1 x [] v [] Q I1 r1 .nil q1))⟩
theorem pe_bm (pa:PlainAttrs T) (slot:Slot T name id) (hty:typeOf (.builtin id)=pure (.type "method_descriptor")) (hm:MtR X id r) (ho:PE X o to) (ha:PA X (e::es) t)
  (hbase:attributeBase o name X.env (eval o X.env)=eval o X.env:=by rfl)
  (hfew:((backTo cpos (starEach (e::es) X.env)).all (fun x=> !x.1) && (backToKw cpos (keywordEach [] X.env)).all (fun x=>x.1.isSome)
   && decide ((e::es).length+([]:List Keyword).length+(if([]:List Keyword).isEmpty then 0 else 1)<30))=true:=by rfl)
  (hline:(apos.endLine==cpos.line)=true:=by rfl) (hs:starEach (e::es) X.env=(false,eval e X.env)::starEach es X.env:=by rfl) (hplain:(backTo cpos (starEach es X.env)).any (·.1)=false:=by rfl):
  PE X (.Call (.Attribute o name apos) (e::es) [] cpos) (tBM X.K T r to t):=by
 intro pins s σ H Q I h
 refine wpAny_Call_method_late hbase hfew hline rfl (thn (ho pins s σ H _ I h) fun v s1 ⟨x,H1,I1,r1,ty,q1⟩=>?_)
 obtain⟨h1,h2⟩:=tyV_is I1 r1 ty
 refine⟨T,id,pa,slot,hty,h1,h2,?_⟩
 have hA:=ha cpos pins s1 σ H1 _ I1 q1
 rw [hs]at hA⊢
 refine Calls.callWith_builtin (by show(false || (backTo cpos (starEach es X.env)).any (·.1))=false;rw [hplain]<;>rfl) (Calls.evalArgs_plain ?_)
 exact thn hA fun us s2 ⟨vs,H2,I2,r2,q2⟩=>hm pins s2 σ H2 x vs v us Q I2 r1 r2 q2
end
end L2
namespace L2
open PySem PySem.Spec PyProof.Rows
def MtM (X:Cx) (id:String) (r:V->List V->Hp->VK->Prop):Prop:=
 ∀(pins:List (Addr×Obj)) (s:Shared) (σ:St) (H:Hp) (x:V) (xs:List V) (v:Value) (us:List Value) (Q:VK),Inv X pins σ H s->RelV x v->Vals xs us->r x xs H Q->
  wpAny (model X.prog X.w) X.A (call (.builtin id) (v::us)) (EP X pins σ Q) X.xe s
theorem Vals.one:∀{x:V} {us:List Value},Vals [x] us->∃u,us=[u]/\RelV x u
 |_,_,.cons r .nil=>⟨_,rfl,r⟩
theorem Vals.zero:∀{us:List Value},Vals [] us->us=[]
 |_,.nil=>rfl
theorem Vals.rep {xs:List V} {us:List Value} (h:Vals xs us):∀k:Nat,Vals (List.replicate k xs).flatten (List.replicate k us).flatten
 |0=> .nil
 |k+1=>by
  rw [List.replicate_succ,List.replicate_succ,List.flatten_cons,List.flatten_cons]
  exact Vals.append h (Vals.rep h k)
theorem foldl_rep (its:List Value):∀(k:Nat) (acc:List Value),
  List.foldl (fun x1 x2=>x1++x2) acc.toArray (List.replicate k its.toArray)=(acc++(List.replicate k its).flatten).toArray
 |0,acc=>by simp
 |k+1,acc=>by
  have e:acc.toArray++its.toArray=(acc++its).toArray:=by simp
  have e2:(acc++its)++(List.replicate k its).flatten=acc++(List.replicate (k+1) its).flatten:=by
   rw [List.replicate_succ,List.flatten_cons,List.append_assoc]
  rw [<-e2, <-foldl_rep its k (acc++its), <-e,List.replicate_succ,List.foldl_cons]
section
variable {X:Cx} {pins:List (Addr×Obj)} {σ:St} {H:Hp} {s:Shared} {l b:Addr} {xs ys zs:List V}
theorem Inv.lset {its its':List Value} {n:Nat} {f:Array Value->Array Value} {t':Nat} (I:Inv X pins σ H s) (hH:H l=some (.lst xs))
  (e:s.heap.get? l=some {cls:= .type "list",data:= .seq its.toArray n}) (hf:f its.toArray=its'.toArray) (hv:Vals ys its') (hz:ys.length<=sizeLine):
  Inv X pins σ (upd H l (.lst ys)) {s with heap:=s.heap.update l (Obj.mapSeq f),toks:=t'}:=by
 have q:=PySem.IsL.update e f
 rw [hf]at q
 refine I.write (x:=l) (e:=l) (by rw [hH];exact trivial) (.inl rfl) (fun b' u hb hu=>(Heap.get?_update_other s.heap (Obj.mapSeq f) (Ne.symm hb)).trans hu) ⟨_,q⟩ ?_
 exact⟨hz,its',_,hv,q⟩
theorem Inv.lnew {its:List Value} {t':Nat} (I:Inv X pins σ H s) (hv:Vals ys its) (hz:ys.length<=sizeLine):
  Inv X pins σ (upd H s.heap.objs.size (.lst ys)) {s with heap:=s.heap.push {cls:= .type "list",data:= .seq its.toArray},toks:=t'}:=
 I.laid (fun _ _ q=>Heap.get?_push_of_some _ q) (Nat.le_refl _) ⟨hz,its,0,hv,Heap.get?_push_size _ rfl⟩
theorem Inv.fresh (I:Inv X pins σ H s):H s.heap.objs.size=none:=I.hok.fresh (Nat.le_refl _)
theorem Inv.lstM (I:Inv X pins σ H s) (hH:H l=some (.lst xs)):xs.length<=sizeLine/\∃(its:List Value) (n:Nat),Vals xs its/\xs.length=its.length/\s.heap.get? l=some {cls:= .type "list",data:= .seq its.toArray n}:=by
 obtain⟨z,its,n,r,e⟩:=I.hok l _ hH
 exact⟨z,its,n,r,r.length,e⟩
theorem notLongL {n:Nat} (h:n<=sizeLine):Builtin.List.listTooLong n=false:=by
 unfold Builtin.List.listTooLong
 exact decide_eq_false (by omega)
end
section
variable {X:Cx}
def rAppend:V->List V->Hp->VK->Prop:=fun x vs H Q=>∃l xs y,x= .ref l/\vs=[y]/\H l=some (.lst xs)/\xs.length<sizeLine/\Q .non (upd H l (.lst (xs++[y])))
theorem mt_append:MtM X "list.append" rAppend:=by
 intro pins s σ H x vs v us Q I rx rv h
 obtain⟨l,xs,y,rfl,rfl,hH,hz,q⟩:=h
 cases rx
 obtain⟨u,rfl,ru⟩:=rv.one
 obtain⟨z,its,n,r,hl,e⟩:=I.lstM hH
 refine call_meets F.slot_list_append ⟨_,e,rfl⟩ F.entry_list_append (F.args_list_append_2 _ _) (PySem.list_append l its.toArray n u (by rw [List.size_toArray];omega)) ⟨e,?_⟩
 refine⟨.non,_,I.lset (its':=its++[u]) hH e (by simp) (r.append (.cons ru .nil)) ?_,rfl,q⟩
 rw [List.length_append,List.length_singleton]
 omega
def rExtend:V->List V->Hp->VK->Prop:=fun x vs H Q=>∃l b xs zs,x= .ref l/\vs=[.ref b]/\H l=some (.lst xs)/\H b=some (.lst zs)/\xs.length+zs.length<=sizeLine/\Q .non (upd H l (.lst (xs++zs)))
theorem mt_extend:MtM X "list.extend" rExtend:=by
 intro pins s σ H x vs v us Q I rx rv h
 obtain⟨l,b,xs,zs,rfl,rfl,hH,hB,hz,q⟩:=h
 cases rx
 obtain⟨u,rfl,ru⟩:=rv.one
 cases ru
 obtain⟨z,its,n,r,hl,e⟩:=I.lstM hH
 obtain⟨z2,its2,n2,r2,hl2,e2⟩:=I.lstM hB
 have hsz:its.toArray.size+its2.toArray.size<=sizeLine:=by rw [List.size_toArray,List.size_toArray];omega
 have hlong:¬(!its.toArray.isEmpty && Builtin.List.listTooLong (its.toArray.size+its2.toArray.size))=true:=by
  rw [notLongL hsz,Bool.and_false]
  exact Bool.false_ne_true
 refine call_meets F.slot_list_extend ⟨_,e,rfl⟩ F.entry_list_extend (F.args_list_extend_2 _ _)
  (AutoSeq1.list_extend_list_list_0 l its.toArray n b its2.toArray n2 hlong (by rw [List.size_toArray];omega) (by omega)) ⟨e,e2,?_⟩
 refine⟨.non,_,I.lset (its':=its++its2) hH e (by simp) (r.append r2) ?_,rfl,q⟩
 rw [List.length_append]
 omega
def rClear:V->List V->Hp->VK->Prop:=fun x vs H Q=>∃l xs,x= .ref l/\vs=[]/\H l=some (.lst xs)/\Q .non (upd H l (.lst []))
theorem mt_clear:MtM X "list.clear" rClear:=by
 intro pins s σ H x vs v us Q I rx rv h
 obtain⟨l,xs,rfl,rfl,hH,q⟩:=h
 cases rx
 have hus:=rv.zero
 subst hus
 obtain⟨z,its,n,r,hl,e⟩:=I.lstM hH
 refine call_meets F.slot_list_clear ⟨_,e,rfl⟩ F.entry_list_clear (F.args_list_clear_1 _) (AutoSeq1.list_clear_list_0 l its.toArray n (by rw [List.size_toArray];omega)) ⟨e,?_⟩
 exact⟨.non,_,I.lset (its':=[]) (ys:=[]) hH e rfl .nil (Nat.zero_le _),rfl,q⟩
def rCat:R2:=fun x y H Q=>∃l b xs zs,x= .ref l/\y= .ref b/\H l=some (.lst xs)/\H b=some (.lst zs)/\xs.length+zs.length<=sizeLine/\∀p,H p=none->Q (.ref p) (upd H p (.lst (xs++zs)))
theorem op_cat:OpR X (binaryOp .Add) rCat:=by
 intro pins s σ H x y v u Q I rx ry h
 obtain⟨l,b,xs,zs,rfl,rfl,hH,hB,hz,q⟩:=h
 cases rx
 cases ry
 obtain⟨z,its,n,r,hl,e⟩:=I.lstM hH
 obtain⟨z2,its2,n2,r2,hl2,e2⟩:=I.lstM hB
 refine PySem.P.add_list e e2 ?_ (by rw [List.size_toArray,List.size_toArray];omega)
 have ea:its.toArray++its2.toArray=(its++its2).toArray:=by simp
 rw [ea]
 exact⟨.ref _,_,I.lnew (t':=s.toks) (r.append r2) (by rw [List.length_append];omega),rfl,q _ I.fresh⟩
theorem len_rep {α:Type} (xs:List α) (k:Nat):(List.replicate k xs).flatten.length=k*xs.length:=by
 induction k with
 |zero=>simp
 |succ k ih=>rw [List.replicate_succ,List.flatten_cons,List.length_append,ih,Nat.succ_mul,Nat.add_comm]
end
section
variable {prog:Program} {w:World} {A:Around} {E:Value->Shared->Prop} {s:Shared}
set_option maxRecDepth 100000 in
end
section
variable {X:Cx}
end
end L2
namespace Att
open PySem PySem.W PySem.Calls PyProof.Rows
theorem ints_of_wellAll {P:Params} {h:Heap}:∀(ns:List Int) (vs:List Value),WellAll P h vs (ns.map WData.int)->IntsAre vs ns:=by
 intro ns
 induction ns with
 |nil=>
  intro vs w
  rw [List.map_nil]at w
  cases w
  exact .nil
 |cons n ns ih=>
  intro vs w
  rw [List.map_cons]at w
  cases w with
  |cons a b=>
   cases a
   exact .cons _ _ (ih _ b)
theorem script_of {l:OpenLaw} {n:Nat} (hn:l.most=some n) {P:Params} {h:Heap} {args:List WData} {vals:List Value}
  (hpre:l.row.toRowW.claim.pre args=true) (hwl:WellAll P h vals args):
  ∃a vs ns,vals=[Value.ref a]/\args=[WData.list (ns.map WData.int)]/\h.get? a=some {cls:= .type "list",data:= .seq vs.toArray}/\IntsAre vs ns/\ns.length<=n:=by
 have hsh:WShape.hasAll [] args [.list .int]=true:=(pre_splitW hpre).1
 have hc:l.pre.holds [] {args:=args}=true:=(pre_splitW hpre).2
 obtain⟨d,r,rfl,h1,h2⟩:=hasAllW_cons hsh
 obtain rfl:=hasAllW_nil h2
 obtain⟨xs,rfl,h3⟩:=hasW_list h1
 obtain⟨ns,rfl⟩:=items_int h3
 have hlen:ns.length<=n:=by
  unfold OpenLaw.pre at hc
  have h4:(WTm.not (.lt (.lit (.int (n:Int))) (.len (.arg 0)))).holds [] {args:=[.list (ns.map .int)]}=true:=by
   have h4:=(holds_andW hc).1
   rw [hn]at h4
   exact h4
  have h5:=condW_of h4 (w_not (w_lt w_lit (w_len_list (w_arg rfl))))
  rw [List.length_map]at h5
  refine Nat.le_of_not_lt fun q=>?_
  have q':(n:Int)<((ns.length:Nat):Int):=by omega
  first
   |(rw [decide_eq_true q']at h5;exact absurd h5 (by decide))
   |(simp at h5;omega)
 cases hwl with
 |cons w1 w2=>
  cases w2
  cases w1 with
  |list ho hall=>exact⟨_,_,ns,rfl,rfl,ho,ints_of_wellAll ns _ hall,hlen⟩
theorem post_true (l:OpenLaw) (args:List WData):l.row.toRowW.claim.post args (.bool true) args=true:=
 postW_of (r:=l.row.toRowW) (X:=(true==true))
  (show WShape.has [] (.bool true) .bool=true by first|rfl|decide|simp [WShape.has,WShape.arms,WShape.armsAll])
  (show(WTm.eq .res (.lit (.bool true))).value [] {args:=args,res:=some (.bool true),after:=args}=some (.bool (true==true))from w_eq_bool (w_res rfl) w_lit) rfl
theorem attach_call {l:OpenLaw} {n:Nat} {q:Program} {loose:List Str} {XP:(Str->Option Value)->Heap->Prop} {YP:World->Heap->Prop} {d:DefRec}
  (hn:l.most=some n) (hdf:d.params.defaults=[])
  (call:∀(w:World) (s₀ s₁:Shared) (mg mb:Str->Option Value) (fa:Addr) (o:Obj) (pm cd doc:Value) (a:Addr) (vs:List Value) (ns:List Int),
   Ground q loose [] XP w s₀ mg mb s₁.heap->YP w s₁.heap->
   s₁.heap.get? fa=some o->o.data= .func (docDef d.name d.params d.body d.scope pm cd doc)->s₁.heap.CodeRec cd d.name->mg d.name=some (.ref fa)->
   s₁.heap.get? a=some {cls:= .type "list",data:= .seq vs.toArray}->IntsAre vs ns->ns.length<=n->s₁.gens= #[]->
   codeAny (model l.prog w) callerA (.call (.ref fa) ⟨[.ref a],[]⟩) (fun r s'=>r= .ok (.ret (.bool true))/\OldK s₁.heap s'.heap/\s'.os=s₁.os/\AllBare s'.gens) s₁):
  WalkO q loose XP YP l.row.toRowW d [] (fun f vs=>PySem.call f vs):=by
 intro w s₀ s₁ mg mb G Y fa o pm cd doc dV kV ho hd hcd hD hmg hg args vals as hpre hlay hrd hwl hlo
 obtain rfl:dV= .none:=Dflts.none hD hdf
 obtain rfl:kV= .none:=Dflts.noKw hD
 obtain⟨a,vs,ns,rfl,rfl,hobj,hints,hlen⟩:=script_of hn hpre hwl
 refine enter_call (codeAny_mono (call w s₀ s₁ mg mb fa o pm cd doc a vs ns G Y ho (fd_plain hd) hcd hmg hobj hints hlen hg) fun r s' hq=>?_)
 obtain⟨rfl,h2,h3,h4⟩:=hq
 exact⟨.inl ⟨.bool true,.bool true,[],rfl,fun _=>rfl,.bool true,post_true l _,fun _=>⟨List.Pairwise.nil,fun _ hm=>(nomatch hm)⟩⟩,h2,h3,h4⟩
section
variable {prog:Program} {w:World} {A:Around} {E:Value->Shared->Prop} {s:Shared} {K:Frag}
end
end Att
namespace L2
open PySem PySem.Spec PyProof.Rows
theorem vals_ints:∀{vs:List Value} {ns:List Int},IntsAre vs ns->Vals (ns.map V.int) vs
 |_,_,.nil=> .nil
 |_,_,.cons n t h=> .cons ⟨t,rfl⟩ (vals_ints h)
def Only (H:Hp):Prop:=∀b,H b=none∨∃o xs,H b=some (.frz o (.lst xs))
theorem law_call {P:Program} {w:World} {K:PySem.W.Frag} {mg mb:Str->Option Value} {CX:CXT} {k:Nat} {fa a:Addr} {fd:FuncData} {x:Str} {sp:Sp} {s₁:Shared} {vs:List Value} {ns:List Int}
  (KX:K.In s₁.heap) (hns:s₁.heap.Ns mainGlobals mg) (hb:s₁.heap.Ns builtinsNs mb) (hbb:∀x:Str,x≠"__name__"->mb x=bootBuiltins x) (hlim:s₁.heap.NoLimit) (hg:s₁.gens= #[])
  (ha:s₁.heap.get? a=some {cls:= .type "list",data:= .seq vs.toArray}) (hi:IntsAre vs ns) (hl:ns.length<=sizeLine) (hr:Room k callerA)
  (F:∀base:Heap,K.In base->base.Ns mainGlobals mg->FnOk P w K mg base CX k fa fd [x] sp) (hbind:∀(s:Shared) (u:Value),BindsTo s fd ⟨[u],[]⟩ [(x,u)])
  (hsp:∀H:Hp,Only H->SqL K H a (ns.map V.int)->sp [.ref a] H (fun v _=>v= .bl true) fun _ _ _=>False)
  (hCX:∀H e s',CX [] H s₁ (fun _ _ _=>False) e s'->False):
  codeAny (model P w) callerA (.call (.ref fa) ⟨[.ref a],[]⟩) (fun r s'=>r= .ok (.ret (.bool true))/\OldK s₁.heap s'.heap/\s'.os=s₁.os/\AllBare s'.gens) s₁:=by
 have rv:=vals_ints hi
 have lenV:=hi.length
 have core:∀H:Hp,Only H->SqL K H a (ns.map V.int)->HOk P w H s₁.heap->(∀b,H b≠none->b=a)->(H a≠none->K.lookup a=none)->
   codeAny (model P w) callerA (.call (.ref fa) ⟨[.ref a],[]⟩) (fun r s'=>r= .ok (.ret (.bool true))/\OldK s₁.heap s'.heap/\s'.os=s₁.os/\AllBare s'.gens) s₁:=by
  intro H hO hS hok hA hK
  have base_of:∀{b:Addr} {o:Obj},s₁.heap.get? b=some o->H b=none->(hidT s₁.heap H).get? b=some o:=fun e n=>hidT_get e n
  have noA:∀{b:Addr} {o:Obj} {es:Array DictEntry} {ep:Nat},s₁.heap.get? b=some o->o.data= .dict es ep->H b=none:=fun{b o es ep} e d=>by
   cases q:H b with
   |none=>rfl
   |some u=>
    have e':b=a:=hA b (by rw [q];simp)
    subst e'
    rw [ha]at e;cases e
    have d':Data.seq vs.toArray _=Data.dict es ep:=d
    cases d'
  have nsK:∀{b:Addr} {m:Str->Option Value},s₁.heap.Ns b m->(hidT s₁.heap H).Ns b m:=fun{b m} ⟨o,es,ep,e,d,r⟩=>⟨o,es,ep,base_of e (noA e d),d,r⟩
  have hKb:K.In (hidT s₁.heap H):=fun b o e=>base_of (KX b o e) (by
   cases q:H b with
   |none=>rfl
   |some u=>
    have e':b=a:=hA b (by rw [q];simp)
    subst e'
    rw [hK (by rw [q];simp)]at e;cases e)
  have hM:Mod K mg (hidT s₁.heap H):=⟨hKb,nsK hns,⟨mb,nsK hb,hbb⟩,let⟨mc,h1,h2⟩:=hlim;⟨mc,nsK h1,h2⟩⟩
  have e0:Env0 P w K mg (hidT s₁.heap H) callerA [] s₁ H:=⟨rfl,hM,fun b o e=>of_hidT e,Nat.le_of_eq (hidT_size _ _),trivial,fun b hb=>absurd (show b∈([]:List Addr)from hb) (by simp),hok,.of_eq hg⟩
  refine codeAny_mono ((F _ hKb (nsK hns)).run callerA [] s₁ H ⟨[.ref a],[]⟩ [.ref a] [.ref a] _ _ hr e0 (hbind s₁ (.ref a)) (.cons rfl .nil) (hsp H hO hS)) fun r s' h=>?_
  cases r with
  |error e=>exact(hCX H e s' h).elim
  |ok fl=>
   cases fl with
   |next=>exact False.elim h
   |brk=>exact False.elim h
   |cont=>exact False.elim h
   |ret u=>
    obtain⟨v,H',os,bare,un,hok',r',q⟩:=h
    have q':v= .bl true:=q
    subst q'
    obtain rfl:u=Value.bool true:=r'
    refine⟨rfl,OldK.of_keep fun b o e=>?_,os,bare⟩
    cases q:H b with
    |none=>exact un.keep b o e q (by intro z;exact absurd (show b∈([]:List Addr)from z) (by simp)) (by simp)
    |some u=>
     rcases hO b with z|⟨ob,xs,z⟩
     ·rw [q]at z;cases z
     ·have z2:=un.frzs b ob _ z
      obtain⟨e1,_⟩:=hok b _ z
      obtain⟨e2,_⟩:=hok' b _ z2
      rw [e]at e1;cases e1
      exact e2
 cases hk:K.lookup a with
 |some o=>
  have e:=KX a o hk
  rw [ha]at e
  cases e
  refine core (fun _=>none) (fun _=> .inl rfl) (.inr ⟨_,vs.toArray,_,hk,rfl,rfl,rfl,by rw [List.size_toArray,lenV];exact hl,by simpa using rv⟩) (fun b u z=>by have z':(none:Option HO)=some u:=z;cases z') (fun b z=>absurd rfl z) fun z=>absurd rfl z
 |none=>
  refine core (fun b=>if b=a then some (.frz {cls:= .type "list",data:= .seq vs.toArray} (.lst (ns.map V.int)))else none) (fun b=>?_) (.inl (.inr ⟨{cls:= .type "list",data:= .seq vs.toArray},if_pos rfl⟩)) (fun b u z=>?_) (fun b z=>?_) fun _=>hk
  ·by_cases hb:b=a
   ·exact .inr ⟨_,_,if_pos hb⟩
   ·exact .inl (if_neg hb)
  ·by_cases hb:b=a
   ·have z':=(if_pos hb).symm.trans z
    cases z'
    subst hb
    exact⟨ha,by rw [List.length_map];exact hl,vs,_,rv,ha⟩
   ·have z':=(if_neg hb).symm.trans z
    cases z'
  ·by_cases hb:b=a
   ·exact hb
   ·exact absurd (if_neg hb) z
end L2
namespace L2
open PySem PySem.Spec PyProof.Rows
theorem walk_of {l:PySem.W.OpenLaw} {n k:Nat} {q:Program} {loose:List Str} {XP:(Str->Option Value)->Heap->Prop} {YP:World->Heap->Prop} {d:DefRec} {K:Params->PySem.W.Frag} {CX:World->CXT} {sp:World->Sp} {x:Str}
  (hn:l.most=some n) (hn2:n<=sizeLine) (hdf:d.params.defaults=[]) (hr:Room k callerA)
  (hY:∀(w:World) (h:Heap),YP w h->(K w.params).In h)
  (F:∀(w:World) (mg:Str->Option Value) (fa:Addr) (h:Heap),(K w.params).In h->h.Ns mainGlobals mg->mg d.name=some (.ref fa)->
   ∃fd:FuncData,(∀(s:Shared) (u:Value),BindsTo s fd ⟨[u],[]⟩ [(x,u)])/\
    ∀base:Heap,(K w.params).In base->base.Ns mainGlobals mg->FnOk l.prog w (K w.params) mg base (CX w) k fa fd [x] (sp w))
  (hsp:∀(w:World) (H:Hp) (a:Addr) (ns:List Int),ns.length<=n->Only H->SqL (K w.params) H a (ns.map V.int)->sp w [.ref a] H (fun v _=>v= .bl true) fun _ _ _=>False)
  (hCX:∀(w:World) (H:Hp) (s:Shared) (e:Value) (s':Shared),CX w [] H s (fun _ _ _=>False) e s'->False):
  PySem.W.WalkO q loose XP YP l.row.toRowW d [] (fun f vs=>PySem.call f vs):=by
 refine Att.attach_call hn hdf fun w s₀ s₁ mg mb fa o pm cd doc a vs ns G Y ho hd hcd hmg hobj hints hlen hg=>?_
 have KX:=hY w _ Y
 obtain⟨fd,hb,hF⟩:=F w mg fa _ KX G.T.g hmg
 exact law_call KX G.T.g G.T.b G.T.builtins G.T.nolimit hg hobj hints (Nat.le_trans hlen hn2) hr hF hb (fun H hO hS=>hsp w H a ns hlen hO hS) fun H e s'=>hCX w H s₁ e s'
end L2
/-THE LAST THEOREM (shape;LID,My.*are yours):
   My.Adr:a structure of the addresses that your layer names (classes,functions);My.Txt K t:a structure (Prop) of the equations over K;
   My.txt_mk:{K} {implicit addresses ..} (e1:nsIn K mainGlobals "law"=some (some (.ref f))) (e2:K.lookup f=some ⟨oc,od,.func (fnOf "law" "law" params body scope dV kV doc pm an cdv ct),sl⟩) (e3:codeIn K cdv "law"=true) .. :∃t,My.Txt K t
set_option maxRecDepth 100000 in
set_option maxHeartbeats 0 in
theorem PySem.Challenge.cw_LID_holds : PySem.Challenge.rw_LID.Holds := by
  w_on; o_law; k_head; (case hw => w_witness2)
  k_fill
  refine L2.walk_of (l := PySem.Challenge.rw_LID) (n := 63) (k := 40) (x := "script") (CX := fun w => ..) (sp := fun _ => My.sp_law) rfl (by decide) rfl ⟨rfl, by decide, by decide⟩ (fun w h Y => PySem.W.kIn_of Y) ?F ?S ?C
  case F =>
    intro w mg fa h KX G hmg
    have T : ∃ t, My.Txt (L2.KOf KX) t := by
      dsimp only [L2.KOf]                          -- K must stand as «<heap const> w.params» for k_is
      refine' My.txt_mk ?e1 ?e2 ?e3 ..
      (case e1 => PySem.W.k_is)                    -- in the order: a name -> its address -> its object -> its parts
      (case e2 => PySem.W.k_is)
      ..
    obtain ⟨t, T⟩ := T
    have e0 := hmg.symm.trans (PySem.W.mg_of KX G T.law)
    cases e0                                       -- fa is the law's own address
    exact ⟨_, fun s u => .of_eq rfl, fun base kb nb => My.law_fn T kb nb⟩     -- if «.of_eq rfl» comes too early: refine' ⟨_, ?b, fun base kb nb => My.law_fn T kb nb⟩; exact fun s u => .of_eq rfl
  case S => exact fun w H a ns hl hO hS => ..
  case C => exact ..
(the tactic k_is has no namespace:write k_is)-/
namespace L2
open PySem PySem.Spec PyProof.Rows
def inClass (s:Stmt) (j:Nat):Stmt:=match s with
 | .ClassDef _ _ _ body _ _ _ _ _ _ _=>body.getD j (.Pass ⟨0,0,0,0⟩)
 |_=> .Pass ⟨0,0,0,0⟩
def defArgs (s:Stmt):Arguments:=match s with
 | .FunctionDef _ a _ _ _ _ _ _ _ _=>a
 |_=>{posonlyargs:=[],args:=[],vararg:=none,kwonlyargs:=[],kw_defaults:=[],kwarg:=none,defaults:=[]}
def defBody (s:Stmt):List Stmt:=match s with
 | .FunctionDef _ _ b _ _ _ _ _ _ _=>b
 |_=>[]
def defScope (s:Stmt):Scope:=match s with
 | .FunctionDef _ _ _ _ _ _ sc _ _ _=>sc
 |_=>{kind:= .function,names:=[],isGenerator:=false,isCoroutine:=false}
abbrev CX0:CXT:=fun _ _ _ _ _ _=>False
abbrev E0:XK:=fun _ _ _=>False
theorem pass0 {X:Cx}:Passes CX0 X E0:=fun _ _ _ _ _ _ _ h=>h.elim
structure Fun (K:PySem.W.Frag) (x qual:Str) (st:Stmt) (f:Addr) (fd:FuncData):Prop where
 ex:∃(oc:Value) (od:Option Addr) (kV doc pm:Value) (an:Option Addr) (cdv ct:Value) (osl:Array (Option Value)),
  fd=PySem.W.fnOf x qual (defArgs st) (defBody st) (defScope st) .none kV doc pm an cdv ct/\K.lookup f=some ⟨oc,od,.func fd,osl⟩/\PySem.W.codeIn K cdv qual=true
 kp:PySem.W.keepIn K (.ref f)=true
section
variable {P:Program} {w:World} {K:PySem.W.Frag} {mg:Str->Option Value} {base:Heap}
theorem Fun.ok {x qual:Str} {st:Stmt} {f:Addr} {fd:FuncData} {N ps:List Str} {k:Nat} {sp:Sp} (F:Fun K x qual st f fd) (S:FnScope N ps (defScope st)) (len:∀vs H Q E,sp vs H Q E->vs.length=ps.length)
  (hbody:∀(cdv:Value) (A:Around) (outer:List Env) (s:Shared) (H:Hp) (vs:List V) (Q:VK) (E:XK),Room k (A.deeper (envOfC qual (defScope st) s.heap.objs.size f cdv))->sp vs H Q E->
   ∃t,PSs (cxOf CX0 P w K mg base N qual (defScope st) f cdv A outer s H E).nox (defBody st) t/\t {nx:=fun _ H'=>Q .non H',rt:=Q} (start N vs) H):FnOk P w K mg base CX0 (k+1) f fd ps sp:=by
 obtain⟨oc,od,kV,doc,pm,an,cdv,ct,osl,rfl,lk,hcd⟩:=F.ex
 refine fn_of lk hcd S len fun A outer s H vs Q E hr hsp=>?_
 obtain⟨t,h,q⟩:=hbody cdv A outer s H vs Q E hr hsp
 exact⟨t,h.nox,q⟩
theorem Fun.binds {x qual:Str} {st:Stmt} {f:Addr} {fd:FuncData} {ps:List Str} (F:Fun K x qual st f fd)
  (h:∀(kV doc pm:Value) (an:Option Addr) (cdv ct:Value) (us:List Value),us.length=ps.length->bindArgs (PySem.W.fnOf x qual (defArgs st) (defBody st) (defScope st) .none kV doc pm an cdv ct) ⟨us,[]⟩=pure (ps.zip us)):Binds K fd ps []:=by
 obtain⟨oc,od,kV,doc,pm,an,cdv,ct,osl,rfl,lk,hcd⟩:=F.ex
 exact .all (h kV doc pm an cdv ct)
theorem fun_mk {x qual:Str} {st:Stmt} {f:Addr} {oc:Value} {od an:Option Addr} {osl:Array (Option Value)} {kV doc pm cdv ct:Value} (l:K.lookup f=some ⟨oc,od,.func (PySem.W.fnOf x qual (defArgs st) (defBody st) (defScope st) .none kV doc pm an cdv ct),osl⟩)
  (c:PySem.W.codeIn K cdv qual=true) (k:PySem.W.keepIn K (.ref f)=true):Fun K x qual st f (PySem.W.fnOf x qual (defArgs st) (defBody st) (defScope st) .none kV doc pm an cdv ct):=⟨⟨oc,od,kV,doc,pm,an,cdv,ct,osl,rfl,l,c⟩,k⟩
end
theorem hu_of {A:Around} {k:Nat} (hr:Room k A):A.units+1<cLine:=Nat.lt_of_le_of_lt (Nat.add_le_add_left (by decide:1<=64) _) hr.units
theorem small1000 {n:Nat} (h:n<=1000):n<sizeLine:=Nat.lt_of_le_of_lt h (by decide)
section
variable {X:Cx}
theorem pv (i:Nat) {x:Str} {pos:Pos} (hN:X.N[i]? =some x:=by rfl) (hv:Vis X.env.scope x:=by first|exact Or.inl rfl|exact Or.inr (Or.inl rfl)|exact Or.inr (Or.inr rfl)) (hd:(x==("__debug__":Str))=false:=by decide)
  (hcd:(x==("__classdict__":Str))=false:=by decide):PE X (.Name x pos) (tVar i):=pe_var hN hv hd hcd
end
theorem iteF {A B:Prop} (h:B):if false=true then A else B:=by
 rw [if_neg Bool.false_ne_true]
 exact h
theorem iteT {A B:Prop} (h:A):if true=true then A else B:=by
 rw [if_pos rfl]
 exact h
theorem ite2 {c A B:Prop} [Decidable c] (h1:c->A) (h2:¬c->B):if c then A else B:=by
 by_cases h:c
 ·rw [if_pos h]
  exact h1 h
 ·rw [if_neg h]
  exact h2 h
theorem iteNS {c A B:Prop} [Decidable c] (hc:c) (h:B):if(!decide c)=true then A else B:=by
 rw [decide_eq_true hc]
 exact iteF h
def Same (H H':Hp):Prop:=∀b o,H b=some o->H' b=some o
theorem Same.refl (H:Hp):Same H H:=fun _ _ h=>h
theorem Same.trans {H H1 H2:Hp} (a:Same H H1) (b:Same H1 H2):Same H H2:=fun c o h=>b c o (a c o h)
theorem Same.free {H H':Hp} (e:Same H H') {l:Addr} (h:H' l=Option.none):H l=Option.none:=by
 cases q:H l with
 |none=>rfl
 |some o=>
  rw [e l o q]at h
  cases h
end L2
set_option maxHeartbeats 4000000
namespace L2
open PySem PySem.Spec PyProof.Rows
section
variable {κ:Type} [DecidableEq κ]
def valV (kvs:List (κ×V)) (k:κ):Option V:=(kvs.find? fun kv=>decide (kv.1=k)).map (·.2)
def putK (kvs:List (κ×V)) (k:κ) (v:V):List (κ×V):=
 if(kvs.any fun kv=>decide (kv.1=k))=true then kvs.map (fun kv=>if kv.1=k then(kv.1,v)else kv)else kvs++[(k,v)]
theorem valV_pos {p:κ×V} {r:List (κ×V)} {k:κ} (e:p.1=k):valV (p::r) k=some p.2:=by simp [valV,List.find?_cons,e]
theorem valV_neg {p:κ×V} {r:List (κ×V)} {k:κ} (e:¬p.1=k):valV (p::r) k=valV r k:=by simp [valV,List.find?_cons,e]
theorem length_putK (kvs:List (κ×V)) (k:κ) (v:V):(putK kvs k v).length<=kvs.length+1:=by
 unfold putK
 split
 ·rw [List.length_map];omega
 ·rw [List.length_append,List.length_cons,List.length_nil];omega
theorem KV.val {kvs:List (κ×V)} {vs:List (κ×Value)} (r:KV kvs vs) (k:κ):RelO (valV kvs k) (valueAt vs k):=by
 unfold KV at r
 induction r with
 |nil=>exact True.intro
 |@cons p q ps qs h t ih=>
  obtain⟨h1,h2⟩:=h
  by_cases e:p.1=k
  ·have e':q.1=k:=h1.symm.trans e
   have b:valueAt (q::qs) k=some q.2:=by simp [valueAt,List.find?_cons,e']
   rw [valV_pos e,b];exact h2
  ·have e':¬q.1=k:=fun z=>e (h1.trans z)
   have b:valueAt (q::qs) k=valueAt qs k:=by simp [valueAt,List.find?_cons,e']
   rw [valV_neg e,b];exact ih
theorem KV.any {kvs:List (κ×V)} {vs:List (κ×Value)} (r:KV kvs vs) (k:κ):(kvs.any fun kv=>decide (kv.1=k))=vs.any fun kv=>decide (kv.1=k):=by
 unfold KV at r
 induction r with
 |nil=>rfl
 |cons h t ih=>rw [List.any_cons,List.any_cons,ih,h.1]
theorem KV.repl {kvs:List (κ×V)} {vs:List (κ×Value)} (r:KV kvs vs) (k:κ) {y:V} {u:Value} (ry:RelV y u):
  KV (kvs.map fun kv=>if kv.1=k then(kv.1,y)else kv) (vs.map fun kv=>if kv.1=k then(kv.1,u)else kv):=by
 unfold KV at r⊢
 induction r with
 |nil=>exact .nil
 |@cons p q ps qs h t ih=>
  rw [List.map_cons,List.map_cons]
  refine .cons ?_ ih
  obtain⟨h1,h2⟩:=h
  by_cases e:p.1=k
  ·rw [if_pos e,if_pos (h1.symm.trans e)];exact⟨h1,ry⟩
  ·rw [if_neg e,if_neg (fun z=>e (h1.trans z))];exact⟨h1,h2⟩
theorem KV.put {kvs:List (κ×V)} {vs:List (κ×Value)} (r:KV kvs vs) (k:κ) {y:V} {u:Value} (ry:RelV y u):KV (putK kvs k y) (stored vs k u):=by
 unfold putK stored
 rw [r.any k]
 by_cases e:(vs.any fun kv=>decide (kv.1=k))=true
 ·rw [if_pos e,if_pos e];exact r.repl k ry
 ·rw [if_neg e,if_neg e];exact Paired.snoc r ⟨rfl,ry⟩
theorem KV.length {kvs:List (κ×V)} {vs:List (κ×Value)} (r:KV kvs vs):kvs.length=vs.length:=Paired.length r
end
theorem kV_is {P:Program} {w:World} {k:Key} {u:Value} (r:RelV (kV k) u):(mixKind P w).is k u=true:=by
 cases k with
 |inl i=>obtain⟨t,e⟩:=(show∃t,u=Value.int i t from r);subst e;exact mixKind_int P w i t
 |inr x=>obtain⟨t,e⟩:=(show∃t,u=Value.str x t from r);subst e;exact mixKind_str P w x t
theorem items_are {P:Program} {w:World}:∀{ks:List Key} {us:List Value},Vals (ks.map kV) us->ItemsAre (mixKind P w) ks us
 | [],_,r=>by rw [List.map_nil]at r;cases r;exact .nil
 |k::ks,_,r=>by
  rw [List.map_cons]at r
  cases r with
  |cons h t=>exact .cons (kV_is h) (items_are t)
abbrev KT (H:Hp):List (List Key×V)->List (List Key×Addr×Value)->Prop:=Paired fun p q=>p.1=q.1/\H q.2.1=some (.tup (p.1.map kV))/\RelV p.2 q.2.2
theorem KT.val {H:Hp} {kvs:List (List Key×V)} {xs:List (List Key×Addr×Value)} (r:KT H kvs xs) (k:List Key):RelO (valV kvs k) ((atKey xs k).map (·.2)):=by
 induction r with
 |nil=>exact True.intro
 |@cons p q ps qs h t ih=>
  obtain⟨h1,_,h2⟩:=h
  by_cases e:p.1=k
  ·have e':q.1=k:=h1.symm.trans e
   have b:atKey (q::qs) k=some q.2:=by simp [atKey,List.find?_cons,e']
   rw [valV_pos e,b];exact h2
  ·have e':¬q.1=k:=fun z=>e (h1.trans z)
   have b:atKey (q::qs) k=atKey qs k:=by simp [atKey,List.find?_cons,e']
   rw [valV_neg e,b];exact ih
section
variable {P:Program} {w:World} {H:Hp} {h:Heap} {a:Addr}
theorem rd_of {u:HO} (ok:HOk P w H h) (e:Rd H a u):ObjOk P w H h a u:=e.ok ok
theorem dk_rd {kvs:List (Key×V)} (ok:HOk P w H h) (e:Rd H a (.dK kvs)):kvs.length<=sizeLine/\(a==sysModules)=false/\∃vs,KV kvs vs/\h.DictOf (mixKind P w) a vs:=
 show ObjOk P w H h a (.dK kvs)from rd_of ok e
theorem dk_of {kvs:List (Key×V)} (ok:HOk P w H h) (e:H a=some (.dK kvs)):kvs.length<=sizeLine/\(a==sysModules)=false/\∃vs,KV kvs vs/\h.DictOf (mixKind P w) a vs:=dk_rd ok (.inl e)
theorem key_of {ks:List Key} (ok:HOk P w H h) (e:H a=some (.tup (ks.map kV))):(tupleKind (mixKind P w)).is h ks a:=by
 obtain⟨_,its,r,o,h1,h2,n,h3⟩:=(show ObjOk P w H h a (.tup (ks.map kV))from ok a _ e)
 exact⟨o,its.toArray,n,h1,h2,h3,by simpa using items_are r⟩
theorem dt_rd {kvs:List (List Key×V)} (ok:HOk P w H h) (e:Rd H a (.dT kvs)):kvs.length<=sizeLine/\(a==sysModules)=false/\
  ∃xs,KT H kvs xs/\h.DictOfH (tupleKind (mixKind P w)) a xs:=by
 obtain⟨z,y,xs,r,o,es,ep,h1,h2,h3,h4,h5⟩:=(show ObjOk P w H h a (.dT kvs)from rd_of ok e)
 refine⟨z,y,xs,r,o,es,ep,h1,h2,h3,h4,fun x hx=>?_,h5⟩
 have all:∀{l:List (List Key×V)} {m:List (List Key×Addr×Value)},KT H l m->∀x∈m,(tupleKind (mixKind P w)).is h x.1 x.2.1:=by
  intro l m q
  induction q with
  |nil=>intro x hx;exact nomatch hx
  |@cons p q ps qs hq t ih=>
   intro x hx
   rcases List.mem_cons.mp hx with e|hx
   ·subst e
    exact key_of ok (by rw [<-hq.1];exact hq.2.1)
   ·exact ih x hx
 exact all r x hx
end
def DGet (H:Hp) (a:Addr) (y:V) (r:Option V):Prop:=
 (∃kvs k,Rd H a (.dK kvs)/\y=kV k/\r=valV kvs k)∨∃kvs k b,Rd H a (.dT kvs)/\y= .ref b/\H b=some (.tup (k.map kV))/\r=valV kvs k
theorem DGet.k {H:Hp} {a:Addr} {kvs:List (Key×V)} {k:Key} (e:H a=some (.dK kvs)):DGet H a (kV k) (valV kvs k):= .inl ⟨kvs,k,.inl e,rfl,rfl⟩
section
variable {X:Cx} {pins:List (Addr×Obj)} {σ:St} {H:Hp} {s:Shared} {a:Addr} {y v:V} {u r:Value} {o:Option V} {A:Around} {E:Value->Shared->Prop}
theorem Inv.big (I:Inv X pins σ H s):sysModules<s.heap.objs.size:=by
 have h:mainGlobals<s.heap.objs.size:=(I.mod.glob.keeps I.bk).lt
 exact Nat.lt_trans (by decide) h
theorem d_getItem {Q:Value->Shared->Prop} (hu:A.units+1<cLine) (I:Inv X pins σ H s) (g:DGet H a y (some v)) (ry:RelV y u) (h:∀w' s',Inv X pins σ H s'->RelV v w'->Q w' s'):
  wpAny (model X.prog X.w) A (getItem (.ref a) u) Q E s:=by
 rcases g with ⟨kvs,k,e,ey,l⟩|⟨kvs,k,b,e,ey,eb,l⟩
 ·subst ey
  obtain⟨z,hd,vs,rel,dd⟩:=dk_rd I.hok e
  obtain⟨w',hw,rw'⟩:=RelO.some_of (v:=v) (o:=valueAt vs k) (by rw [l];exact rel.val k)
  exact wpAny_getItem_of (kV_is ry) dd.mapOf hw (h w' _ (I.tok _) rw')
 ·subst ey
  cases (show u=Value.ref b from ry)
  obtain⟨z,hd,xs,rel,dd⟩:=dt_rd I.hok e
  obtain⟨w',hw,rw'⟩:=RelO.some_of (v:=v) (o:=(atKey xs k).map (·.2)) (by rw [l];exact rel.val k)
  obtain⟨p,hp,hp2⟩:=Option.map_eq_some_iff.mp hw
  refine wpAny_getItem_heap (tupleKind_room_in1 hu) (key_of I.hok eb) dd hp ?_
  rw [hp2]
  exact h w' _ (I.tok _) rw'
theorem d_write {h':Heap} {t':Nat} {ob:HO} (I:Inv X pins σ H s) (mu:Mut (H a)) (hs:Heap.SameBut a s.heap h') (he:∃q,h'.get? a=some q) (new:ObjOk X.prog X.w (upd H a ob) h' a ob):
  Inv X pins σ (upd H a ob) {s with heap:=h',toks:=t'}:=
 I.write (x:=a) (e:=a) mu (.inl rfl) (fun b q hb z=>(hs.2 b hb).trans z) he new
theorem dk_new {P:Program} {w:World} {H':Hp} {h':Heap} {kvs:List (Key×V)} {vs:List (Key×Value)} (z:kvs.length<=sizeLine) (hd:(a==sysModules)=false) (rel:KV kvs vs) (dd:h'.DictOf (mixKind P w) a vs):
  ObjOk P w H' h' a (.dK kvs):=⟨z,hd,vs,rel,dd⟩
end
section
variable {X:Cx} {pins:List (Addr×Obj)} {σ:St} {H:Hp} {s:Shared} {a:Addr} {kvs:List (Key×V)} {k:Key} {u:Value} {A:Around} {E:Value->Shared->Prop}
end
def NoSl (i:Expr):Prop:=∀ov iv,subscripted i false ov iv=operate [ov,iv] (getItem ov iv)
theorem subD_of {prog:Program} {w:World} {A:Around} {E:Value->Shared->Prop} {s:Shared} {env:Env} {value slice:Expr} {pos:Pos} {T id:String} {Q:Value->Shared->Prop}
  (hl:typeLookup (.type T) "__getitem__"=pure (some (.builtin id))) (hs:NoSl slice)
  (h:wpAny (model prog w) A (eval value env) (fun o s₁=>wpAny (model prog w) A (eval slice env) (fun i s₂=>s₂.TypeIs o T/\wpAny (model prog w) A (getItem o i) Q E s₂) E s₁) E s):
  wpAny (model prog w) A (eval (.Subscript value slice pos) env) Q E s:=by
 refine Subscript_ (wpAny_mono h (fun o s₁ h₁=>wpAny_mono h₁ (fun i s₂ h₂=>?_) fun _ _ x=>x) fun _ _ x=>x)
 obtain⟨hT,h₂⟩:=h₂
 unfold subscriptTail
 refine wpAny_bind ?_
 rw [getitemInPython_of_ne hT.not_modules]
 refine wpAny_bind (wpAny_specialOf hT hl ?_)
 have fin:wpAny (model prog w) A (subscripted slice false o i) (fun r s₃=>wpAny (model prog w) A (letTemporaryGo value o r>>=fun _=>pure r) Q E s₃) E s₂:=by
  rw [hs o i]
  exact wpAny_operating (wpAny_mono h₂ (fun r s₃ h₃=>wpAny_bind (wpAny_letTemporaryGo (wpAny_pure h₃))) fun _ _ x=>x)
 first
  |exact wpAny_pure (wpAny_bind fin)
  |exact wpAny_bind (wpAny_pure (wpAny_bind fin))
  |exact wpAny_bind fin
theorem dict_typeIs {X:Cx} {pins:List (Addr×Obj)} {σ:St} {H:Hp} {s:Shared} {a:Addr} {y:V} {o:Option V} (I:Inv X pins σ H s) (g:DGet H a y o):s.TypeIs (.ref a) "dict":=by
 rcases g with ⟨kvs,k,e,_,_⟩|⟨kvs,k,b,e,_,_,_⟩
 ·obtain⟨_,_,vs,_,dd⟩:=dk_rd I.hok e
  exact dd.typeIs
 ·obtain⟨_,_,xs,_,dd⟩:=dt_rd I.hok e
  exact dd.typeIs
def tDGet (td ty:TE):TE:=fun σ H Q=>td σ H fun x H1=>ty σ H1 fun y H2=>∃a v,x= .ref a/\DGet H2 a y (some v)/\Q v H2
section
variable {X:Cx} {o i e value:Expr} {pos pos' tpos:Pos} {td ty tv:TE}
theorem pe_dget (hu:X.A.units+1<cLine) (ho:PE X o td) (hi:PE X i ty) (hs:NoSl i):PE X (.Subscript o i pos) (tDGet td ty):=by
 intro pins s σ H Q I h
 refine subD_of PySem.F.slot_dict_getitem.lookup hs (thn (ho pins s σ H _ I h) fun u s1 ⟨x,H1,I1,rx,q1⟩=>thn (hi pins s1 σ H1 _ I1 q1) fun iv s2 ⟨y,H2,I2,ry,a,v,ex,g,q2⟩=>?_)
 subst ex
 obtain rfl:u=Value.ref a:=rx
 exact⟨dict_typeIs I2 g,d_getItem hu I2 g ry fun w' s3 I3 rw'=>⟨v,H2,I3,rw',q2⟩⟩
end
theorem dk_empty {P:Program} {w:World} {H:Hp} (h:Heap) (hb:sysModules<h.objs.size):ObjOk P w H (h.push {cls:= .type "dict",data:= .dict #[]}) h.objs.size (.dK []):=
 ⟨Nat.zero_le _,beq_eq_false_iff_ne.mpr (Ne.symm (Nat.ne_of_lt hb)),[],.nil,Heap.DictOf.new h⟩
section
variable {X:Cx} {pos:Pos}
end
def tPairs:List (TE×TE)->St->Hp->(List (V×V)->Hp->Prop)->Prop
 | [],_,H,Q=>Q [] H
 |(tk,tv)::r,σ,H,Q=>tk σ H fun x H1=>tv σ H1 fun y H2=>tPairs r σ H2 fun ps H3=>Q ((x,y)::ps) H3
abbrev VV:List (V×V)->List (Value×Value)->Prop:=Paired fun p q=>RelV p.1 q.1/\RelV p.2 q.2
def PPs (X:Cx) (pos:Pos) (keys:List (Option Expr)) (values:List Expr) (trs:List (TE×TE)):Prop:=
 ∀(pins:List (Addr×Obj)) (s:Shared) (σ:St) (H:Hp) (Q:List (V×V)->Hp->Prop),Inv X pins σ H s->tPairs trs σ H Q->
  wpAny (model X.prog X.w) X.A (evalPairs (pairTrees keys values X.env pos)) (fun vs s'=>∃ps H',Inv X pins σ H' s'/\VV ps vs/\Q ps H') X.xe s
theorem pps_nil {X:Cx} {pos:Pos}:PPs X pos [] [] []:=fun pins s σ H Q I h=>pairTrees_nil_walk ⟨[],H,I,.nil,h⟩
theorem pps_cons {X:Cx} {pos:Pos} {k v:Expr} {ks:List (Option Expr)} {vs:List Expr} {tk tv:TE} {trs:List (TE×TE)} (hk:PE X k tk) (hv:PE X v tv) (hr:PPs X pos ks vs trs):
  PPs X pos (some k::ks) (v::vs) ((tk,tv)::trs):=fun pins s σ H Q I h=>
 pairTrees_cons_walk (thn (hk pins s σ H _ I h) fun u s1 ⟨x,H1,I1,rx,q1⟩=>thn (hv pins s1 σ H1 _ I1 q1) fun w2 s2 ⟨y,H2,I2,ry,q2⟩=>
  thn (hr pins s2 σ H2 _ I2 q2) fun ws s3 ⟨ps,H3,I3,rel,q3⟩=>⟨(x,y)::ps,H3,I3,.cons ⟨rx,ry⟩ rel,q3⟩)
def mergeK (kvs more:List (Key×V)):List (Key×V):=more.foldl (fun acc kv=>putK acc kv.1 kv.2) kvs
theorem KV.merge:∀{more:List (Key×V)} {rs:List (Key×Value)} {kvs:List (Key×V)} {vs:List (Key×Value)},KV more rs->KV kvs vs->KV (mergeK kvs more) (merged vs rs):=by
 intro more rs kvs vs r
 unfold KV at r
 induction r generalizing kvs vs with
 |nil=>intro q;exact q
 |@cons p q ps qs h t ih=>
  intro r0
  have e:KV (putK kvs p.1 p.2) (stored vs q.1 q.2):=by
   have:=r0.put p.1 h.2
   rw [<-h.1];exact this
  exact ih e
theorem length_mergeK:∀(more kvs:List (Key×V)),(mergeK kvs more).length<=kvs.length+more.length
 | [],kvs=>by show kvs.length<=kvs.length+0;omega
 |p::r,kvs=>by
  have h1:=length_mergeK r (putK kvs p.1 p.2)
  have h2:=length_putK kvs p.1 p.2
  show(mergeK (putK kvs p.1 p.2) r).length<=_
  rw [List.length_cons];omega
theorem carries_of {P:Program} {w:World}:∀{kvs:List (Key×V)} {ws:List (Value×Value)},VV (kvs.map fun kv=>(kV kv.1,kv.2)) ws->∃rs,Carries (mixKind P w) ws rs/\KV kvs rs
 | [],_,r=>by rw [List.map_nil]at r;cases r;exact⟨[],True.intro,.nil⟩
 |p::kvs,_,r=>by
  rw [List.map_cons]at r
  cases r with
  |@cons a b as bs h t=>
   obtain⟨rs,c,q⟩:=carries_of (P:=P) (w:=w) t
   obtain⟨b1,b2⟩:=b
   exact⟨(p.1,b2)::rs,⟨kV_is h.1,rfl,c⟩,.cons ⟨rfl,h.2⟩ q⟩
def tDisp (trs:List (TE×TE)):TE:=fun σ H Q=>∀p,H p=none->tPairs trs σ (upd H p (.dK [])) fun ps H2=>H2 p=some (.dK [])/\∃kvs:List (Key×V),ps=kvs.map (fun kv=>(kV kv.1,kv.2))/\kvs.length<=15/\Q (.ref p) (upd H2 p (.dK (mergeK [] kvs)))
theorem pe_disp {X:Cx} {pos:Pos} {keys:List (Option Expr)} {values:List Expr} {trs:List (TE×TE)} (h:PPs X pos keys values trs) (hall:keys.all (·.isSome)=true) (hl:keys.length=values.length) (h0:keys≠[])
  (h15:keys.length<=15):PE X (.Dict keys values pos) (tDisp trs):=by
 intro pins s σ H Q I q
 have hn:=I.hok.fresh (Nat.le_refl s.heap.objs.size)
 have I1:=I.laid (a:=s.heap.objs.size) (o:= .dK []) (h':=s.heap.push {cls:= .type "dict",data:= .dict #[]}) (t':=s.toks) (fun _ _ q=>Heap.get?_push_of_some _ q) (Nat.le_refl _) (dk_empty s.heap I.big)
 refine wpAny_Dict_walk (knd:=mixKind X.prog X.w) hall hl h0 h15 (thn (h pins _ σ _ _ I1 (q _ hn)) fun ws s2 ⟨ps,H2,I2,rel,e,kvs,ep,lk,q2⟩=>?_)
 subst ep
 obtain⟨rs,c,rk⟩:=carries_of (P:=X.prog) (w:=X.w) rel
 obtain⟨z,hd,vs0,r0,dd⟩:=dk_of I2.hok e
 cases r0
 refine⟨rs,c,dd,fun h' dd' hs=>⟨.ref s.heap.objs.size,_,?_,rfl,q2⟩⟩
 have hz:(mergeK [] kvs).length<=sizeLine:=by
  have h1:=length_mergeK kvs []
  rw [List.length_nil]at h1
  rw [sizeLine_eq];omega
 have he:∃q,h'.get? s.heap.objs.size=some q:=let⟨q,_,_,hq,_⟩:=dd';⟨q,hq⟩
 exact d_write I2 (by rw [e];exact True.intro) hs he (dk_new hz hd (rk.merge .nil) dd')
structure M1 (X:Cx) (o:Expr) (m:Str) (apos:Pos) (e:Expr) (cpos:Pos):Prop where
 base:attributeBase o m X.env (eval o X.env)=eval o X.env
 few:((backTo cpos (starEach [e] X.env)).all (fun x=> !x.1) && (backToKw cpos (keywordEach [] X.env)).all (fun x=>x.1.isSome)
  && decide (([e]:List Expr).length+([]:List Keyword).length+(if([]:List Keyword).isEmpty then 0 else 1)<30))=true
 line:(apos.endLine==cpos.line)=true
 trees:backTo cpos (starEach [e] X.env)=[(false,eval e X.env)]
def IsD (H:Hp) (a:Addr):Prop:=(∃kvs,Rd H a (.dK kvs))∨∃kvs,Rd H a (.dT kvs)
theorem isD_at {X:Cx} {pins:List (Addr×Obj)} {σ:St} {H:Hp} {s:Shared} {a:Addr} (I:Inv X pins σ H s) (d:IsD H a):
  s.TypeIs (.ref a) "dict"/\(∀b,Value.ref a= .ref b->∃ob,s.heap.get? b=some ob/\ob.dict=none)/\(a==sysModules)=false:=by
 rcases d with ⟨kvs,e⟩|⟨kvs,e⟩
 ·obtain⟨_,hd,vs,_,dd⟩:=dk_rd I.hok e
  refine⟨dd.typeIs,fun b q=>?_,hd⟩
  cases q
  obtain⟨ob,_,_,h1,h2,_⟩:=dd
  exact⟨ob,h1,h2.2.1⟩
 ·obtain⟨_,hd,xs,_,dd⟩:=dt_rd I.hok e
  refine⟨dd.typeIs,fun b q=>?_,hd⟩
  cases q
  obtain⟨ob,_,_,h1,h2,_⟩:=dd
  exact⟨ob,h1,h2.2.1⟩
section
variable {X:Cx} {pins:List (Addr×Obj)} {σ:St} {H:Hp} {s:Shared} {a:Addr} {y d:V} {u r:Value} {o:Option V} {A:Around} {E:Value->Shared->Prop}
end
section
variable {X:Cx} {o e f:Expr} {apos cpos:Pos} {td ty tx:TE}
end
section
variable {X:Cx} {pins:List (Addr×Obj)} {σ:St} {H:Hp} {s:Shared} {a:Addr} {kvs:List (Key×V)} {A:Around} {E:Value->Shared->Prop}
end
section
variable {X:Cx} {pins:List (Addr×Obj)} {σ:St} {H:Hp} {s:Shared} {a:Addr} {y:V} {u:Value} {A:Around} {E:Value->Shared->Prop}
end
end L2
namespace L2
open PySem PySem.Spec PyProof.Rows
section
variable {X:Cx}
end
section
variable {κ:Type} [DecidableEq κ]
end
end L2
namespace PySem
open AutoSeq1 (wpAny_loadPart')
open Sem (wp)
theorem noFill_tuple_mul:fillsNumberSlot (.type "tuple") "mul"=pure false:=
 fillsNumberSlot_seq (id:="tuple.__mul__") (r:=some (.builtin "tuple.__rmul__")) F.slot_tuple_mul.lookup (by decide+kernel) F.slot_tuple_rmul.lookup (by decide+kernel)
theorem repeat_tuple:seqRepeat? (.type "tuple")=pure (some (.builtin "tuple.__mul__")):=by
 unfold seqRepeat?
 rw [seqSlot_of (T:="tuple") (name:="__mul__") (id:="tuple.__mul__") F.slot_tuple_mul.lookup (by decide+kernel),seqSlot_of (T:="tuple") (name:="__rmul__") (id:="tuple.__rmul__") F.slot_tuple_rmul.lookup (by decide+kernel)]
 rfl
theorem int_rmul_tuple (a:Int) (t:Tok) (l:Addr) (items:Array Value) (n:Nat) (dd:Option Addr) (sl:Array (Option Value)):
  Meets (Builtin.«int.__rmul__» ⟨[.int a t,.ref l],[]⟩) (fun _ R s=>s.heap.get? l=some {cls:= .type "tuple",dict:=dd,data:= .seq items n,slots:=sl}/\R (.ok (.ret Value.notImplemented)) s):=
 .of_wp fun prog w A R s h=>by obtain⟨hp,g,d,tk,os⟩:=s;obtain⟨hl,h⟩:=h;wp_walk;exact⟨_,rfl,h⟩
theorem tuple_mul0 (l:Addr) (items:Array Value) (n:Nat) (dd:Option Addr) (sl:Array (Option Value)) (x:Int) (u:Tok) (hi:items.isEmpty=false) (h0: -(2 ^ 63)<=x) (h1:x<=0):
  Meets (Builtin.«tuple.__mul__» ⟨[.ref l,.int x u],[]⟩) (fun _ R s=>s.heap.get? l=some {cls:= .type "tuple",dict:=dd,data:= .seq items n,slots:=sl}/\R (.ok (.ret (Value.ref s.heap.objs.size))) {s with heap:=s.heap.push {cls:=Value.type "tuple",data:=Data.seq #[]},toks:=s.toks}):=
 .of_wp fun prog w A R s h=>by
  obtain⟨hp,g,d,tk,os⟩:=s;obtain⟨hl,h⟩:=h
  have f1:=AutoSeq1.idx_int
  have c1:¬(decide (x< -2 ^ 63) || decide (x≥2 ^ 63))=true:=by simp;omega
  have c2:¬(items.isEmpty || x==1)=true:=by rw [hi];simp;omega
  have c3:(decide (x<=0) || items.isEmpty)=true:=by simp [h1]
  wp_walk using wpAny_loadPart' hl
  refine wpAny_ite_split (fun hh=>absurd hh c1) (fun _=>?_)
  wp_walk using wpAny_loadPart' hl
  refine wpAny_ite_split (fun hh=>absurd hh c2) (fun _=>?_)
  wp_walk using wpAny_loadPart' hl
  exact⟨_,rfl,h⟩
theorem tuple_mul1 (l:Addr) (items:Array Value) (n:Nat) (dd:Option Addr) (sl:Array (Option Value)) (x:Int) (u:Tok) (hx:x=1):
  Meets (Builtin.«tuple.__mul__» ⟨[.ref l,.int x u],[]⟩) (fun _ R s=>s.heap.get? l=some {cls:= .type "tuple",dict:=dd,data:= .seq items n,slots:=sl}/\R (.ok (.ret (Value.ref l))) s):=
 .of_wp fun prog w A R s h=>by
  obtain⟨hp,g,d,tk,os⟩:=s;obtain⟨hl,h⟩:=h
  have f1:=AutoSeq1.idx_int
  have c1:¬(decide (x< -2 ^ 63) || decide (x≥2 ^ 63))=true:=by simp;omega
  have c2:(items.isEmpty || x==1)=true:=by simp [hx]
  wp_walk using wpAny_loadPart' hl
  exact⟨_,rfl,h⟩
theorem tuple_mul2 (l:Addr) (items:Array Value) (n:Nat) (dd:Option Addr) (sl:Array (Option Value)) (x:Int) (u:Tok) (hi:items.isEmpty=false) (h0:2<=x) (h1:x<1000) (h2:items.size<=1000):
  Meets (Builtin.«tuple.__mul__» ⟨[.ref l,.int x u],[]⟩) (fun _ R s=>s.heap.get? l=some {cls:= .type "tuple",dict:=dd,data:= .seq items n,slots:=sl}/\R (.ok (.ret (Value.ref s.heap.objs.size))) {s with heap:=s.heap.push {cls:=Value.type "tuple",data:=Data.seq (List.foldl (fun x1 x2=>x1++x2) #[] (List.replicate x.toNat items))},toks:=s.toks}):=
 .of_wp fun prog w A R s h=>by
  obtain⟨hp,g,d,tk,os⟩:=s;obtain⟨hl,h⟩:=h
  have f1:=AutoSeq1.idx_int
  have c1:¬(decide (x< -2 ^ 63) || decide (x≥2 ^ 63))=true:=by simp;omega
  have c2:¬(items.isEmpty || x==1)=true:=by rw [hi];simp;omega
  have c3:¬(decide (x<=0) || items.isEmpty)=true:=by rw [hi];simp;omega
  have hb:(items.size:Int)*x<=1000000:=by
   have:=Int.mul_le_mul (show(items.size:Int)<=1000 by omega) (show x<=1000 by omega) (by omega) (by omega)
   omega
  have c4:¬(items.size:Int)*x>(2 ^ 63-1) / 8:=by omega
  have c5:¬Builtin.Tuple.tupleTooMany (↑items.size*x)=true:=by
   unfold Builtin.Tuple.tupleTooMany
   rw [sizeLine_eq]
   simp
   omega
  have hsz:(List.foldl (fun x1 x2=>x1++x2) #[] (List.replicate x.toNat items)).size<=sizeLine:=by
   rw [AutoListH.size_joined,sizeLine_eq]
   have e:((x.toNat*items.size:Nat):Int)=(items.size:Int)*x:=by
    rw [Int.natCast_mul,Int.toNat_of_nonneg (by omega),Int.mul_comm]
   simp only [Array.size_empty,Nat.zero_add]
   omega
  wp_walk using wpAny_loadPart' hl
  refine wpAny_ite_split (fun hh=>absurd hh c1) (fun _=>?_)
  wp_walk using wpAny_loadPart' hl
  refine wpAny_ite_split (fun hh=>absurd hh c2) (fun _=>?_)
  wp_walk using wpAny_loadPart' hl
  refine wpAny_ite_split (fun hh=>absurd hh c3) (fun _=>?_)
  wp_walk using wpAny_loadPart' hl
  refine wpAny_ite_split (fun hh=>absurd hh c4) (fun _=>?_)
  wp_walk using wpAny_loadPart' hl
  all_goals first|exact⟨_,rfl,h⟩|(refine wpAny_ite_false (decide_eq_false (Nat.not_lt.mpr hsz)) ?_;wp_walk;exact⟨_,rfl,h⟩)
section
variable {prog:Program} {w:World} {A:Around} {E:Value->Shared->Prop} {s:Shared}
theorem nextOf_tuple_item {it t:Addr} {i:Nat} {items:Array Value} {x:Value} {Q:Value->Shared->Prop} (hit:s.heap.IsTupleIter it t i) (ht:s.heap.IsTuple t items) (hx:items[i]? =some x)
  (hQ:∀h',h'.IsTupleIter it t (i+1)->Heap.SameBut it s.heap h'->Q x {s with heap:=h'}):wpAny (model prog w) A (Builtin.SmallTypes.nextOf (.ref it)) Q E s:=by
 obtain⟨o,ho,hc,hd⟩:=id hit
 obtain⟨ol,hol,_,nl,hdl⟩:=ht
 unfold Builtin.SmallTypes.nextOf
 refine wpAny_bind (wpAny_callSpecial?_slot (name:=Str.ofString "__next__") hit.typeIs F.slot_tuple_iterator_next
  (wpAny_call_entry F.slot_tuple_iterator_next hit.typeIs F.entry_tuple_iterator_next ?_ (F.args_tuple_iterator_next_1 _)))
 show wpAny _ _ (field (.ref it) 0>>=_) _ _ s
 refine wpAny_bind (wpAny_field ho hd (x:= .ref t) rfl ?_)
 show wpAny _ _ (if(Value.ref t==Value.none)=true then _ else _) _ _ s
 rw [if_neg (show¬((Value.ref t==Value.none)=true)from Bool.false_ne_true)]
 show wpAny _ _ (field (.ref it) 1>>=_) _ _ s
 refine wpAny_bind (wpAny_field ho hd (x:= .int i 0) rfl ?_)
 show wpAny _ _ (seqItems? (.ref t)>>=_) _ _ s
 refine wpAny_bind (wpAny_seqItems hol hdl ?_)
 simp only [Int.toNat_natCast,hx]
 refine wpAny_bind (wpAny_setField ho hd (by simp) (wpAny_pure ⟨x,rfl,wpAny_pure (hQ _ ?_ (Heap.SameBut.update ..))⟩))
 exact⟨_,Heap.get?_update_self _ ho (Obj.isFreed_of_fields (Obj.data_mapFields hd _)),(Obj.cls_mapFields ..).trans hc,by
  rw [Obj.data_mapFields hd];simp [rawInt]⟩
theorem nextOf_tuple_end {it t:Addr} {i:Nat} {items:Array Value} {Q:Value->Shared->Prop} (hh:A.handled=none) (hit:s.heap.IsTupleIter it t i) (ht:s.heap.IsTuple t items) (hx:items[i]? =none)
  (hE:∀h' e,Heap.ExtBut it s.heap h'->(∃o,h'.get? e=some o/\o.cls= .type "StopIteration")->E (.ref e) {s with heap:=h'}):wpAny (model prog w) A (Builtin.SmallTypes.nextOf (.ref it)) Q E s:=by
 obtain⟨o,ho,hc,hd⟩:=id hit
 obtain⟨ol,hol,_,nl,hdl⟩:=ht
 unfold Builtin.SmallTypes.nextOf
 refine wpAny_bind (wpAny_callSpecial?_slot (name:=Str.ofString "__next__") hit.typeIs F.slot_tuple_iterator_next
  (wpAny_call_entry F.slot_tuple_iterator_next hit.typeIs F.entry_tuple_iterator_next ?_ (F.args_tuple_iterator_next_1 _)))
 show wpAny _ _ (field (.ref it) 0>>=_) _ _ s
 refine wpAny_bind (wpAny_field ho hd (x:= .ref t) rfl ?_)
 show wpAny _ _ (if(Value.ref t==Value.none)=true then _ else _) _ _ s
 rw [if_neg (show¬((Value.ref t==Value.none)=true)from Bool.false_ne_true)]
 show wpAny _ _ (field (.ref it) 1>>=_) _ _ s
 refine wpAny_bind (wpAny_field ho hd (x:= .int i 0) rfl ?_)
 show wpAny _ _ (seqItems? (.ref t)>>=_) _ _ s
 refine wpAny_bind (wpAny_seqItems hol hdl ?_)
 simp only [Int.toNat_natCast,hx]
 refine wpAny_bind (wpAny_rule (wpAny_bind (wpAny_setField ho hd (by simp) ?_)))
 show wpAny _ _ (newExc (.type "StopIteration") []>>=_) _ _ _
 refine wpAny_bind ?_
 simp only [newExc,newTuple]
 refine wpAny_bind (wpAny_newObj_type ?_ (by size_fits))
 refine wpAny_bind (m:=firstArgMember _ _) (wpAny_of_eq (a:=Value.none) (by first|rfl|(simp only [firstArgMember];rfl)) ?_)
 refine wpAny_newObj_type ?_ (by size_fits)
 simp only [raiseNew]
 refine wpAny_bind (wpAny_handled ?_)
 first|rw [show A.in1.handled=none from hh]|rw [hh]
 refine wpAny_bind (wpAny_pure (wpAny_throw ?_))
 exact hE _ _ (((Heap.SameBut.update ..).extBut.push _).push _) ⟨_,Heap.get?_push_size _ rfl,rfl⟩
end
section
variable {prog:Program} {w:World} {A:Around} {E:Value->Shared->Prop} {s:Shared}
structure ZpSt (h:Heap) (z TI TO i1 i2 t l:Addr) (k:Nat) (f0:Value):Prop where
 z:IsZip h z TI TO f0
 ti:IsPair h TI (.ref i1) (.ref i2)
 to:∃a b,IsPair h TO a b
 h1:h.IsTupleIter i1 t k
 h2:h.IsListIter i2 l k
theorem zipT_item {z TI TO i1 i2 t l:Addr} {k:Nat} {xs ys:Array Value} {x y:Value} {Q:Option Value->Shared->Prop} (D:ZipApart z TI TO i1 i2 t l) (S:ZpSt s.heap z TI TO i1 i2 t l k .none)
  (hl1:s.heap.IsTuple t xs) (hl2:s.heap.IsList l ys) (hx:xs[k]? =some x) (hy:ys[k]? =some y)
  (hQ:∀h',ZpSt h' z TI TO i1 i2 t l (k+1) (rawInt s.heap.objs.size)->IsPair h' s.heap.objs.size x y->h'.objs.size=s.heap.objs.size+1->
   (∀c o,c≠z->c≠TO->c≠i1->c≠i2->s.heap.get? c=some o->h'.get? c=some o)->Q (some (.ref s.heap.objs.size)) {s with heap:=h'}):
  wpAny (model prog w) A (pyNext (.ref z)) Q E s:=by
 obtain⟨hz,hTI,⟨a,b,hTO⟩,h1,h2⟩:=S
 have hT:s.TypeIs (.ref z) "zip":=⟨_,hz,rfl⟩
 unfold pyNext
 refine wpAny_bind (wpAny_attempt (wpAny_callSpecial?_slot (name:=Str.ofString "__next__") hT F.slot_zip_next (wpAny_call_entry F.slot_zip_next hT F.entry_zip_next ?_ (F.args_zip_next_1 _))))
 show wpAny _ _ (field (.ref z) 2>>=_) _ _ _
 refine wpAny_bind (wpAny_field hz rfl (x:= .bool false) rfl ?_)
 show wpAny _ _ (field (.ref z) 3>>=_) _ _ _
 refine wpAny_bind (wpAny_field hz rfl (x:= .ref TI) rfl ?_)
 refine wpAny_bind (wpAny_seqItems hTI rfl ?_)
 show wpAny _ _ (Builtin.SmallTypes.ownedTupleIsFree (.ref z)>>=_) _ _ _
 refine wpAny_bind ?_
 unfold Builtin.SmallTypes.ownedTupleIsFree
 refine wpAny_bind (wpAny_field hz rfl (x:= .none) rfl (wpAny_pure ?_))
 simp only [if_true]
 refine wpAny_bind (wpAny_rule ?_)
 refine wpAny_bind (wpAny_field hz rfl (x:= .ref TO) rfl ?_)
 refine wpAny_bind (wpAny_setField_rec hz (by simp) fun h₁ hz₁ hs₁=>?_)
 replace hz₁:IsZip h₁ z TI TO .ellipsis:=hz₁
 refine wpAny_bind ?_
 simp only [List.zipIdx_cons,List.zipIdx_nil,List.forIn_cons,List.forIn_nil]
 refine wpAny_bind (wpAny_bind (wpAny_onRaise ?_))
 show wpAny _ _ (Builtin.SmallTypes.nextOf (.ref i1)>>=_) _ _ _
 refine wpAny_bind (nextOf_tuple_item (h1.extBut hs₁.extBut D.i1z) (hl1.extBut hs₁.extBut D.l1z) hx fun h₂ h1₂ hs₂=>wpAny_pure ?_)
 have hTO₂:IsPair h₂ TO a b:=hs₂.extBut _ _ D.TOi1 (hs₁.extBut _ _ D.TOz hTO)
 refine wpAny_bind (wpAny_seqItems hTO₂ rfl ?_)
 refine wpAny_bind (wpAny_updateSeq_pair hTO₂ fun h₃ hTO₃ hs₃=>?_)
 replace hTO₃:IsPair h₃ TO x b:=hTO₃
 refine wpAny_bind (wpAny_letGo (wpAny_pure ?_))
 refine wpAny_bind (wpAny_bind (wpAny_onRaise ?_))
 show wpAny _ _ (Builtin.SmallTypes.nextOf (.ref i2)>>=_) _ _ _
 refine wpAny_bind (wpAny_nextOf_list_item (((h2.extBut hs₁.extBut D.i2z).extBut hs₂.extBut D.i12.symm).extBut hs₃.extBut D.TOi2.symm)
  (((hl2.extBut hs₁.extBut D.l2z).extBut hs₂.extBut D.l2i1).extBut hs₃.extBut D.l2TO) hy fun h₄ h2₄ hs₄=>wpAny_pure ?_)
 have hTO₄:IsPair h₄ TO x b:=hs₄.extBut _ _ D.TOi2 hTO₃
 refine wpAny_bind (wpAny_seqItems hTO₄ rfl ?_)
 refine wpAny_bind (wpAny_updateSeq_pair hTO₄ fun h₅ hTO₅ hs₅=>?_)
 replace hTO₅:IsPair h₅ TO x y:=hTO₅
 refine wpAny_bind (wpAny_letGo (wpAny_pure (wpAny_pure ?_)))
 refine wpAny_bind (wpAny_seqItems hTO₅ rfl ?_)
 refine wpAny_bind (wpAny_newTuple ?_)
 have hsz:h₅.objs.size=s.heap.objs.size:=by rw [hs₅.1,hs₄.1,hs₃.1,hs₂.1,hs₁.1]
 have hz₅:IsZip h₅ z TI TO .ellipsis:=hs₅.extBut _ _ D.TOz.symm (hs₄.extBut _ _ D.i2z.symm (hs₃.extBut _ _ D.TOz.symm (hs₂.extBut _ _ D.i1z.symm hz₁)))
 have hk₅:∀c o,c≠z->c≠TO->c≠i1->c≠i2->s.heap.get? c=some o->h₅.get? c=some o:=fun c o c1 c2 c3 c4 e=>
  hs₅.extBut _ _ c2 (hs₄.extBut _ _ c4 (hs₃.extBut _ _ c2 (hs₂.extBut _ _ c3 (hs₁.extBut _ _ c1 e))))
 have h1₅:h₅.IsTupleIter i1 t (k+1):=((h1₂.extBut hs₃.extBut D.TOi1.symm).extBut hs₄.extBut D.i12).extBut hs₅.extBut D.TOi1.symm
 have h2₅:h₅.IsListIter i2 l (k+1):=h2₄.extBut hs₅.extBut D.TOi2.symm
 have hzlt:z<h₅.objs.size:=Heap.lt_size hz₅
 show wpAny _ _ (Builtin.SmallTypes.ownedTupleHandOut (.ref z) (.ref h₅.objs.size)>>=_) _ _ _
 refine wpAny_bind ?_
 unfold Builtin.SmallTypes.ownedTupleHandOut
 have hz₆:IsZip (h₅.push {cls:= .type "tuple",data:= .seq #[x,y]}) z TI TO .ellipsis:=Heap.get?_push_of_some _ hz₅
 refine wpAny_bind (wpAny_setField_rec hz₆ (by simp) fun h₇ hz₇ hs₇=>?_)
 replace hz₇:IsZip h₇ z TI TO (rawInt h₅.objs.size):=hz₇
 refine wpAny_setField_rec hz₇ (by simp) fun h₈ hz₈ hs₈=>?_
 replace hz₈:IsZip h₈ z TI TO (rawInt h₅.objs.size):=hz₈
 have up:∀c o,c≠z->h₅.get? c=some o->h₈.get? c=some o:=fun c o c1 e=>hs₈.extBut _ _ c1 (hs₇.extBut _ _ c1 (Heap.get?_push_of_some _ e))
 have hT₈:IsPair h₈ h₅.objs.size x y:=hs₈.extBut _ _ (Nat.ne_of_gt hzlt) (hs₇.extBut _ _ (Nat.ne_of_gt hzlt) (Heap.get?_push_size _ rfl))
 have hz8:h₈.objs.size=h₅.objs.size+1:=by rw [hs₈.1,hs₇.1,Heap.size_push]
 rw [hsz]at hz₈ hT₈ hz8
 refine wpAny_pure ⟨_,rfl,wpAny_pure ?_⟩
 show Q (some (.ref h₅.objs.size)) _
 rw [hsz]
 exact hQ h₈ ⟨hz₈,up _ _ D.TIz (hk₅ _ _ D.TIz D.TITO D.TIi1 D.TIi2 hTI),⟨_,_,up _ _ D.TOz hTO₅⟩,h1₅.at fun o e=>up _ o D.i1z e,h2₅.at fun o e=>up _ o D.i2z e⟩ hT₈ hz8 fun c o c1 c2 c3 c4 e=>up c o c1 (hk₅ c o c1 c2 c3 c4 e)
theorem zipT_end {z TI TO i1 i2 t l:Addr} {k:Nat} {xs:Array Value} {Q:Option Value->Shared->Prop} (hh:A.handled=none) (D:ZipApart z TI TO i1 i2 t l) (S:ZpSt s.heap z TI TO i1 i2 t l k .none)
  (hl1:s.heap.IsTuple t xs) (hx:xs[k]? =none)
  (hQ:∀h',(∀c o,c≠z->c≠TO->c≠i1->c≠i2->s.heap.get? c=some o->h'.get? c=some o)->Q none {s with heap:=h'}):wpAny (model prog w) A (pyNext (.ref z)) Q E s:=by
 obtain⟨hz,hTI,⟨a,b,hTO⟩,h1,h2⟩:=S
 have hT:s.TypeIs (.ref z) "zip":=⟨_,hz,rfl⟩
 unfold pyNext
 refine wpAny_bind (wpAny_attempt (wpAny_callSpecial?_slot (name:=Str.ofString "__next__") hT F.slot_zip_next (wpAny_call_entry F.slot_zip_next hT F.entry_zip_next ?_ (F.args_zip_next_1 _))))
 show wpAny _ _ (field (.ref z) 2>>=_) _ _ _
 refine wpAny_bind (wpAny_field hz rfl (x:= .bool false) rfl ?_)
 show wpAny _ _ (field (.ref z) 3>>=_) _ _ _
 refine wpAny_bind (wpAny_field hz rfl (x:= .ref TI) rfl ?_)
 refine wpAny_bind (wpAny_seqItems hTI rfl ?_)
 show wpAny _ _ (Builtin.SmallTypes.ownedTupleIsFree (.ref z)>>=_) _ _ _
 refine wpAny_bind ?_
 unfold Builtin.SmallTypes.ownedTupleIsFree
 refine wpAny_bind (wpAny_field hz rfl (x:= .none) rfl (wpAny_pure ?_))
 simp only [if_true]
 refine wpAny_bind (wpAny_rule ?_)
 refine wpAny_bind (wpAny_field hz rfl (x:= .ref TO) rfl ?_)
 refine wpAny_bind (wpAny_setField_rec hz (by simp) fun h₁ hz₁ hs₁=>?_)
 replace hz₁:IsZip h₁ z TI TO .ellipsis:=hz₁
 refine wpAny_bind ?_
 simp only [List.zipIdx_cons,List.zipIdx_nil,List.forIn_cons,List.forIn_nil]
 refine wpAny_bind (wpAny_bind (wpAny_onRaise ?_))
 show wpAny _ _ (Builtin.SmallTypes.nextOf (.ref i1)>>=_) _ _ _
 refine wpAny_bind (nextOf_tuple_end hh (h1.extBut hs₁.extBut D.i1z) (hl1.extBut hs₁.extBut D.l1z) hx fun h₂ e hs₂ he=>?_)
 obtain⟨oe,hoe,hce⟩:=he
 have hz₂:IsZip h₂ z TI TO .ellipsis:=hs₂ _ _ D.i1z.symm hz₁
 have hez:e≠z:=fun x=>by subst x;rw [hz₂]at hoe;cases hoe;simp at hce
 refine wpAny_setField_rec hz₂ (by simp) fun h₃ _ hs₃=>?_
 refine wpAny_bind (wpAny_isInstance (T:="StopIteration") (b:=true) ⟨oe,hs₃.extBut _ _ hez hoe,hce⟩ isSubtype_stop ?_)
 exact wpAny_pure (hQ _ fun c o c1 _ c3 _ x=>hs₃.extBut _ _ c1 (hs₂ _ _ c3 (hs₁.extBut _ _ c1 x)))
end
abbrev zT1 (h:Heap) (t:Addr):Heap:=h.push {cls:= .type "tuple_iterator",data:= .fields #[.ref t,.int 0 0]}
abbrev zT2 (h:Heap) (t l:Addr):Heap:=(zT1 h t).push {cls:= .type "list_iterator",data:= .fields #[.ref l,.int 0 0]}
abbrev zT3 (h:Heap) (t l:Addr):Heap:=(zT2 h t l).push {cls:= .type "tuple",data:= .seq #[.ref h.objs.size,.ref (zT1 h t).objs.size]}
abbrev zT4 (h:Heap) (t l:Addr):Heap:=(zT3 h t l).push {cls:= .type "tuple",data:= .seq #[.none,.none]}
abbrev zT5 (h:Heap) (t l:Addr):Heap:=(zT4 h t l).push {cls:= .type "zip",data:= .fields #[.none,.bool false,.bool false,.ref (zT2 h t l).objs.size,.ref (zT3 h t l).objs.size]}
theorem meets_zip_newT (t l:Addr) (xs ys:Array Value):
  Meets (Builtin.«zip.__new__» ⟨[.type "zip",.ref t,.ref l],[]⟩) (fun _ R s=>s.heap.IsTuple t xs/\s.heap.IsList l ys/\
   R (.ok (.ret (.ref (zT4 s.heap t l).objs.size))) {s with heap:=zT5 s.heap t l}):=
 .of_wp fun prog w A R s h=>by
  obtain⟨hp,g,d,tk,os⟩:=s;obtain⟨hl1,hl2,h⟩:=h
  have hsub:=sub_zip
  have hL1:Heap.IsTuple (Shared.heap ⟨hp,g,d,tk,os⟩) t xs:=hl1
  have hL2:Heap.IsList (Shared.heap ⟨hp.push {cls:= .type "tuple_iterator",data:= .fields #[.ref t,.int 0 0]},g,d,tk,os⟩) l ys:=Heap.IsList.push hl2 _
  wp_walk using wpAny_pyIter_tuple hL1,wpAny_pyIter_list hL2
  exact⟨_,rfl,h⟩
theorem call_zipT {prog:Program} {w:World} {A:Around} {E:Value->Shared->Prop} {s:Shared} {t l:Addr} {xs ys:Array Value} {Q:Value->Shared->Prop} (hl1:s.heap.IsTuple t xs) (hl2:s.heap.IsList l ys)
  (h:∀h',ZpSt h' (s.heap.objs.size+4) (s.heap.objs.size+2) (s.heap.objs.size+3) s.heap.objs.size (s.heap.objs.size+1) t l 0 .none->(∀c o,s.heap.get? c=some o->h'.get? c=some o)->Q (.ref (s.heap.objs.size+4)) {s with heap:=h'}):
  wpAny (model prog w) A (call (.type "zip") [.ref t,.ref l]) Q E s:=by
 refine callType_new F.called_zip (by decide) (F.typeCall_zip_2 _ _) (F.newCall_zip_2 _ _) (fun obj=>F.args_object_init_3 obj _ _) F.entry_zip_new (meets_zip_newT t l xs ys) ⟨hl1,hl2,?_⟩
 have z1:(zT1 s.heap t).objs.size=s.heap.objs.size+1:=Heap.size_push ..
 have z2:(zT2 s.heap t l).objs.size=s.heap.objs.size+2:=by rw [Heap.size_push,z1]
 have z3:(zT3 s.heap t l).objs.size=s.heap.objs.size+3:=by rw [Heap.size_push,z2]
 have z4:(zT4 s.heap t l).objs.size=s.heap.objs.size+4:=by rw [Heap.size_push,z3]
 have g5:(zT5 s.heap t l).get? (zT4 s.heap t l).objs.size=some _:=Heap.get?_push_size _ rfl
 have g4:(zT5 s.heap t l).get? (zT3 s.heap t l).objs.size=some _:=Heap.get?_push_of_some _ (Heap.get?_push_size _ rfl)
 have g3:(zT5 s.heap t l).get? (zT2 s.heap t l).objs.size=some _:=Heap.get?_push_of_some _ (Heap.get?_push_of_some _ (Heap.get?_push_size _ rfl))
 have g2:(zT5 s.heap t l).get? (zT1 s.heap t).objs.size=some _:=Heap.get?_push_of_some _ (Heap.get?_push_of_some _ (Heap.get?_push_of_some _ (Heap.get?_push_size _ rfl)))
 have g1:(zT5 s.heap t l).get? s.heap.objs.size=some _:=Heap.get?_push_of_some _ (Heap.get?_push_of_some _ (Heap.get?_push_of_some _ (Heap.get?_push_of_some _ (Heap.get?_push_size _ rfl))))
 show _/\_
 rw [z2,z3,z4]at g5
 rw [z1,z2]at g3
 rw [z3]at g4
 rw [z1]at g2
 rw [z4]
 exact⟨⟨_,g5,rfl⟩,h _ ⟨g5,g3,⟨_,_,g4⟩,⟨_,g1,rfl,rfl⟩,⟨_,g2,rfl,rfl⟩⟩ fun c o x=>
  Heap.get?_push_of_some _ (Heap.get?_push_of_some _ (Heap.get?_push_of_some _ (Heap.get?_push_of_some _ (Heap.get?_push_of_some _ x))))⟩
end PySem
namespace PySem
open Sem (wp)
section
variable {prog:Program} {w:World} {K:Type} [DecidableEq K] (knd:KeyKind prog w K)
def IsPairKey (h:Heap) (x:K×List K) (a:Addr):Prop:=∃o v b n,h.get? a=some o/\o.cls= .type "tuple"/\o.data= .seq #[v,.ref b] n/\knd.is x.1 v=true/\IsTupleKey knd h x.2 b
def pairKeyHash (x:K×List K):Int:=reduceHash (Builtin.Tuple.tupleHashOf [knd.hash x.1,tupleKeyHash knd x.2])
variable {knd}
theorem IsPairKey.typeIs {s:Shared} {x:K×List K} {a:Addr} (h:IsPairKey knd s.heap x a):s.TypeIs (.ref a) "tuple":=let⟨o,_,_,_,ho,hc,_⟩:=h;⟨o,ho,hc⟩
theorem IsPairKey.inj {h:Heap} {a:Addr} {x y:K×List K} (hx:IsPairKey knd h x a) (hy:IsPairKey knd h y a):x=y:=by
 obtain⟨o,v,b,n,ho,_,hd,h1,h2⟩:=hx
 obtain⟨o',v',b',n',ho',_,hd',h1',h2'⟩:=hy
 obtain rfl:o=o':=Option.some.inj (ho.symm.trans ho')
 rw [hd]at hd'
 injection hd' with e _
 have e1:v=v'/\b=b':=by simpa using e
 obtain⟨rfl,rfl⟩:=e1
 exact Prod.ext (knd.inj _ _ _ h1 h1') (h2.inj h2')
theorem IsPairKey.keeps {h h':Heap} {x:K×List K} {a d:Addr} {o:Obj} {es ep} (hx:IsPairKey knd h x a) (ho:h.get? d=some o) (hd:o.data= .dict es ep) (hs:Heap.SameBut d h h'):IsPairKey knd h' x a:=by
 obtain⟨o',v,b,n,ho',hc,hd',h1,h2⟩:=hx
 have hne:a≠d:=by
  rintro rfl
  obtain rfl:o'=o:=Option.some.inj (ho'.symm.trans ho)
  rw [hd]at hd';exact nomatch hd'
 exact⟨o',v,b,n,(hs.2 a hne).trans ho',hc,hd',h1,h2.keeps ho hd hs⟩
variable {A:Around} {E:Value->Shared->Prop} {s:Shared}
theorem wpAny_pyHash_pair {x:K×List K} {a:Addr} {Q:Int->Shared->Prop} (hu:A.units+1<cLine) (hk:IsPairKey knd s.heap x a) (h:Q (pairKeyHash knd x) {s with toks:=s.toks+(x.2.length+3)}):
  wpAny (model prog w) A (pyHash (.ref a)) Q E s:=by
 have hT:=hk.typeIs
 obtain⟨o,v,b,n,ho,_,hd,h1,h2⟩:=hk
 unfold pyHash
 first|unfold pyHashByItsType|skip
 first|refine wpAny_bind (wpAny_cRoomFor_or (.inr (by omega)) ?_)|skip
 refine wpAny_bind (wpAny_specialOf hT F.slot_tuple_hash.lookup ?_)
 show wpAny _ _ (if(some (Value.builtin "tuple.__hash__")==some Value.none)=true then _ else _) Q E s
 rw [if_neg (by rw [beq_builtin_none];exact Bool.false_ne_true)]
 refine wpAny_bind (wpAny_specialOf hT F.slot_tuple_hash.lookup ?_)
 show wpAny _ _ (callSpecialIfBoundUnlessNone? (.ref a) "__hash__" _>>=_) Q E s
 refine wpAny_bind (wpAny_callSpecialIfBoundUnlessNone?_slot hT F.slot_tuple_hash (wpAny_call_entry F.slot_tuple_hash hT F.entry_tuple_hash ?_ (F.args_tuple_hash_1 _)))
 show wpAny _ _ (Builtin.Tuple.tupleItemsOf (.ref a)>>=_) _ _ s
 refine wpAny_bind (wpAny_tupleItemsOf ho hd ?_)
 refine wpAny_bind ?_
 rw [<-Array.forIn_toList]
 refine wpAny_forIn_list _
  (fun rest (r:Array Int) s'=>(rest=[v,.ref b]/\r= #[]/\s'=s)∨(rest=[.ref b]/\r= #[knd.hash x.1]/\s'={s with toks:=s.toks+1})∨(rest=[]/\r= #[knd.hash x.1,tupleKeyHash knd x.2]/\s'={s with toks:=s.toks+1+(x.2.length+1)}))
  _ ?_ ?_ _ _ (.inl ⟨rfl,rfl,rfl⟩)
 ·rintro y rest r s' (⟨e,rfl,rfl⟩|⟨e,rfl,rfl⟩|⟨e,_,_⟩)
  ·obtain⟨rfl,rfl⟩:=List.cons.inj e
   refine wpAny_bind (knd.pyHash h1 ?_)
   exact wpAny_pure (.inr (.inl ⟨rfl,rfl,rfl⟩))
  ·obtain⟨rfl,rfl⟩:=List.cons.inj e
   refine wpAny_bind (wpAny_pyHash_tuple (show A.in1.units<cLine from hu) h2 ?_)
   exact wpAny_pure (.inr (.inr ⟨rfl,rfl,rfl⟩))
  ·cases e
 ·rintro r s' (⟨e,_,_⟩|⟨e,_,_⟩|⟨_,rfl,rfl⟩)
  ·cases e
  ·cases e
  ·show wpAny _ _ (retInt (Builtin.Tuple.tupleHashOf [knd.hash x.1,tupleKeyHash knd x.2])) _ _ _
   refine wpAny_ret_mkInt ?_
   show wpAny _ _ (if(decide (-(2:Int) ^ 63<=Builtin.Tuple.tupleHashOf [knd.hash x.1,tupleKeyHash knd x.2]) && decide (Builtin.Tuple.tupleHashOf [knd.hash x.1,tupleKeyHash knd x.2]<2 ^ 63))=true then _ else _) Q E _
   have et:s.toks+1+(x.2.length+1)+1=s.toks+(x.2.length+3):=by omega
   unfold pairKeyHash reduceHash at h
   by_cases hr:(decide (-(2:Int) ^ 63<=Builtin.Tuple.tupleHashOf [knd.hash x.1,tupleKeyHash knd x.2]) && decide (Builtin.Tuple.tupleHashOf [knd.hash x.1,tupleKeyHash knd x.2]<2 ^ 63))=true
   ·rw [if_pos hr]
    rw [if_pos hr, <-et]at h
    exact wpAny_pure h
   ·rw [if_neg hr]
    rw [if_neg hr, <-et]at h
    exact wpAny_bind (wpAny_rule (wpAny_pure h))
theorem pair_eq_tree {x y:K×List K} {a b:Addr} {P:Fin->Shared->Prop} (hu:A.units<cLine) (hx:IsPairKey knd s.heap x a) (hy:IsPairKey knd s.heap y b) (h:P (.done (.ret (.bool (decide (x=y))))) s):
  wpAny (model prog w) A (Builtin.«tuple.__eq__» ⟨[.ref a,.ref b],[]⟩) P E s:=by
 have hTb:=hy.typeIs
 obtain⟨oa,va,ba,na,hoa,_,hda,h1,h2⟩:=hx
 obtain⟨ob,vb,bb,nb,hob,_,hdb,h1',h2'⟩:=hy
 show wpAny _ _ (isInstance (.ref b) (.type "tuple")>>=_) _ _ s
 refine wpAny_bind (wpAny_isInstance hTb isSubtype_tuple_tuple ?_)
 simp only [Bool.not_true,Bool.false_eq_true,if_false]
 refine wpAny_bind (wpAny_tupleItemsOf hoa hda ?_)
 refine wpAny_bind (wpAny_tupleItemsOf hob hdb ?_)
 refine wpAny_bind ?_
 refine wpAny_forIn_list _
  (fun rest r s'=>r.1=none/\s'=s/\((rest=[(va,vb),(.ref ba,.ref bb)])∨(rest=[(.ref ba,.ref bb)]/\x.1=y.1)∨(rest=[]/\x=y)))
  _ ?_ ?_ _ _ ⟨rfl,rfl,.inl rfl⟩
 ·rintro⟨u,v⟩ rest r s' ⟨hr,rfl,(e|⟨e,e1⟩|⟨e,_⟩)⟩
  ·obtain⟨e2,rfl⟩:=List.cons.inj e
   cases e2
   refine wpAny_bind (knd.eqBool (a:=x.1) (b:=y.1) h1 h1' ?_)
   by_cases hk:x.1=y.1
   ·rw [decide_eq_true hk]
    simp only [Bool.not_true,Bool.false_eq_true,if_false]
    exact wpAny_pure ⟨by first|rfl|trivial,by first|rfl|trivial,by first|exact .inr (.inl ⟨rfl,hk⟩)|simp [hk]⟩
   ·rw [decide_eq_false hk]
    simp only [Bool.not_false,if_true]
    have hf:decide (x=y)=false:=decide_eq_false fun z=>hk (by rw [z])
    rw [hf]at h
    exact wpAny_bind (wpAny_pure (wpAny_pure (wpAny_pure h)))
  ·obtain⟨e2,rfl⟩:=List.cons.inj e
   cases e2
   refine wpAny_bind (wpAny_eqBool_tuple hu h2 h2' ?_)
   by_cases hk:x.2=y.2
   ·rw [decide_eq_true hk]
    simp only [Bool.not_true,Bool.false_eq_true,if_false]
    exact wpAny_pure ⟨by first|rfl|trivial,by first|rfl|trivial,by first|exact .inr (.inr ⟨rfl,Prod.ext e1 hk⟩)|simp [e1,hk,Prod.ext_iff]⟩
   ·rw [decide_eq_false hk]
    simp only [Bool.not_false,if_true]
    have hf:decide (x=y)=false:=decide_eq_false fun z=>hk (by rw [z])
    rw [hf]at h
    exact wpAny_bind (wpAny_pure (wpAny_pure (wpAny_pure h)))
  ·cases e
 ·rintro⟨r1,r2⟩ s' ⟨hr,rfl,(e|⟨e,_⟩|⟨_,e⟩)⟩
  ·cases e
  ·cases e
  ·simp only at hr
   subst hr
   refine wpAny_pure ?_
   rw [decide_eq_true e]at h
   exact h
theorem wpAny_eqBool_pair {x y:K×List K} {a b:Addr} {Q:Bool->Shared->Prop} (hu:A.units+1<cLine) (hx:IsPairKey knd s.heap x a) (hy:IsPairKey knd s.heap y b) (h:Q (decide (x=y)) s):
  wpAny (model prog w) A (eqBool (.ref a) (.ref b)) Q E s:=by
 unfold eqBool
 try with_reducible refine wpAny_holding ?_
 show wpAny _ _ (if(Value.ref a==Value.ref b)=true then _ else _) Q E s
 by_cases hab:(Value.ref a==Value.ref b)=true
 ·rw [if_pos hab]
  have e:a=b:=by have:=eq_of_beq hab;injection this
  subst e
  obtain rfl:=hx.inj hy
  exact wpAny_bind (wpAny_rule (wpAny_pure (by simpa using h)))
 ·rw [if_neg hab]
  exact wpAny_bind (wpAny_richCompare_same_room (op:= .Eq) hx.typeIs hy.typeIs F.slot_tuple_eq
   (wpAny_call_entry F.slot_tuple_eq hx.typeIs F.entry_tuple_eq (pair_eq_tree (by show A.units+1<cLine;exact hu) hx hy ⟨_,rfl,(fun e=>nomatch e),wpAny_truthy_bool h⟩) (F.args_tuple_eq_2 _ _)) (by omega))
theorem wpAny_eqIsQuiet_tupleN {n:Nat} {ks:List K} {a:Addr} {Q:Bool->Shared->Prop} (hk:IsTupleKey knd s.heap ks a) (h:Q true s):wpAny (model prog w) A (eqIsQuiet (n+1) (.ref a)) Q E s:=by
 have hT:=hk.typeIs
 obtain⟨o,items,m,ho,_,hd,hi⟩:=hk
 unfold eqIsQuiet
 refine wpAny_bind (wpAny_specialOf hT F.slot_tuple_eq.lookup ?_)
 show wpAny _ _ (isInstance (.ref a) (.type "tuple")>>=_) _ _ s
 refine wpAny_bind (wpAny_isInstance hT isSubtype_tuple_tuple ?_)
 simp only [Bool.not_true,Bool.false_eq_true,if_false]
 refine wpAny_bind (wpAny_seqItems ho hd ?_)
 refine wpAny_bind ?_
 show wpAny _ _ (forIn items _ _) _ _ s
 rw [<-Array.forIn_toList]
 refine wpAny_forIn_list _ (fun rest r s'=>r.1=none/\s'=s/\∀v∈rest,carriedByValue v=true) _ ?_ ?_ _ _ ⟨rfl,rfl,hi.byValue⟩
 ·rintro v rest r s' ⟨hr,rfl,hall⟩
  rw [eqIsQuiet_byValue _ (hall v List.mem_cons_self)]
  refine wpAny_bind (wpAny_pure ?_)
  simp only [Bool.not_true,Bool.false_eq_true,if_false]
  exact wpAny_pure ⟨rfl,rfl,fun u hu'=>hall u (List.mem_cons_of_mem _ hu')⟩
 ·rintro⟨r1,r2⟩ s' ⟨hr,rfl,_⟩
  simp only at hr
  subst hr
  exact wpAny_pure h
theorem wpAny_eqIsQuiet_pair {x:K×List K} {a:Addr} {Q:Bool->Shared->Prop} (hk:IsPairKey knd s.heap x a) (h:Q true s):wpAny (model prog w) A (eqIsQuiet 8 (.ref a)) Q E s:=by
 have hT:=hk.typeIs
 obtain⟨o,v,b,m,ho,_,hd,h1,h2⟩:=hk
 unfold eqIsQuiet
 refine wpAny_bind (wpAny_specialOf hT F.slot_tuple_eq.lookup ?_)
 show wpAny _ _ (isInstance (.ref a) (.type "tuple")>>=_) _ _ s
 refine wpAny_bind (wpAny_isInstance hT isSubtype_tuple_tuple ?_)
 simp only [Bool.not_true,Bool.false_eq_true,if_false]
 refine wpAny_bind (wpAny_seqItems ho hd ?_)
 refine wpAny_bind ?_
 show wpAny _ _ (forIn _ _ _) _ _ s
 rw [<-Array.forIn_toList]
 refine wpAny_forIn_list _ (fun rest r s'=>r.1=none/\s'=s/\∀u∈rest,u=v∨u= .ref b) _ ?_ ?_ _ _ ⟨rfl,rfl,fun u hu=>by simpa using hu⟩
 ·rintro u rest r s' ⟨hr,rfl,hall⟩
  rcases hall u List.mem_cons_self with rfl|rfl
  ·rw [eqIsQuiet_byValue _ (knd.byValue _ _ h1)]
   refine wpAny_bind (wpAny_pure ?_)
   simp only [Bool.not_true,Bool.false_eq_true,if_false]
   exact wpAny_pure ⟨rfl,rfl,fun u hu'=>hall u (List.mem_cons_of_mem _ hu')⟩
  ·refine wpAny_bind (wpAny_eqIsQuiet_tupleN h2 ?_)
   simp only [Bool.not_true,Bool.false_eq_true,if_false]
   exact wpAny_pure ⟨rfl,rfl,fun u hu'=>hall u (List.mem_cons_of_mem _ hu')⟩
 ·rintro⟨r1,r2⟩ s' ⟨hr,rfl,_⟩
  simp only at hr
  subst hr
  exact wpAny_pure h
end
def pairKind {prog:Program} {w:World} {K:Type} [DecidableEq K] (knd:KeyKind prog w K):HeapKind prog w (K×List K) where
 is:=IsPairKey knd
 hash:=pairKeyHash knd
 draws:=fun x=>x.2.length+3
 room:=fun A=>A.units+1<cLine
 inj:=fun hx hy=>hx.inj hy
 keeps:=fun x ho hd hs=>x.keeps ho hd hs
 pyHash:=fun hu hk h=>wpAny_pyHash_pair hu hk h
 eqBool:=fun hu hx hy h=>wpAny_eqBool_pair hu hx hy h
 quiet:=fun hk h=>wpAny_eqIsQuiet_pair hk h
end PySem
namespace PySem
namespace SetTable
def leaps (mask:Nat):Nat->Nat×Nat->Nat×Nat
 |0,p=>p
 |m+1,p=>leaps mask m (leap mask p.1 p.2)
theorem leaps_perturb (mask:Nat):∀m p,(leaps mask m p).2=p.2 / 32 ^ m
 |0,p=>by rw [leaps,Nat.pow_zero,Nat.div_one]
 |m+1,p=>by
  rw [leaps,leaps_perturb mask m]
  show p.2 / 32 / 32 ^ m=_
  rw [Nat.div_div_eq_div_mul,Nat.pow_succ,Nat.mul_comm]
theorem leaps_add (mask:Nat):∀m k p,leaps mask (m+k) p=leaps mask k (leaps mask m p)
 |0,k,p=>by rw [Nat.zero_add,leaps]
 |m+1,k,p=>by rw [Nat.succ_add,leaps,leaps_add mask m k,leaps]
def five (mask i:Nat):Nat:=(i*5+1) % (mask+1)
def fives (mask:Nat):Nat->Nat->Nat
 |0,i=>i
 |m+1,i=>fives mask m (five mask i)
theorem leaps_five (mask:Nat):∀m i,(leaps mask m (i,0))=(fives mask m i,0)
 |0,i=>rfl
 |m+1,i=>by
  rw [leaps,fives]
  show leaps mask m ((i*5+1+0 / 32) % (mask+1),0 / 32)=_
  rw [Nat.zero_div,Nat.add_zero]
  exact leaps_five mask m (five mask i)
theorem leaps_lt (mask:Nat):∀m p,(leaps mask (m+1) p).1<=mask
 |0,p=>by
  show(p.1*5+1+p.2 / 32) % (mask+1)<=mask
  have:=Nat.mod_lt (p.1*5+1+p.2 / 32) (show 0<mask+1 by omega)
  omega
 |m+1,p=>by rw [leaps];exact leaps_lt mask m _
def Round (mask:Nat):Prop:=∀i,i<=mask->∀e,e<=mask->∃k,k<=mask/\fives mask (k+1) i=e
theorem round_of {mask:Nat} (h:∀i:_root_.Fin (mask+1),∀e:_root_.Fin (mask+1),∃k:_root_.Fin (mask+1),fives mask (k.1+1) i.1=e.1):Round mask:=fun i hi e he=>by
 obtain⟨k,hk⟩:=h ⟨i,by omega⟩ ⟨e,by omega⟩
 exact⟨k.1,by omega,hk⟩
theorem round7:Round 7:=round_of (by decide+kernel)
theorem round31:Round 31:=round_of (by decide+kernel)
theorem leaps_meet {mask:Nat} (R:Round mask) {e:Nat} (he:e<=mask) (i perturb:Nat) (hp:perturb<2 ^ 64):∃L,1<=L/\L<=mask+14/\(leaps mask L (i,perturb)).1=e:=by
 have h13:(leaps mask 13 (i,perturb)).2=0:=by
  rw [leaps_perturb]
  exact Nat.div_eq_of_lt (Nat.lt_of_lt_of_le hp (by decide))
 have hi:=leaps_lt mask 12 (i,perturb)
 obtain⟨k,hk,e1⟩:=R _ hi e he
 refine⟨13+(k+1),by omega,by omega,?_⟩
 rw [leaps_add]
 have e2:leaps mask 13 (i,perturb)=((leaps mask 13 (i,perturb)).1,0):=Prod.ext rfl h13
 rw [e2,leaps_five]
 exact e1
variable {t:SetTable} {hashAt:Nat->Int} {h:Int}
theorem run_le (mask i:Nat):runEnd mask i-i<=9:=by unfold runEnd;split<;>omega
theorem go_some {e:Nat} (hd:∀j,t.slot j≠ .dummy) (he:t.slot e= .empty):∀(fuel:Nat) (p:Probe) (L:Nat),1<=L->(leaps t.mask L (p.i,p.perturb)).1=e->p.more+2+10*(L-1)<=fuel->∃m,probe.go t hashAt h fuel p=some m:=by
 intro fuel
 induction fuel with
 |zero=>intro p L h1 _ h3;omega
 |succ fuel ih=>
  intro p L h1 h2 h3
  have step:∃m,probe.go t hashAt h fuel (t.advance p)=some m:=by
   unfold advance
   by_cases hm:p.more>0
   ·rw [if_pos hm]
    exact ih _ L h1 h2 (by show p.more-1+2+10*(L-1)<=fuel;omega)
   ·rw [if_neg hm]
    match L,h1 with
    |1,_=>
     have h4:(leap t.mask p.i p.perturb).1=e:=h2
     cases fuel with
     |zero=>omega
     |succ f=>
      show∃m,(match t.slot (leap t.mask p.i p.perturb).1 with| .empty=>_| .dummy=>_| .live i=>_)=some m
      rw [h4,he]
      exact⟨_,rfl⟩
    |L+2,_=>
     have hr:=run_le t.mask (leap t.mask p.i p.perturb).1
     exact ih _ (L+1) (by omega) h2 (by show runEnd t.mask (leap t.mask p.i p.perturb).1-(leap t.mask p.i p.perturb).1+2+10*(L+1-1)<=fuel;omega)
  show∃m,(match t.slot p.j with| .empty=>some (.empty p.j p.dummy)| .dummy=>probe.go t hashAt h fuel (t.advance {p with dummy:=some p.j})| .live i=>if(hashAt i==h)=true then some (.candidate p.j i (t.advance p))else probe.go t hashAt h fuel (t.advance p))=some m
  cases hs:t.slot p.j with
  |empty=>exact⟨_,rfl⟩
  |dummy=>exact absurd hs (hd _)
  |live i=>
   by_cases hh:(hashAt i==h)=true
   ·exact⟨_,if_pos hh⟩
   ·obtain⟨m,hm⟩:=step
    exact⟨m,by simp only;rw [if_neg hh];exact hm⟩
theorem probe_some {e:Nat} (R:Round t.mask) (he:e<=t.mask) (hd:∀j,t.slot j≠ .dummy) (hs:t.slot e= .empty) (p:Probe) (hp:p.perturb<2 ^ 64) (hm:p.more<=9):∃m,t.probe hashAt h p=some m:=by
 obtain⟨L,h1,h2,h3⟩:=leaps_meet R he p.i p.perturb hp
 refine go_some hd hs _ p L h1 h3 ?_
 unfold turns
 omega
def Rise (xs:Array Nat):Prop:=∀i k,i<k->k<xs.size->xs.getD i 0<xs.getD k 0
theorem getD_any {xs:Array Nat} {i a b:Nat} (h:i<xs.size):xs.getD i a=xs.getD i b:=by simp [Array.getD,h]
theorem below_go {xs:Array Nat} {j:Nat} (R:Rise xs):∀(fuel lo hi:Nat),lo<=hi->hi<=xs.size->hi-lo<=fuel->(∀i,i<lo->xs.getD i 0<j)->(∀i,hi<=i->i<xs.size->j<=xs.getD i 0)->
  below.go xs j fuel lo hi<=xs.size/\(∀i,i<below.go xs j fuel lo hi->xs.getD i 0<j)/\∀i,below.go xs j fuel lo hi<=i->i<xs.size->j<=xs.getD i 0:=by
 intro fuel
 induction fuel with
 |zero=>
  intro lo hi h1 h2 h3 a b
  have:lo=hi:=by omega
  subst this
  exact⟨h2,a,b⟩
 |succ fuel ih=>
  intro lo hi h1 h2 h3 a b
  have key:below.go xs j (fuel+1) lo hi=if lo<hi then(if xs.getD ((lo+hi) / 2) j<j then below.go xs j fuel ((lo+hi) / 2+1) hi else below.go xs j fuel lo ((lo+hi) / 2))else lo:=rfl
  rw [key]
  by_cases hl:lo<hi
  ·have hm:(lo+hi) / 2<xs.size:=by omega
   rw [if_pos hl]
   by_cases hx:xs.getD ((lo+hi) / 2) j<j
   ·rw [if_pos hx]
    refine ih _ _ (by omega) h2 (by omega) (fun i hi'=>?_) b
    by_cases e:i=(lo+hi) / 2
    ·subst e;rw [getD_any hm (b:=j)];exact hx
    ·have:=R i ((lo+hi) / 2) (by omega) hm
     rw [getD_any hm (b:=j)]at this
     omega
   ·rw [if_neg hx]
    refine ih _ _ (by omega) (by omega) (by omega) a fun i hi' hs=>?_
    rw [getD_any hm (b:=0)]at hx
    by_cases e:i=(lo+hi) / 2
    ·subst e;omega
    ·have:=R ((lo+hi) / 2) i (by omega) hs
     omega
  ·have:lo=hi:=by omega
   subst this
   rw [if_neg hl]
   exact⟨h2,a,b⟩
theorem below_spec {xs:Array Nat} (R:Rise xs) (j:Nat):below xs j<=xs.size/\(∀i,i<below xs j->xs.getD i 0<j)/\∀i,below xs j<=i->i<xs.size->j<=xs.getD i 0:=
 below_go R _ _ _ (Nat.zero_le _) (Nat.le_refl _) (by omega) (fun i h=>absurd h (Nat.not_lt_zero i)) fun i h1 h2=>by omega
theorem below_at {xs:Array Nat} (R:Rise xs) {i:Nat} (h:i<xs.size):below xs (xs.getD i 0)=i:=by
 obtain⟨_,h2,h3⟩:=below_spec R (xs.getD i 0)
 rcases Nat.lt_trichotomy (below xs (xs.getD i 0)) i with z|z|z
 ·have:=h3 (below xs (xs.getD i 0)) (Nat.le_refl _) (by omega)
  have:=R _ i z h
  omega
 ·exact z
 ·have:=h2 i z
  omega
theorem get_getD {xs:Array Nat} {i j:Nat}:xs[i]? =some j↔i<xs.size/\xs.getD i 0=j:=by
 by_cases h:i<xs.size
 ·simp [Array.getD,h]
 ·simp [h]
theorem slot_live (R:Rise t.place) {i j:Nat} (h:t.place[i]? =some j):t.slot j= .live i:=by
 obtain⟨h1,rfl⟩:=get_getD.mp h
 unfold slot
 dsimp only
 rw [below_at R h1,h]
 simp
theorem slot_other (hd:t.dummies= #[]) {j:Nat} (h:∀i:Nat,t.place[i]? ≠some j):t.slot j= .empty:=by
 unfold slot
 dsimp only
 have h1:(t.place[below t.place j]? ==some j)=false:=beq_eq_false_iff_ne.mpr (h _)
 rw [h1]
 have h2:has t.dummies j=false:=by rw [hd];unfold has;simp
 rw [h2]
 rfl
theorem slot_cases (hd:t.dummies= #[]) (j:Nat):t.slot j= .empty∨∃i:Nat,t.slot j= .live i/\t.place[i]? =some j:=by
 by_cases h:t.place[below t.place j]? =some j
 ·refine .inr ⟨below t.place j,?_,h⟩
  unfold slot
  dsimp only
  rw [h]
  simp
 ·refine .inl ?_
  unfold slot
  dsimp only
  have h1:(t.place[below t.place j]? ==some j)=false:=beq_eq_false_iff_ne.mpr h
  rw [h1]
  have h2:has t.dummies j=false:=by rw [hd];unfold has;simp
  rw [h2]
  rfl
theorem slot_nodummy (hd:t.dummies= #[]) (j:Nat):t.slot j≠ .dummy:=by
 rcases slot_cases hd j with e|⟨i,e,_⟩<;>rw [e]<;>intro z<;>cases z
theorem some_empty (hd:t.dummies= #[]) (hs:t.place.size<=t.mask):∃e,e<=t.mask/\t.slot e= .empty:=by
 refine Classical.byContradiction fun no=>?_
 have all:∀e,e<=t.mask->∃i:Nat,t.place[i]? =some e:=fun e he=>by
  rcases slot_cases hd e with z|⟨i,_,z⟩
  ·exact absurd ⟨e,he,z⟩ no
  ·exact⟨i,z⟩
 have sub:List.range (t.mask+1) ⊆ t.place.toList:=fun e he=>by
  obtain⟨i,hi⟩:=all e (by have:=List.mem_range.mp he;omega)
  obtain⟨h1,h2⟩:=Array.getElem?_eq_some_iff.mp hi
  rw [<-h2]
  simp
 have:=(List.nodup_range (n:=t.mask+1)).length_le_of_subset sub
 rw [List.length_range,Array.length_toList]at this
 omega
theorem search_some (R:Round t.mask) (hd:t.dummies= #[]) (hs:t.place.size<=t.mask) (p:Probe) (hp:p.perturb<2 ^ 64) (hm:p.more<=9):∃m,t.probe hashAt h p=some m:=by
 obtain⟨e,he,h1⟩:=some_empty hd hs
 exact probe_some R he (slot_nodummy hd) h1 p hp hm
def adv (mask:Nat) (p:Probe):Probe:=if p.more>0 then{p with j:=p.j+1,more:=p.more-1}else{p with j:=(leap mask p.i p.perturb).1,more:=runEnd mask (leap mask p.i p.perturb).1-(leap mask p.i p.perturb).1,i:=(leap mask p.i p.perturb).1,perturb:=(leap mask p.i p.perturb).2}
def advs (mask:Nat):Nat->Probe->Probe
 |0,p=>p
 |n+1,p=>advs mask n (adv mask p)
theorem advs_add (mask:Nat):∀m k p,advs mask (m+k) p=advs mask k (advs mask m p)
 |0,k,p=>by rw [Nat.zero_add,advs]
 |m+1,k,p=>by rw [Nat.succ_add,advs,advs_add mask m k,advs]
theorem adv_dummy (mask:Nat) (p:Probe):(adv mask p).dummy=p.dummy:=by unfold adv;split<;>rfl
theorem go_eq (fuel:Nat) (p:Probe):probe.go t hashAt h (fuel+1) p=match t.slot p.j with| .empty=>some (.empty p.j p.dummy)| .dummy=>probe.go t hashAt h fuel (t.advance {p with dummy:=some p.j})| .live i=>if(hashAt i==h)=true then some (.candidate p.j i (t.advance p))else probe.go t hashAt h fuel (t.advance p):=rfl
theorem go_spec (hd:∀j,t.slot j≠ .dummy):∀(fuel:Nat) (p:Probe) (N:Nat),t.slot (advs t.mask N p).j= .empty->N<fuel->p.dummy=none->
    ∃n,n<=N/\(∀m,m<n->∃i,t.slot (advs t.mask m p).j= .live i/\hashAt i≠h)/\
      ((t.slot (advs t.mask n p).j= .empty/\probe.go t hashAt h fuel p=some (.empty (advs t.mask n p).j none))∨
       ∃i,t.slot (advs t.mask n p).j= .live i/\hashAt i=h/\probe.go t hashAt h fuel p=some (.candidate (advs t.mask n p).j i (advs t.mask (n+1) p))):=by
  intro fuel
  induction fuel with
  |zero=>intro p N _ h2;omega
  |succ fuel ih=>
    intro p N h1 h2 h3
    rw [go_eq]
    cases hs:t.slot p.j with
    |empty=>exact⟨0,Nat.zero_le _,fun m hm=>absurd hm (Nat.not_lt_zero m),.inl ⟨hs,by rw [h3];rfl⟩⟩
    |dummy=>exact absurd hs (hd _)
    |live i=>
      by_cases hh:hashAt i=h
      · exact⟨0,Nat.zero_le _,fun m hm=>absurd hm (Nat.not_lt_zero m),.inr ⟨i,hs,hh,by dsimp only;rw [if_pos (beq_iff_eq.mpr hh)];rfl⟩⟩
      · cases N with
        |zero=>
          have h1':t.slot p.j= .empty:=h1
          rw [hs]at h1'
          cases h1'
        |succ N=>
          obtain⟨n,a1,a2,a3⟩:=ih (adv t.mask p) N h1 (by omega) (by rw [adv_dummy];exact h3)
          have hb:¬(hashAt i==h)=true:=fun z=>hh (beq_iff_eq.mp z)
          refine⟨n+1,by omega,fun m hm=>?_,?_⟩
          · cases m with
            |zero=>exact⟨i,hs,hh⟩
            |succ m=>exact a2 m (by omega)
          · rcases a3 with ⟨b1,b2⟩|⟨i',b1,b2,b3⟩
            · exact .inl ⟨b1,by dsimp only;rw [if_neg hb];exact b2⟩
            · exact .inr ⟨i',b1,b2,by dsimp only;rw [if_neg hb];exact b3⟩
theorem go_empty (hn:∀i,hashAt i≠h) (hd:∀j,t.slot j≠ .dummy):∀(fuel:Nat) (p:Probe) (m:Met),probe.go t hashAt h fuel p=some m->∃N,N<fuel/\t.slot (advs t.mask N p).j= .empty:=by
 intro fuel
 induction fuel with
 |zero=>intro p m e;cases e
 |succ fuel ih=>
  intro p m e
  rw [go_eq]at e
  cases hs:t.slot p.j with
  |empty=>exact⟨0,Nat.succ_pos _,hs⟩
  |dummy=>exact absurd hs (hd _)
  |live i=>
   rw [hs]at e
   dsimp only at e
   rw [if_neg (fun z=>hn i (beq_iff_eq.mp z))]at e
   obtain⟨N,h1,h2⟩:=ih _ _ e
   exact⟨N+1,by omega,h2⟩
theorem empty_near (R:Round t.mask) (hd:t.dummies= #[]) (hs:t.place.size<=t.mask) (p:Probe) (hp:p.perturb<2 ^ 64) (hm:p.more<=9):∃N,N<10*turns t.mask/\t.slot (advs t.mask N p).j= .empty:=by
 obtain⟨m,e⟩:=search_some (hashAt:=fun _=>1) (h:=0) R hd hs p hp hm
 exact go_empty (hashAt:=fun _=>1) (h:=0) (fun _=>by decide) (slot_nodummy hd) _ p m e
theorem start_ok (t:SetTable) (h:Int):(t.probeStart h).perturb<2 ^ 64/\(t.probeStart h).more<=9:=by
 refine⟨?_,run_le _ _⟩
 show bits h<2 ^ 64
 unfold bits
 have h1:=Int.emod_nonneg h (show((2:Int) ^ 64)≠0 by decide)
 have h2:=Int.emod_lt_of_pos h (show(0:Int)<2 ^ 64 by decide)
 omega
def OnWay (t:SetTable) (h:Int) (j:Nat):Prop:=∃n,(advs t.mask n (t.probeStart h)).j=j/\∀m,m<n->t.slot (advs t.mask m (t.probeStart h)).j≠ .empty
theorem OnWay.ahead {j N:Nat} (w:OnWay t h j) (hj:t.slot j≠ .empty) (hN:t.slot (advs t.mask N (t.probeStart h)).j= .empty):∃n,n<N/\(advs t.mask n (t.probeStart h)).j=j:=by
 obtain⟨n,e,a⟩:=w
 rcases Nat.lt_trichotomy n N with z|z|z
 ·exact⟨n,z,e⟩
 ·subst z
  rw [e]at hN
  exact absurd hN hj
 ·exact absurd hN (a N z)
theorem insertAt_toList {α:Type} (xs:Array α) (p:Nat) (x:α):(insertAt xs p x).toList=xs.toList.take p++x::xs.toList.drop p:=by
 unfold insertAt
 simp [Array.toList_extract]
 exact List.take_of_length_le (by simp)
theorem rise_iff {xs:Array Nat}:Rise xs↔xs.toList.Pairwise (·<·):=by
 rw [List.pairwise_iff_getElem]
 constructor
 ·intro R i k hi hk hik
  have h2:k<xs.size:=by simpa using hk
  have:=R i k hik h2
  have h1:i<xs.size:=by omega
  simpa [Array.getD,h1,h2]using this
 ·intro R i k hik hk
  have h1:i<xs.size:=by omega
  have:=R i k (by simpa using h1) (by simpa using hk) hik
  simpa [Array.getD,h1,hk]using this
theorem mem_place {j:Nat}:(∃i:Nat,t.place[i]? =some j)↔j∈t.place.toList:=by
 rw [List.mem_iff_getElem?]
 simp
theorem slot_empty_iff (R:Rise t.place) (hd:t.dummies= #[]) {j:Nat}:t.slot j= .empty↔j∉t.place.toList:=by
 rw [<-mem_place]
 constructor
 ·rintro e ⟨i,hi⟩
  rw [slot_live R hi]at e
  cases e
 ·intro no
  exact slot_other hd fun i z=>no ⟨i,z⟩
theorem put_rise (R:Rise t.place) {j:Nat} (hj:j∉t.place.toList):Rise (insertAt t.place (below t.place j) j):=by
 obtain⟨hb,h1,h2⟩:=below_spec R j
 rw [rise_iff,insertAt_toList]
 have Rl:=rise_iff.mp R
 have lo:∀x∈t.place.toList.take (below t.place j),x<j:=fun x hx=>by
  obtain⟨i,hi,e⟩:=List.getElem_of_mem hx
  rw [List.length_take]at hi
  rw [List.getElem_take]at e
  have hs:i<t.place.size:=by simp at hi;omega
  have:=h1 i (by omega)
  rw [<-e]
  simpa [Array.getD,hs]using this
 have hi':∀x∈t.place.toList.drop (below t.place j),j<x:=fun x hx=>by
  have hm:x∈t.place.toList:=List.mem_of_mem_drop hx
  obtain⟨i,hi,e⟩:=List.getElem_of_mem hx
  rw [List.length_drop]at hi
  rw [List.getElem_drop]at e
  have hs:below t.place j+i<t.place.size:=by simp at hi;omega
  have:=h2 (below t.place j+i) (by omega) hs
  have h3:j<=x:=by rw [<-e];simpa [Array.getD,hs]using this
  have h4:j≠x:=fun z=>hj (z▸hm)
  omega
 rw [List.pairwise_append]
 refine⟨Rl.sublist (List.take_sublist _ _),List.pairwise_cons.mpr ⟨hi',Rl.sublist (List.drop_sublist _ _)⟩,fun x hx y hy=>?_⟩
 have:=lo x hx
 rcases List.mem_cons.mp hy with e|m
 ·omega
 ·have:=hi' y m;omega
theorem put_eq (hd:t.dummies= #[]) (j:Nat):t.put j=({t with place:=insertAt t.place (below t.place j) j},below t.place j):=by
 unfold put
 have h2:has t.dummies j=false:=by rw [hd];unfold has;simp
 rw [h2]
 rfl
theorem mem_insert {xs:Array Nat} {p j x:Nat}:x∈(insertAt xs p j).toList↔x=j∨x∈xs.toList:=by
 rw [insertAt_toList,List.mem_append,List.mem_cons]
 constructor
 ·rintro(h|h|h)
  ·exact .inr (List.mem_of_mem_take h)
  ·exact .inl h
  ·exact .inr (List.mem_of_mem_drop h)
 ·rintro(h|h)
  ·exact .inr (.inl h)
  ·rw [<-List.take_append_drop p xs.toList]at h
   rcases List.mem_append.mp h with h|h
   ·exact .inl h
   ·exact .inr (.inr h)
theorem insert_size {α:Type} (xs:Array α) {p:Nat} (x:α) (h:p<=xs.size):(insertAt xs p x).size=xs.size+1:=by
 rw [<-Array.length_toList,insertAt_toList,List.length_append,List.length_cons,List.length_take,List.length_drop,Array.length_toList]
 omega
structure Good (t:SetTable):Prop where
 dum:t.dummies= #[]
 rise:Rise t.place
 low:∀j∈t.place.toList,j<=t.mask
 room:t.place.size<=t.mask
 round:Round t.mask
theorem Good.put (G:Good t) {j:Nat} (hj:t.slot j= .empty) (hl:j<=t.mask) (hr:t.place.size+1<=t.mask):Good (t.put j).1:=by
 rw [put_eq G.dum]
 have nj:=(slot_empty_iff G.rise G.dum).mp hj
 refine⟨G.dum,put_rise G.rise nj,fun x hx=>?_,?_,G.round⟩
 ·rcases mem_insert.mp hx with e|m
  ·rw [e];exact hl
  ·exact G.low x m
 ·show(insertAt t.place (below t.place j) j).size<=t.mask
  rw [insert_size _ _ (below_spec G.rise j).1]
  exact hr
theorem Good.put_empty (G:Good t) {j:Nat} (hj:t.slot j= .empty) (x:Nat):(t.put j).1.slot x= .empty↔t.slot x= .empty/\x≠j:=by
 have nj:=(slot_empty_iff G.rise G.dum).mp hj
 rw [put_eq G.dum]
 rw [slot_empty_iff (t:={t with place:=insertAt t.place (below t.place j) j}) (put_rise G.rise nj) G.dum,slot_empty_iff G.rise G.dum]
 show x∉(insertAt t.place (below t.place j) j).toList↔_
 rw [mem_insert,not_or]
 exact⟨fun z=>⟨z.2,z.1⟩,fun z=>⟨z.2,z.1⟩⟩
theorem OnWay.put (G:Good t) {j x:Nat} (hj:t.slot j= .empty) (w:OnWay t h x):OnWay (t.put j).1 h x:=by
 obtain⟨n,e,a⟩:=w
 have em:(t.put j).1.mask=t.mask:=by rw [put_eq G.dum]
 have es:(t.put j).1.probeStart h=t.probeStart h:=by rw [put_eq G.dum];rfl
 refine⟨n,by rw [em,es];exact e,fun m hm z=>?_⟩
 rw [em,es]at z
 exact a m hm ((G.put_empty hj _).mp z).1
theorem OnWay.new (G:Good t) {N:Nat} (hj:t.slot (advs t.mask N (t.probeStart h)).j= .empty) (a:∀m,m<N->t.slot (advs t.mask m (t.probeStart h)).j≠ .empty):OnWay (t.put (advs t.mask N (t.probeStart h)).j).1 h (advs t.mask N (t.probeStart h)).j:=by
 have em:(t.put (advs t.mask N (t.probeStart h)).j).1.mask=t.mask:=by rw [put_eq G.dum]
 have es:(t.put (advs t.mask N (t.probeStart h)).j).1.probeStart h=t.probeStart h:=by rw [put_eq G.dum];rfl
 refine⟨N,by rw [em,es],fun m hm z=>?_⟩
 rw [em,es]at z
 exact a m hm ((G.put_empty hj _).mp z).1
end SetTable
end PySem
namespace PySem
open Sem (wp)
section
variable {prog:Program} {w:World} {K:Type} [DecidableEq K] (knd:HeapKind prog w K)
structure SetAt (s:Shared) (a:Addr) (o:Obj) (es:Array (Int×Value)) (ep:Nat) (t:SetTable) (xs:List (K×Addr)):Prop where
 ho:s.heap.get? a=some o
 hex:o.ExactSet
 hd:o.data= .set es ep t
 he:es.toList=xs.map fun x=>(knd.hash x.1,Value.ref x.2)
 good:t.Good
 size:t.place.size=es.size
 keys:∀x∈xs,knd.is s.heap x.1 x.2
 nd:(xs.map (·.1)).Nodup
 way:∀(i j:Nat) (x:K×Addr),t.place[i]? =some j->xs[i]? =some x->SetTable.OnWay t (knd.hash x.1) j
variable {knd} {A:Around} {E:Value->Shared->Prop} {s:Shared} {a b:Addr} {o:Obj} {es:Array (Int×Value)} {ep:Nat} {t:SetTable} {xs:List (K×Addr)} {k:K}
structure SetKd (knd:HeapKind prog w K):Prop where
 mono:∀{h h':Heap} {k:K} {c:Addr},knd.is h k c->(∀b o,o.cls= .type "tuple"->h.get? b=some o->h'.get? b=some o)->knd.is h' k c
 byValue:∀{A:Around} {E:Value->Shared->Prop} {s:Shared} {k:K} {c:Addr} {Q:Bool->Shared->Prop},knd.is s.heap k c->Q true s->wpAny (model prog w) A (hashByValue 8 (.ref c)) Q E s
 plain:∀{A:Around} {E:Value->Shared->Prop} {s:Shared} {k:K} {c:Addr} {Q:Bool->Shared->Prop},knd.is s.heap k c->Q false s->wpAny (model prog w) A (ofAClassStatement 8 (.ref c)) Q E s
theorem SetKd.keep (D:SetKd knd) {h h':Heap} {k:K} {c d:Addr} {o:Obj} (hx:knd.is h k c) (ho:h.get? d=some o) (hex:o.ExactSet) (sb:Heap.SameBut d h h'):knd.is h' k c:=D.mono hx fun b o' hc e=>by
 have ne:b≠d:=by
  rintro rfl
  rw [ho]at e
  cases e
  rw [hex.1]at hc
  exact absurd hc (by decide)
 rw [sb.2 b ne]
 exact e
theorem wpAny_seen_heap (D:SetKd knd) (hkey:knd.is s.heap k b) {ys:List Value} (hy:∀y∈ys,∃x c,y=Value.ref c/\knd.is s.heap x c) {Q:Bool->Shared->Prop} (h:Q false s):wpAny (model prog w) A (searchCouldBeSeen (.ref b) ys) Q E s:=by
 unfold searchCouldBeSeen
 refine wpAny_bind ?_
 refine wpAny_forIn_list _ (fun rest r s'=>r.1=none/\s'=s/\∀v∈rest,∃x c,v=Value.ref c/\knd.is s.heap x c) _ ?_ ?_ _ _ ⟨rfl,rfl,hy⟩
 ·rintro v rest r s' ⟨hr,rfl,hall⟩
  obtain⟨x,c,rfl,hx⟩:=hall v List.mem_cons_self
  dsimp only
  have nx:∀u∈rest,∃x c,u=Value.ref c/\knd.is s'.heap x c:=fun u hu=>hall u (List.mem_cons_of_mem _ hu)
  split
  ·exact wpAny_pure ⟨rfl,rfl,nx⟩
  ·refine wpAny_bind (knd.quiet hkey ?_)
   simp only [Bool.not_true,Bool.false_eq_true,if_false]
   refine wpAny_bind (knd.quiet hx ?_)
   simp only [Bool.not_true,Bool.false_eq_true,if_false]
   refine wpAny_bind (D.plain hkey ?_)
   simp only [Bool.false_eq_true,if_false]
   refine wpAny_bind (D.plain hx ?_)
   simp only [Bool.false_eq_true,if_false]
   exact wpAny_pure ⟨rfl,rfl,nx⟩
 ·rintro⟨r1,r2⟩ s' ⟨hr,rfl,_⟩
  simp only at hr
  subst hr
  exact wpAny_pure h
theorem SetAt.fits (S:SetAt knd s a o es ep t xs):t.fits es.size=true:=by
 unfold SetTable.fits SetTable.fill
 have h1:=S.size
 have h2:=S.good.room
 rw [S.good.dum]
 simp [h1]
 omega
theorem SetAt.len (S:SetAt knd s a o es ep t xs):es.size=xs.length:=by rw [<-Array.length_toList,S.he,List.length_map]
theorem SetAt.entry (S:SetAt knd s a o es ep t xs) (i:Nat):es[i]? =(xs[i]?).map fun x=>(knd.hash x.1,Value.ref x.2):=by
 rw [<-Array.getElem?_toList,S.he,List.getElem?_map]
theorem SetAt.even (S:SetAt knd s a o es ep t xs) (hm:t.mask % 2=1):t.gaveWay=false:=by
 unfold SetTable.gaveWay
 rw [hm]
 rfl
theorem wpAny_search_heap (S:SetAt knd s a o es ep t xs) (hm:t.mask % 2=1) (D:SetKd knd) (hu:knd.room A) (hkey:knd.is s.heap k b) {N:Nat} (hN:t.slot (SetTable.advs t.mask N (t.probeStart (knd.hash k))).j= .empty) (hF:N<10*SetTable.turns t.mask)
  (first:∀m,m<N->t.slot (SetTable.advs t.mask m (t.probeStart (knd.hash k))).j≠ .empty) {Q:SetFound->Shared->Prop} (hold:(∃x∈xs,x.1=k)->Q (.there none) s) (hnew:(∀x∈xs,x.1≠k)->Q (.free (SetTable.advs t.mask N (t.probeStart (knd.hash k))).j false) s):
  ∀(fuel n:Nat) (stand:Option SetTable.Probe),stand.getD (t.probeStart (knd.hash k))=SetTable.advs t.mask n (t.probeStart (knd.hash k))->n<=N->N-n<fuel->(∀m,m<n->∃(i:Nat) (x:K×Addr),t.slot (SetTable.advs t.mask m (t.probeStart (knd.hash k))).j= .live i/\xs[i]? =some x/\x.1≠k)->
   wpAny (model prog w) A (setSearchFrom a (.ref b) (knd.hash k) true fuel stand) Q E s:=by
 intro fuel
 induction fuel with
 |zero=>intro n stand _ _ h3;omega
 |succ fuel ih=>
  intro n stand h1 h2 h3 past
  have dumA:∀m p,(SetTable.advs t.mask m p).dummy=p.dummy:=by
   intro m
   induction m with
   |zero=>intro p;rfl
   |succ m ih=>intro p;rw [SetTable.advs,ih,SetTable.adv_dummy]
  unfold setSearchFrom
  refine wpAny_bind (wpAny_setState_of S.ho S.hd S.fits ?_)
  dsimp only
  rw [S.even hm]
  simp only [Bool.false_eq_true,if_false]
  rw [h1]
  have comp:∀m,SetTable.advs t.mask m (SetTable.advs t.mask n (t.probeStart (knd.hash k)))=SetTable.advs t.mask (n+m) (t.probeStart (knd.hash k)):=fun m=>(SetTable.advs_add t.mask n m _).symm
  have ent:∀i:Nat,(es[i]?.map (·.1)).getD 0=((xs[i]?).map fun x=>knd.hash x.1).getD 0:=fun i=>by
   rw [S.entry i,Option.map_map]
   rfl
  have inx:∀(i j:Nat),t.slot j= .live i->∃x,xs[i]? =some x/\t.place[i]? =some j:=fun i j hs=>by
   rcases SetTable.slot_cases S.good.dum j with z|⟨i',z1,z2⟩
   ·rw [hs]at z;cases z
   ·rw [hs]at z1
    cases z1
    have hi:i<t.place.size:=(Array.getElem?_eq_some_iff.mp z2).1
    rw [S.size,S.len]at hi
    exact⟨xs[i],List.getElem?_eq_getElem hi,z2⟩
  obtain⟨n',a1,a2,a3⟩:=SetTable.go_spec (t:=t) (hashAt:=fun i:Nat=>(es[i]?.map (·.1)).getD 0) (h:=knd.hash k) (SetTable.slot_nodummy S.good.dum) (10*SetTable.turns t.mask) (SetTable.advs t.mask n (t.probeStart (knd.hash k))) (N-n) (by rw [comp,show n+(N-n)=N by omega];exact hN) (by omega) (by rw [dumA];rfl)
  rw [comp]at a3
  rcases a3 with ⟨b1,b2⟩|⟨i,b1,b2,b3⟩
  ·have eN:n+n'=N:=by
    rcases Nat.lt_or_ge (n+n') N with z|z
    ·exact absurd b1 (first _ z)
    ·omega
   have e:t.probe (fun i:Nat=>(es[i]?.map (·.1)).getD 0) (knd.hash k) (SetTable.advs t.mask n (t.probeStart (knd.hash k)))=some (.empty (SetTable.advs t.mask (n+n') (t.probeStart (knd.hash k))).j none):=b2
   erw [e]
   dsimp only
   rw [eN]
   refine wpAny_pure (hnew fun x hx ek=>?_)
   obtain⟨i,hi⟩:=List.mem_iff_getElem?.mp hx
   have his:i<t.place.size:=by rw [S.size,S.len];exact(List.getElem?_eq_some_iff.mp hi).1
   have hpl:t.place[i]? =some t.place[i]:=Array.getElem?_eq_getElem his
   have hsl:=SetTable.slot_live S.good.rise hpl
   have wy:=S.way i _ x hpl hi
   rw [ek]at wy
   obtain⟨m,hm1,hm2⟩:=wy.ahead (by rw [hsl];intro z;cases z) hN
   rcases Nat.lt_or_ge m n with z|z
   ·obtain⟨i',x',c1,c2,c3⟩:=past m z
    rw [hm2,hsl]at c1
    cases c1
    rw [hi]at c2
    cases c2
    exact c3 ek
   ·obtain⟨i',c1,c2⟩:=a2 (m-n) (by omega)
    rw [comp,show n+(m-n)=m by omega,hm2,hsl]at c1
    cases c1
    rw [ent,hi]at c2
    exact c2 (by rw [<-ek];rfl)
  ·obtain⟨x,hx,hpl⟩:=inx i _ b1
   have hxm:=List.mem_of_getElem? hx
   have e:t.probe (fun i:Nat=>(es[i]?.map (·.1)).getD 0) (knd.hash k) (SetTable.advs t.mask n (t.probeStart (knd.hash k)))=some (.candidate (SetTable.advs t.mask (n+n') (t.probeStart (knd.hash k))).j i (SetTable.advs t.mask (n'+1) (SetTable.advs t.mask n (t.probeStart (knd.hash k))))):=b3
   erw [e]
   dsimp only
   cases hl:t.led
   focus
    simp only [Bool.not_false,if_true]
    refine wpAny_bind (wpAny_seen_heap D hkey (fun y hy=>?_) ?_)
    obtain⟨e,he,rfl⟩:=List.mem_map.mp hy
    have he2:=(Array.mem_filter.mp (Array.mem_toList_iff.mp he)).1
    rw [<-Array.mem_toList_iff,S.he]at he2
    obtain⟨x',hx',rfl⟩:=List.mem_map.mp he2
    exact⟨_,_,rfl,S.keys x' hx'⟩
    simp only [Bool.false_eq_true,if_false]
   rotate_left
   focus
    simp only [Bool.not_true,Bool.false_eq_true,if_false]
   all_goals
    rw [S.entry i,hx]
    dsimp only [Option.map_some]
    refine wpAny_bind (wpAny_holding (knd.eqBool hu (S.keys x hxm) hkey ?_))
    refine wpAny_bind (wpAny_setState_of S.ho S.hd S.fits ?_)
    by_cases ek:x.1=k
    ·rw [decide_eq_true ek]
     simp only [Bool.and_self,if_true]
     exact wpAny_pure (hold ⟨x,hxm,ek⟩)
    ·rw [decide_eq_false ek]
     simp only [Bool.and_false,Bool.false_eq_true,if_false]
     have sm:t.sameMemory t.moves t.mask=some true:=by unfold SetTable.sameMemory;simp
     rw [sm]
     simp only [if_true]
     rw [b1]
     dsimp only
     rw [S.entry i,hx]
     dsimp only [Option.map_some]
     refine wpAny_bind (wpAny_isSame_ref_self ?_)
     simp only [if_true]
     refine wpAny_bind (wpAny_pure ?_)
     dsimp only
     have lt:n+n'<N:=by
      rcases Nat.lt_or_ge (n+n') N with z|z
      ·exact z
      ·have z2:n+n'=N:=by omega
       rw [z2,hN]at b1
       cases b1
     refine ih (n+(n'+1)) _ (by show SetTable.advs t.mask (n'+1) _=_;rw [comp]) (by omega) (by omega) fun m hm'=>?_
     rcases Nat.lt_or_ge m n with z|z
     ·exact past m z
     ·by_cases z2:m=n+n'
      ·subst z2
       exact⟨i,x,b1,hx,ek⟩
      ·obtain⟨i',c1,c2⟩:=a2 (m-n) (by omega)
       rw [comp,show n+(m-n)=m by omega]at c1
       obtain⟨x',hx',_⟩:=inx i' _ c1
       refine⟨i',x',c1,hx',fun ek'=>c2 ?_⟩
       rw [ent,hx', <-ek']
       rfl
theorem ExactSet_put {o:Obj} (es':Array (Int×Value)) (t':SetTable) (hd:o.data= .set es ep t) (h:o.ExactSet):(Obj.putSet es' t' o).ExactSet:=by
 rw [putSet_of es' t' hd]
 exact h
theorem get_ins {α:Type} {l:List α} {p i:Nat} {y x:α} (hp:p<=l.length) (h:(l.take p++x::l.drop p)[i]? =some y):(i<p/\l[i]? =some y)∨(i=p/\y=x)∨(p<i/\l[i-1]? =some y):=by
 have hlen:(l.take p).length=p:=by rw [List.length_take];omega
 rcases Nat.lt_trichotomy i p with z|z|z
 ·rw [List.getElem?_append_left (by omega),List.getElem?_take_of_lt z]at h
  exact .inl ⟨z,h⟩
 ·subst z
  rw [List.getElem?_append_right (by omega),hlen,Nat.sub_self]at h
  exact .inr (.inl ⟨rfl,(Option.some.inj h).symm⟩)
 ·rw [List.getElem?_append_right (by omega),hlen]at h
  obtain⟨d,rfl⟩:∃d,i=p+(d+1):=⟨i-p-1,by omega⟩
  rw [show p+(d+1)-p=d+1 by omega,List.getElem?_cons_succ,List.getElem?_drop]at h
  exact .inr (.inr ⟨by omega,by rw [show p+(d+1)-1=p+d by omega];exact h⟩)
theorem SetAt.add (S:SetAt knd s a o es ep t xs) (hkey:knd.is s.heap k b) (hn:∀x∈xs,x.1≠k) (hkeep:∀h',Heap.SameBut a s.heap h'->∀x c,knd.is s.heap x c->knd.is h' x c) {N:Nat} (hN:t.slot (SetTable.advs t.mask N (t.probeStart (knd.hash k))).j= .empty)
  (first:∀m,m<N->t.slot (SetTable.advs t.mask m (t.probeStart (knd.hash k))).j≠ .empty) (hl:(SetTable.advs t.mask N (t.probeStart (knd.hash k))).j<=t.mask) (hroom:t.place.size+1<=t.mask) {j p:Nat} (ej:j=(SetTable.advs t.mask N (t.probeStart (knd.hash k))).j) (epp:p=SetTable.below t.place j):
  SetAt knd {s with heap:=s.heap.update a (Obj.putSet (SetTable.insertAt es p (knd.hash k,.ref b)) (t.put j).1)} a (Obj.putSet (SetTable.insertAt es p (knd.hash k,.ref b)) (t.put j).1 o) (SetTable.insertAt es p (knd.hash k,.ref b)) (ep+1) (t.put j).1 (xs.take p++(k,b)::xs.drop p):=by
 subst ej epp
 have hb:=(SetTable.below_spec S.good.rise (SetTable.advs t.mask N (t.probeStart (knd.hash k))).j).1
 have hbx:SetTable.below t.place (SetTable.advs t.mask N (t.probeStart (knd.hash k))).j<=xs.length:=by rw [<-S.len, <-S.size];exact hb
 have hnf:(Obj.putSet (SetTable.insertAt es (SetTable.below t.place (SetTable.advs t.mask N (t.probeStart (knd.hash k))).j) (knd.hash k,.ref b)) (t.put (SetTable.advs t.mask N (t.probeStart (knd.hash k))).j).1 o).isFreed=false:=by
  rw [putSet_of _ _ S.hd]
  rfl
 refine⟨Heap.get?_update_self _ S.ho hnf,ExactSet_put _ _ S.hd S.hex,by rw [putSet_of _ _ S.hd],?_,S.good.put hN hl hroom,?_,fun x hx=>?_,?_,fun i j x h1 h2=>?_⟩
 ·rw [SetTable.insertAt_toList,S.he, <-List.map_take, <-List.map_drop,List.map_append,List.map_cons]
 ·rw [SetTable.put_eq S.good.dum]
  show(SetTable.insertAt t.place _ _).size=_
  rw [SetTable.insert_size _ _ hb,SetTable.insert_size _ _ (by rw [<-S.size];exact hb),S.size]
 ·rcases List.mem_append.mp hx with m|m
  ·exact hkeep _ (Heap.SameBut.update ..) _ _ (S.keys x (List.mem_of_mem_take m))
  ·rcases List.mem_cons.mp m with e|m
   ·rw [e];exact hkeep _ (Heap.SameBut.update ..) _ _ hkey
   ·exact hkeep _ (Heap.SameBut.update ..) _ _ (S.keys x (List.mem_of_mem_drop m))
 ·have pm:((xs.take (SetTable.below t.place (SetTable.advs t.mask N (t.probeStart (knd.hash k))).j)++(k,b)::xs.drop (SetTable.below t.place (SetTable.advs t.mask N (t.probeStart (knd.hash k))).j)).map (·.1)).Perm (k::xs.map (·.1)):=by
   have:=(List.perm_middle (a:=(k,b)) (l₁:=xs.take (SetTable.below t.place (SetTable.advs t.mask N (t.probeStart (knd.hash k))).j)) (l₂:=xs.drop (SetTable.below t.place (SetTable.advs t.mask N (t.probeStart (knd.hash k))).j))).map (·.1)
   rw [List.take_append_drop]at this
   exact this
  rw [pm.nodup_iff,List.nodup_cons]
  refine⟨fun m=>?_,S.nd⟩
  obtain⟨x,hx,e⟩:=List.mem_map.mp m
  exact hn x hx e
 ·rw [SetTable.put_eq S.good.dum]at h1
  have h1':(t.place.toList.take (SetTable.below t.place (SetTable.advs t.mask N (t.probeStart (knd.hash k))).j)++(SetTable.advs t.mask N (t.probeStart (knd.hash k))).j::t.place.toList.drop (SetTable.below t.place (SetTable.advs t.mask N (t.probeStart (knd.hash k))).j))[i]? =some j:=by
   rw [<-SetTable.insertAt_toList,Array.getElem?_toList];exact h1
  have gp:=get_ins (by rw [Array.length_toList];exact hb) h1'
  have gx:=get_ins hbx h2
  rcases gp with ⟨z1,z2⟩|⟨z1,z2⟩|⟨z1,z2⟩
  ·rcases gx with ⟨y1,y2⟩|⟨y1,y2⟩|⟨y1,y2⟩
   ·exact(S.way i j x (by rw [<-Array.getElem?_toList];exact z2) y2).put S.good hN
   ·omega
   ·omega
  ·rcases gx with ⟨y1,y2⟩|⟨y1,y2⟩|⟨y1,y2⟩
   ·omega
   ·rw [z2,y2]
    exact SetTable.OnWay.new S.good hN first
   ·omega
  ·rcases gx with ⟨y1,y2⟩|⟨y1,y2⟩|⟨y1,y2⟩
   ·omega
   ·omega
   ·exact(S.way (i-1) j x (by rw [<-Array.getElem?_toList];exact z2) y2).put S.good hN
end
end PySem
namespace PySem
namespace SetTable
def stP (M:Nat) (i perturb:Nat):Probe:={j:=i,more:=runEnd M i-i,i,perturb,dummy:=none}
def st (M:Nat) (h:Int):Probe:=stP M (bits h % (M+1)) (bits h)
theorem stP_run (M i perturb:Nat):∀k,k<=runEnd M i-i->(advs M k (stP M i perturb))={stP M i perturb with j:=i+k,more:=runEnd M i-i-k}:=by
 have gen:∀(k:Nat) (p:Probe),k<=p.more->advs M k p={p with j:=p.j+k,more:=p.more-k}:=by
  intro k
  induction k with
  |zero=>intro p _;rfl
  |succ k ih=>
   intro p hk
   rw [advs]
   have e:adv M p={p with j:=p.j+1,more:=p.more-1}:=by unfold adv;rw [if_pos (by omega)]
   rw [e,ih _ (by show k<=p.more-1;omega)]
   have e1:p.j+1+k=p.j+(k+1):=by omega
   have e2:p.more-1-k=p.more-(k+1):=by omega
   show({p with j:=p.j+1+k,more:=p.more-1-k}:Probe)=_
   rw [e1,e2]
 intro k hk
 exact gen k _ hk
theorem stP_leap (M i perturb:Nat):advs M (runEnd M i-i+1) (stP M i perturb)=stP M (leap M i perturb).1 (leap M i perturb).2:=by
 rw [advs_add,stP_run M i perturb _ (Nat.le_refl _),Nat.sub_self,advs,advs]
 unfold adv
 rw [if_neg (by show¬(0>0);omega)]
 rfl
theorem free_way {M:Nat} {owner:Array (Option Nat)} (hsz:owner.size=M+1):∀(fuel i perturb:Nat) (j:Nat),layClean.free M owner fuel i perturb=some j->
  owner[j]? =some none/\∃n,(advs M n (stP M i perturb)).j=j/\∀m,m<n->owner[(advs M m (stP M i perturb)).j]? ≠some none:=by
 intro fuel
 induction fuel with
 |zero=>intro i perturb j e;cases e
 |succ fuel ih=>
  intro i perturb j e
  have key:layClean.free M owner (fuel+1) i perturb=match (List.range (runEnd M i+1-i)).find? fun k=>(owner.getD (i+k) (some 0)).isNone with|some k=>some (i+k)|none=>layClean.free M owner fuel (leap M i perturb).1 (leap M i perturb).2:=rfl
  rw [key]at e
  have none_of:∀x,(owner.getD x (some 0)).isNone=true↔owner[x]? =some none:=fun x=>by
   by_cases hx:x<owner.size
   ·simp [Array.getD,hx]
   ·simp [Array.getD,hx]
  have hre:runEnd M i+1-i=runEnd M i-i+1:=by unfold runEnd;split<;>omega
  cases hf:(List.range (runEnd M i+1-i)).find? fun k=>(owner.getD (i+k) (some 0)).isNone with
  |some k=>
   rw [hf]at e
   cases e
   have h1:=List.find?_some hf
   have h2:=List.mem_range.mp (List.mem_of_find?_eq_some hf)
   refine⟨(none_of _).mp h1,k,by rw [stP_run M i perturb k (by omega)],fun m hm=>?_⟩
   rw [stP_run M i perturb m (by omega)]
   intro z
   have z':owner[i+m]? =some none:=z
   rw [List.find?_eq_some_iff_append]at hf
   obtain⟨_,as,bs,e1,e2⟩:=hf
   have hk:as.length=k:=by
    have h3:(List.range (runEnd M i+1-i))[as.length]? =some k:=by rw [e1];simp
    rw [List.getElem?_range (by have:=congrArg List.length e1;simp at this;omega)]at h3
    exact Option.some.inj h3
   have h4:m∈as:=by
    have h5:(List.range (runEnd M i+1-i))[m]? =some m:=List.getElem?_range (by omega)
    rw [e1,List.getElem?_append_left (by omega)]at h5
    exact List.mem_of_getElem? h5
   have:=e2 m h4
   rw [(none_of _).mpr z']at this
   exact absurd this (by decide)
  |none=>
   rw [hf]at e
   obtain⟨b1,n,b2,b3⟩:=ih _ _ _ e
   refine⟨b1,runEnd M i-i+1+n,by rw [advs_add,stP_leap];exact b2,fun m hm=>?_⟩
   rcases Nat.lt_or_ge m (runEnd M i-i+1)with z|z
   ·rw [stP_run M i perturb m (by omega)]
    intro y
    have y':owner[i+m]? =some none:=y
    have:=List.find?_eq_none.mp hf m (List.mem_range.mpr (by omega))
    exact this ((none_of _).mpr y')
   ·obtain⟨d,rfl⟩:∃d,m=runEnd M i-i+1+d:=⟨m-(runEnd M i-i+1),by omega⟩
    rw [advs_add,stP_leap]
    exact b3 d (by omega)
theorem free_some {M:Nat} {owner:Array (Option Nat)} {e:Nat} (he:owner[e]? =some none):∀(fuel i perturb L:Nat),(leaps M L (i,perturb)).1=e->L<fuel->∃j,layClean.free M owner fuel i perturb=some j:=by
 intro fuel
 induction fuel with
 |zero=>intro i perturb L _ h;omega
 |succ fuel ih=>
  intro i perturb L h1 h2
  have key:layClean.free M owner (fuel+1) i perturb=match (List.range (runEnd M i+1-i)).find? fun k=>(owner.getD (i+k) (some 0)).isNone with|some k=>some (i+k)|none=>layClean.free M owner fuel (leap M i perturb).1 (leap M i perturb).2:=rfl
  rw [key]
  cases hf:(List.range (runEnd M i+1-i)).find? fun k=>(owner.getD (i+k) (some 0)).isNone with
  |some k=>exact⟨_,rfl⟩
  |none=>
   cases L with
   |zero=>
    have h1':i=e:=h1
    subst h1'
    have hr:0<runEnd M i+1-i:=by unfold runEnd;split<;>omega
    have:=List.find?_eq_none.mp hf 0 (List.mem_range.mpr hr)
    have hs:i<owner.size:=(Array.getElem?_eq_some_iff.mp he).1
    have h3:owner[i]=none:=(Array.getElem?_eq_some_iff.mp he).2
    exact absurd (by simp [Array.getD,hs,h3]) this
   |succ L=>exact ih _ _ L h1 (by omega)
structure Lay (M:Nat) (hs:List Int) (owner:Array (Option Nat)):Prop where
 size:owner.size=M+1
 has:∀i,i<hs.length->∃j:Nat,owner[j]? =some (some i)
 low:∀(j i:Nat),owner[j]? =some (some i)->i<hs.length
 uniq:∀(j j' i:Nat),owner[j]? =some (some i)->owner[j']? =some (some i)->j=j'
 way:∀(j i:Nat) (h:Int),owner[j]? =some (some i)->hs[i]? =some h->∃n,(advs M n (st M h)).j=j/\∀m,m<n->owner[(advs M m (st M h)).j]? ≠some none
theorem Lay.start (M:Nat):Lay M [] (Array.replicate (M+1) none):=by
 have no:∀(j i:Nat),(Array.replicate (M+1) (none:Option Nat))[j]? ≠some (some i):=fun j i e=>by
  rw [Array.getElem?_replicate]at e
  split at e<;>cases e
 exact⟨by simp,fun i h=>absurd h (Nat.not_lt_zero i),fun j i e=>absurd e (no j i),fun j j' i e=>absurd e (no j i),fun j i h e=>absurd e (no j i)⟩
theorem Lay.empty {M:Nat} {hs:List Int} {owner:Array (Option Nat)} (L:Lay M hs owner) (hl:hs.length<=M):∃e,e<=M/\owner[e]? =some none:=by
 refine Classical.byContradiction fun no=>?_
 have all:∀j,j<=M->∃i,owner[j]? =some (some i):=fun j hj=>by
  have hs:j<owner.size:=by rw [L.size];omega
  cases g:owner[j]with
  |none=>exact absurd ⟨j,hj,by rw [Array.getElem?_eq_getElem hs,g]⟩ no
  |some i=>exact⟨i,by rw [Array.getElem?_eq_getElem hs,g]⟩
 have f:∀j,∃i,j<=M->owner[j]? =some (some i):=fun j=>by
  by_cases hj:j<=M
  ·obtain⟨i,hi⟩:=all j hj;exact⟨i,fun _=>hi⟩
  ·exact⟨0,fun z=>absurd z hj⟩
 obtain⟨F,hF⟩:=Classical.axiomOfChoice f
 have nd:((List.range (M+1)).map F).Nodup:=by
  rw [List.Nodup,List.pairwise_map]
  refine(List.nodup_range (n:=M+1)).imp_of_mem fun{a b} ha hb hab z=>hab ?_
  have h1:=hF a (by have:=List.mem_range.mp ha;omega)
  have h2:=hF b (by have:=List.mem_range.mp hb;omega)
  rw [z]at h1
  exact L.uniq a b _ h1 h2
 have sub:(List.range (M+1)).map F ⊆ List.range hs.length:=fun x hx=>by
  obtain⟨j,hj,rfl⟩:=List.mem_map.mp hx
  exact List.mem_range.mpr (L.low j _ (hF j (by have:=List.mem_range.mp hj;omega)))
 have:=nd.length_le_of_subset sub
 rw [List.length_map,List.length_range,List.length_range]at this
 omega
theorem Lay.step {M:Nat} {hs:List Int} {owner:Array (Option Nat)} (R:Round M) (L:Lay M hs owner) (hl:hs.length<=M) (h:Int):∃j,layClean.free M owner (turns M) (bits h % (M+1)) (bits h)=some j/\Lay M (hs++[h]) (owner.setIfInBounds j (some hs.length)):=by
 obtain⟨e,he,e1⟩:=L.empty hl
 have hb:bits h<2 ^ 64:=by
  unfold bits
  have h1:=Int.emod_nonneg h (show((2:Int) ^ 64)≠0 by decide)
  have h2:=Int.emod_lt_of_pos h (show(0:Int)<2 ^ 64 by decide)
  omega
 obtain⟨Lp,_,l2,l3⟩:=leaps_meet R he (bits h % (M+1)) (bits h) hb
 obtain⟨j,hj⟩:=free_some e1 (turns M) _ _ Lp l3 (by unfold turns;omega)
 obtain⟨w1,n,w2,w3⟩:=free_way L.size _ _ _ _ hj
 have hjs:j<owner.size:=(Array.getElem?_eq_some_iff.mp w1).1
 have at_:∀x,(owner.setIfInBounds j (some hs.length))[x]? =if x=j then some (some hs.length)else owner[x]? :=fun x=>by
  rw [Array.getElem?_setIfInBounds]
  by_cases z:j=x
  ·subst z;simp [hjs]
  ·rw [if_neg z,if_neg (fun y=>z y.symm)]
 have occ:∀x,owner[x]? ≠some none->(owner.setIfInBounds j (some hs.length))[x]? ≠some none:=fun x z=>by
  rw [at_]
  split
  ·intro y;cases y
  ·exact z
 refine⟨j,hj,⟨by simp [L.size],fun i hi=>?_,fun x i g=>?_,fun x y i g1 g2=>?_,fun x i h' g g'=>?_⟩⟩
 ·rw [List.length_append,List.length_singleton]at hi
  by_cases z:i<hs.length
  ·obtain⟨x,hx⟩:=L.has i z
   refine⟨x,?_⟩
   rw [at_,if_neg (fun y=>by subst y;rw [w1]at hx;cases hx)]
   exact hx
  ·exact⟨j,by rw [at_,if_pos rfl,show i=hs.length by omega]⟩
 ·rw [at_]at g
  rw [List.length_append,List.length_singleton]
  split at g
  ·cases g;omega
  ·have:=L.low x i g;omega
 ·rw [at_]at g1
  rw [at_]at g2
  split at g1
  ·split at g2
   ·omega
   ·cases g1
    exact absurd (L.low y _ g2) (Nat.lt_irrefl _)
  ·split at g2
   ·cases g2
    exact absurd (L.low x _ g1) (Nat.lt_irrefl _)
   ·exact L.uniq x y i g1 g2
 ·rw [at_]at g
  split at g
  ·cases g
   rw [List.getElem?_append_right (Nat.le_refl _),Nat.sub_self]at g'
   cases g'
   subst x
   exact⟨n,w2,fun m hm=>occ _ (w3 m hm)⟩
  ·have:=L.low x i g
   rw [List.getElem?_append_left this]at g'
   obtain⟨n',a1,a2⟩:=L.way x i h' g g'
   exact⟨n',a1,fun m hm=>occ _ (a2 m hm)⟩
theorem lay_all {M:Nat} (R:Round M):∀(l hs:List Int) (owner:Array (Option Nat)),Lay M hs owner->hs.length+l.length<=M+1->∃owner',(l.foldl (init:=some (owner,hs.length)) fun acc h=>do
   let(owner,k)<-acc
   let j<-layClean.free M owner (turns M) (bits h % (M+1)) (bits h)
   pure (owner.setIfInBounds j (some k),k+1))=some (owner',(hs++l).length)/\Lay M (hs++l) owner'
 | [],hs,owner,L,_=>⟨owner,by simp,by simpa using L⟩
 |h::l,hs,owner,L,hl=>by
  rw [List.length_cons]at hl
  obtain⟨j,hj,L'⟩:=L.step R (by omega) h
  obtain⟨o',e1,e2⟩:=lay_all R l (hs++[h]) _ L' (by rw [List.length_append,List.length_singleton];omega)
  refine⟨o',?_,by simpa using e2⟩
  rw [List.foldl_cons]
  have:(do
   let(owner,k)<-some (owner,hs.length)
   let j<-layClean.free M owner (turns M) (bits h % (M+1)) (bits h)
   pure (owner.setIfInBounds j (some k),k+1):Option (Array (Option Nat)×Nat))=some (owner.setIfInBounds j (some hs.length),hs.length+1):=by
   show(layClean.free M owner (turns M) (bits h % (M+1)) (bits h)).bind _=_
   rw [hj]
   rfl
  rw [this]
  rw [List.length_append,List.length_singleton]at e1
  rw [e1]
  simp
theorem layClean_some {M:Nat} (R:Round M) (hashes:Array Int) (hl:hashes.size<=M+1):∃owner,layClean M hashes=some owner/\Lay M hashes.toList owner:=by
 obtain⟨o',e1,e2⟩:=lay_all R hashes.toList [] _ (Lay.start M) (by simpa using hl)
 refine⟨o',?_,by simpa using e2⟩
 unfold layClean
 rw [<-Array.foldl_toList]
 have e1':=e1
 rw [List.length_nil]at e1'
 rw [e1']
 rfl
def liveOf (M:Nat) (owner:Array (Option Nat)):List (Nat×Nat):=(List.range (M+1)).filterMap fun j=>(owner.getD j none).map (j,·)
theorem mem_live {M:Nat} {owner:Array (Option Nat)} (hsz:owner.size=M+1) {j i:Nat}:(j,i)∈liveOf M owner↔owner[j]? =some (some i):=by
 unfold liveOf
 rw [List.mem_filterMap]
 constructor
 ·rintro⟨x,hx,e⟩
  obtain⟨y,hy,e2⟩:=Option.map_eq_some_iff.mp e
  cases e2
  have hs:j<owner.size:=by rw [hsz];exact List.mem_range.mp hx
  have hy':owner[j]=some i:=by simpa [Array.getD,hs]using hy
  rw [Array.getElem?_eq_getElem hs,hy']
 ·intro e
  obtain⟨hs,e2⟩:=Array.getElem?_eq_some_iff.mp e
  refine⟨j,List.mem_range.mpr (by omega),?_⟩
  have:owner.getD j none=some i:=by simp [Array.getD,hs,e2]
  rw [this]
  rfl
theorem live_rise (M:Nat) (owner:Array (Option Nat)):((liveOf M owner).map (·.1)).Pairwise (·<·):=by
 unfold liveOf
 rw [List.pairwise_map,List.pairwise_filterMap]
 refine(List.pairwise_lt_range (n:=M+1)).imp fun{a b} hab x hx y hy=>?_
 obtain⟨_,_,rfl⟩:=Option.map_eq_some_iff.mp hx
 obtain⟨_,_,rfl⟩:=Option.map_eq_some_iff.mp hy
 exact hab
theorem live_order {M:Nat} {hs:List Int} {owner:Array (Option Nat)} (L:Lay M hs owner):((liveOf M owner).map (·.2)).Perm (List.range hs.length):=by
 have nd:((liveOf M owner).map (·.2)).Nodup:=by
  rw [List.Nodup,List.pairwise_map]
  have h1:=live_rise M owner
  rw [List.pairwise_map]at h1
  refine h1.imp_of_mem fun{a b} ha hb hab z=>?_
  have g1:=(mem_live L.size).mp (show(a.1,a.2)∈_ from ha)
  have g2:=(mem_live L.size).mp (show(b.1,b.2)∈_ from hb)
  rw [z]at g1
  have:=L.uniq _ _ _ g1 g2
  omega
 refine(List.perm_ext_iff_of_nodup nd List.nodup_range).mpr fun i=>?_
 rw [List.mem_range,List.mem_map]
 constructor
 ·rintro⟨⟨j,i'⟩,hm,rfl⟩
  exact L.low j _ ((mem_live L.size).mp hm)
 ·intro hi
  obtain⟨j,hj⟩:=L.has i hi
  exact⟨(j,i),(mem_live L.size).mpr hj,rfl⟩
theorem adv_low (M:Nat) {p:Probe} (h:p.j+p.more<=M):(adv M p).j+(adv M p).more<=M:=by
 unfold adv
 split
 ·show p.j+1+(p.more-1)<=M;omega
 ·show(leap M p.i p.perturb).1+(runEnd M (leap M p.i p.perturb).1-(leap M p.i p.perturb).1)<=M
  have:(leap M p.i p.perturb).1<=M:=by
   show(p.i*5+1+p.perturb / 32) % (M+1)<=M
   have:=Nat.mod_lt (p.i*5+1+p.perturb / 32) (show 0<M+1 by omega)
   omega
  unfold runEnd
  split<;>omega
theorem advs_low (M:Nat):∀(n:Nat) {p:Probe},p.j+p.more<=M->(advs M n p).j<=M
 |0,_,h=>by rw [advs];omega
 |n+1,_,h=>by rw [advs];exact advs_low M n (adv_low M h)
theorem st_low (M:Nat) (h:Int):(st M h).j+(st M h).more<=M:=by
 show bits h % (M+1)+(runEnd M (bits h % (M+1))-bits h % (M+1))<=M
 have:=Nat.mod_lt (bits h) (show 0<M+1 by omega)
 unfold runEnd
 split<;>omega
theorem laid_some {M:Nat} (R:Round M) (finger moves:Nat) (led plain:Bool) (hashes:Array Int) (hl:hashes.size<=M):
  ∃t order,laid M finger moves led plain hashes=some (t,order)/\t.mask=M/\t.led=led/\t.plain=plain/\t.moves=moves/\t.Good/\t.place.size=hashes.size/\order.toList.Perm (List.range hashes.size)/\
   ∀(r j i:Nat) (h:Int),t.place[r]? =some j->order[r]? =some i->hashes[i]? =some h->OnWay t h j:=by
 obtain⟨owner,e1,L⟩:=layClean_some R hashes (by omega)
 have Pm:=live_order L
 have Ps:(liveOf M owner).length=hashes.size:=by
  have:=Pm.length_eq
  rw [List.length_map,List.length_range,Array.length_toList]at this
  exact this
 refine⟨{mask:=M,place:=((liveOf M owner).map (·.1)).toArray,dummies:= #[],finger,led,moves,plain},((liveOf M owner).map (·.2)).toArray,?_,rfl,rfl,rfl,rfl,?_,?_,?_,?_⟩
 ·unfold laid
  rw [e1]
  rfl
 ·refine⟨rfl,rise_iff.mpr (live_rise M owner),fun j hj=>?_,?_,R⟩
  ·obtain⟨⟨j',i⟩,hm,rfl⟩:=List.mem_map.mp hj
   have:=(Array.getElem?_eq_some_iff.mp ((mem_live L.size).mp hm)).1
   show j'<=M
   rw [L.size]at this
   omega
  ·show((liveOf M owner).map (·.1)).toArray.size<=M
   rw [List.size_toArray,List.length_map,Ps]
   exact hl
 ·show((liveOf M owner).map (·.1)).toArray.size=_
  rw [List.size_toArray,List.length_map,Ps]
 ·show((liveOf M owner).map (·.2)).Perm _
  rw [Array.length_toList]at Pm
  exact Pm
 ·intro r j i h h1 h2 h3
  have g1:((liveOf M owner).map (·.1))[r]? =some j:=by simpa using h1
  have g2:((liveOf M owner).map (·.2))[r]? =some i:=by simpa using h2
  rw [List.getElem?_map]at g1 g2
  obtain⟨x,hx,rfl⟩:=Option.map_eq_some_iff.mp g1
  rw [hx]at g2
  cases g2
  have hm:=(mem_live L.size).mp (show(x.1,x.2)∈_ from List.mem_of_getElem? hx)
  obtain⟨n,w1,w2⟩:=L.way x.1 x.2 h hm (by rw [Array.getElem?_toList];exact h3)
  refine⟨n,w1,fun m hm' z=>w2 m hm' ?_⟩
  have z1:=(slot_empty_iff (t:={mask:=M,place:=((liveOf M owner).map (·.1)).toArray,dummies:= #[],finger,led,moves,plain}) (rise_iff.mpr (live_rise M owner)) rfl).mp z
  have low:(advs M m (st M h)).j<=M:=advs_low M m (st_low M h)
  have hs:(advs M m (st M h)).j<owner.size:=by rw [L.size];omega
  cases g:owner[(advs M m (st M h)).j]with
  |none=>rw [Array.getElem?_eq_getElem hs,g]
  |some i'=>
   have g':owner[(advs M m (st M h)).j]? =some (some i'):=by rw [Array.getElem?_eq_getElem hs,g]
   exact absurd (List.mem_map.mpr ⟨((advs M m (st M h)).j,i'),(mem_live L.size).mpr g',rfl⟩) z1
end SetTable
end PySem
namespace PySem
open Sem (wp)
theorem filterMap_get {α β:Type} {f:α->Option β}:∀{l:List α},(∀i∈l,∃y,f i=some y)->∀r:Nat,(l.filterMap f)[r]? =l[r]?.bind f
 | [],_,r=>by simp
 |a::l,h,r=>by
  obtain⟨y,hy⟩:=h a (List.mem_cons_self ..)
  rw [List.filterMap_cons_some hy]
  cases r with
  |zero=>simp [hy]
  |succ r=>
   rw [List.getElem?_cons_succ,List.getElem?_cons_succ]
   exact filterMap_get (fun i hi=>h i (List.mem_cons_of_mem _ hi)) r
theorem range_filterMap {α:Type} (l:List α):(List.range l.length).filterMap (fun i:Nat=>l[i]?)=l:=by
 apply List.ext_getElem?
 intro r
 rw [filterMap_get (fun i hi=>⟨l[i]'(List.mem_range.mp hi),List.getElem?_eq_getElem (List.mem_range.mp hi)⟩)]
 by_cases h:r<l.length
 ·rw [List.getElem?_range h];rfl
 ·rw [List.getElem?_eq_none (by rw [List.length_range];omega),List.getElem?_eq_none (by omega)];rfl
section
variable {prog:Program} {w:World} {K:Type} [DecidableEq K] {knd:HeapKind prog w K} {A:Around} {E:Value->Shared->Prop} {s:Shared} {a b:Addr} {o:Obj} {es:Array (Int×Value)} {ep:Nat} {t:SetTable} {xs:List (K×Addr)} {k:K}
theorem SetAt.relaid (S:SetAt knd s a o es ep t xs) (hkeep:∀h',Heap.SameBut a s.heap h'->∀x c,knd.is s.heap x c->knd.is h' x c) {wanted:Nat} (R:SetTable.Round (SetTable.sizeAbove wanted-1)) (hl:es.size<=SetTable.sizeAbove wanted-1):
  ∃t' order,t.relaid (es.map (·.1)) wanted=some (t',order)/\(order.filterMap (es[·]?)).size=es.size/\t'.mask=SetTable.sizeAbove wanted-1/\t'.led=t.led/\t'.plain=t.plain/\∃xs':List (K×Addr),xs'.Perm xs/\
   SetAt knd {s with heap:=s.heap.update a (Obj.putSet (order.filterMap (es[·]?)) t')} a (Obj.putSet (order.filterMap (es[·]?)) t' o) (order.filterMap (es[·]?)) (ep+1) t' xs':=by
 obtain⟨t',order,e1,e2,e3,e4,e5,G,sz,pm,wy⟩:=SetTable.laid_some R t.finger (t.movedTo (SetTable.sizeAbove wanted-1)) t.led t.plain (es.map (·.1)) (by rw [Array.size_map];exact hl)
 rw [Array.size_map]at sz pm
 have hin:∀i∈order.toList,∃y,xs[i]? =some y:=fun i hi=>by
  have:=List.mem_range.mp (pm.mem_iff.mp hi)
  rw [S.len]at this
  exact⟨xs[i],List.getElem?_eq_getElem this⟩
 have el:(order.filterMap (es[·]?)).toList=(order.toList.filterMap fun i:Nat=>xs[i]?).map fun x=>(knd.hash x.1,Value.ref x.2):=by
  rw [Array.toList_filterMap,List.map_filterMap]
  congr 1
  funext i
  exact S.entry i
 have px:(order.toList.filterMap fun i:Nat=>xs[i]?).Perm xs:=by
  have:=pm.filterMap fun i:Nat=>xs[i]?
  rw [S.len,range_filterMap]at this
  exact this
 have esz:(order.filterMap (es[·]?)).size=es.size:=by rw [<-Array.length_toList,el,List.length_map,px.length_eq,S.len]
 have hnf:(Obj.putSet (order.filterMap (es[·]?)) t' o).isFreed=false:=by
  rw [putSet_of _ _ S.hd]
  rfl
 refine⟨t',order,e1,esz,e2,e3,e4,_,px,⟨Heap.get?_update_self _ S.ho hnf,ExactSet_put _ _ S.hd S.hex,by rw [putSet_of _ _ S.hd],el,G,by rw [sz,esz],fun x hx=>hkeep _ (Heap.SameBut.update ..) _ _ (S.keys x (px.mem_iff.mp hx)),?_,fun r j x h1 h2=>?_⟩⟩
 ·rw [(px.map (·.1)).nodup_iff];exact S.nd
 ·rw [filterMap_get hin]at h2
  obtain⟨i,hi,hx⟩:=Option.bind_eq_some_iff.mp h2
  refine wy r j i _ h1 (by rw [<-Array.getElem?_toList];exact hi) ?_
  rw [Array.getElem?_map,S.entry i,hx]
  rfl
theorem wpAny_relay_heap (S:SetAt knd s a o es ep t xs) (hkeep:∀h',Heap.SameBut a s.heap h'->∀x c,knd.is s.heap x c->knd.is h' x c) {wanted:Nat} (R:SetTable.Round (SetTable.sizeAbove wanted-1)) (hl:es.size<=SetTable.sizeAbove wanted-1) (hsz:SetTable.sizeAbove wanted<=sizeLine) {Q:Unit->Shared->Prop}
  (h:∀(h':Heap) (o':Obj) (es':Array (Int×Value)) (t':SetTable) (xs':List (K×Addr)),Heap.SameBut a s.heap h'->xs'.Perm xs->t'.mask=SetTable.sizeAbove wanted-1->t'.led=t.led->t'.plain=t.plain->SetAt knd {s with heap:=h'} a o' es' (ep+1) t' xs'->Q () {s with heap:=h'}):
  wpAny (model prog w) A (setRelay a wanted) Q E s:=by
 obtain⟨t',order,e1,e2,e3,e4,e5,xs',px,S'⟩:=S.relaid hkeep R hl
 unfold setRelay
 refine wpAny_bind (wpAny_setState_of S.ho S.hd S.fits ?_)
 dsimp only
 rw [if_neg (by omega)]
 refine wpAny_bind ?_
 rw [e1]
 show wpAny _ _ (if(order.filterMap (es[·]?)).size != es.size then _ else pure (order.filterMap (es[·]?),t')) _ _ _
 rw [if_neg (by rw [e2];simp)]
 refine wpAny_pure ?_
 refine wpAny_storeSet_of S.ho S.hd (h _ _ _ _ xs' (Heap.SameBut.update ..) px e3 e4 e5 S') ?_
 rw [e2]
 omega
end
end PySem
namespace PySem
open Sem (wp)
namespace SetTable
variable {t:SetTable}
theorem first_empty (G:t.Good) (h:Int):∃N,N<10*turns t.mask/\t.slot (advs t.mask N (t.probeStart h)).j= .empty/\∀m,m<N->t.slot (advs t.mask m (t.probeStart h)).j≠ .empty:=by
 obtain⟨N,h1,h2⟩:=empty_near G.round G.dum G.room (t.probeStart h) (start_ok t h).1 (start_ok t h).2
 induction N using Nat.strongRecOn with
 |_ N ih=>
  by_cases hx:∃m,m<N/\t.slot (advs t.mask m (t.probeStart h)).j= .empty
  ·obtain⟨m,hm,e⟩:=hx
   exact ih m hm (by omega) e
  ·exact⟨N,h1,h2,fun m hm e=>hx ⟨m,hm,e⟩⟩
def Small (t:SetTable):Prop:=(t.mask=7/\t.place.size<=4)∨(t.mask=31/\t.place.size<=18)
theorem Small.odd (S:t.Small):t.mask % 2=1:=by rcases S with ⟨e,_⟩|⟨e,_⟩<;>rw [e]
end SetTable
section
variable {prog:Program} {w:World} {K:Type} [DecidableEq K] (knd:HeapKind prog w K)
def SetIs (s:Shared) (a:Addr) (l:Bool) (xs:List (K×Addr)):Prop:=∃o es ep t,SetAt knd s a o es ep t xs/\t.Small/\t.plain=true/\t.led=l
variable {knd} {A:Around} {E:Value->Shared->Prop} {s:Shared} {a b:Addr} {o:Obj} {es:Array (Int×Value)} {ep:Nat} {t:SetTable} {xs:List (K×Addr)} {k:K} {l:Bool}
theorem SetIs.at (D:SetKd knd) {s':Shared} (S:SetIs knd s a l xs) (h1:∀o,s.heap.get? a=some o->s'.heap.get? a=some o) (h2:∀b o,o.cls= .type "tuple"->s.heap.get? b=some o->s'.heap.get? b=some o):SetIs knd s' a l xs:=by
 obtain⟨o,es,ep,t,S,r⟩:=S
 exact⟨o,es,ep,t,⟨h1 o S.ho,S.hex,S.hd,S.he,S.good,S.size,fun x hx=>D.mono (S.keys x hx) h2,S.nd,S.way⟩,r⟩
theorem byScan_ref (x:Addr) (es:Array (Int×Value)):byScan (.ref x) es=false:=rfl
theorem wpAny_setAddHashed_heap (D:SetKd knd) (S:SetIs knd s a l xs) (hn:xs.length<18) (hu:knd.room A) (hkey:knd.is s.heap k b) {Q:Bool->Shared->Prop}
  (hold:(∃x∈xs,x.1=k)->Q false s)
  (hnew:(∀x∈xs,x.1≠k)->∀h' xs',Heap.SameBut a s.heap h'->xs'.Perm ((k,b)::xs)->SetIs knd {s with heap:=h'} a l xs'->Q true {s with heap:=h'}):
  wpAny (model prog w) A (setAddHashed a (.ref b) (knd.hash k)) Q E s:=by
 obtain⟨o,es,ep,t,S,sm,pl,rfl⟩:=S
 unfold setAddHashed
 refine wpAny_holding ?_
 unfold setAddHashedIn
 refine wpAny_bind (wpAny_setState_of S.ho S.hd S.fits ?_)
 dsimp only
 rw [byScan_ref]
 simp only [Bool.false_eq_true,if_false]
 obtain⟨N,n1,n2,n3⟩:=SetTable.first_empty S.good (knd.hash k)
 have bigm:10*SetTable.turns t.mask<=100000:=by
  unfold SetTable.turns
  rcases sm with ⟨e,_⟩|⟨e,_⟩<;>rw [e]<;>decide
 refine wpAny_bind (wpAny_search_heap S sm.odd D hu hkey n2 n1 n3 (fun h=>?_) (fun h=>?_) 100000 0 none rfl (Nat.zero_le _) (by omega) fun m hm=>absurd hm (Nat.not_lt_zero m))
 ·exact wpAny_pure (hold h)
 ·dsimp only
  refine wpAny_bind (wpAny_setState_of S.ho S.hd S.fits ?_)
  dsimp only
  have lowj:(SetTable.advs t.mask N (t.probeStart (knd.hash k))).j<=t.mask:=SetTable.advs_low _ _ (SetTable.st_low _ _)
  have hsz:t.place.size+1<=t.mask:=by rcases sm with ⟨e,h⟩|⟨e,h⟩<;>omega
  have S':=S.add hkey h (fun h' sb x c hx=>D.keep hx S.ho S.hex sb) n2 n3 lowj hsz rfl rfl
  have hb:=(SetTable.below_spec S.good.rise (SetTable.advs t.mask N (t.probeStart (knd.hash k))).j).1
  have psz:(t.put (SetTable.advs t.mask N (t.probeStart (knd.hash k))).j).1.place.size=t.place.size+1:=by
   rw [SetTable.put_eq S.good.dum]
   exact SetTable.insert_size _ _ hb
  have pmk:(t.put (SetTable.advs t.mask N (t.probeStart (knd.hash k))).j).1.mask=t.mask:=by rw [SetTable.put_eq S.good.dum]
  have ppl:(t.put (SetTable.advs t.mask N (t.probeStart (knd.hash k))).j).1.plain=true:=by rw [SetTable.put_eq S.good.dum];exact pl
  have pld:(t.put (SetTable.advs t.mask N (t.probeStart (knd.hash k))).j).1.led=t.led:=by rw [SetTable.put_eq S.good.dum]
  have p2:(t.put (SetTable.advs t.mask N (t.probeStart (knd.hash k))).j).2=SetTable.below t.place (SetTable.advs t.mask N (t.probeStart (knd.hash k))).j:=by rw [SetTable.put_eq S.good.dum]
  have pm:=(List.perm_middle (a:=(k,b)) (l₁:=xs.take (SetTable.below t.place (SetTable.advs t.mask N (t.probeStart (knd.hash k))).j)) (l₂:=xs.drop (SetTable.below t.place (SetTable.advs t.mask N (t.probeStart (knd.hash k))).j)))
  rw [List.take_append_drop]at pm
  have fl:(t.put (SetTable.advs t.mask N (t.probeStart (knd.hash k))).j).1.fill=t.place.size+1:=by
   unfold SetTable.fill
   rw [psz,S'.good.dum]
   rfl
  rw [ppl]
  simp only [if_true]
  refine wpAny_bind (D.byValue hkey ?_)
  simp only [if_true,p2]
  have els:=S'.len
  have eln:=S.len
  have hxl:=pm.length_eq
  rw [List.length_cons]at hxl
  refine wpAny_bind (wpAny_storeSet_of S.ho S.hd ?_ (by rw [els,hxl];unfold sizeLine;omega))
  by_cases full:(t.put (SetTable.advs t.mask N (t.probeStart (knd.hash k))).j).1.tooFull=true
  ·rw [full]
   simp only [Bool.not_false,Bool.and_self,if_true]
   have fd:t.mask=7/\t.place.size=4:=by
    unfold SetTable.tooFull at full
    rw [fl,pmk]at full
    have full:=of_decide_eq_true full
    have:=S.size
    rcases sm with ⟨e,h⟩|⟨e,h⟩<;>rw [e]at full<;>omega
   have e5:es.size=4:=by rw [<-S.size];exact fd.2
   have eg:SetTable.sizeAbove (SetTable.grown (es.size+1))=32:=by rw [e5];decide
   refine wpAny_bind (wpAny_relay_heap S' (fun h' sb x c hx=>D.keep hx S'.ho S'.hex sb) (by rw [eg];exact SetTable.round31) (by rw [els,hxl,eg, <-eln,e5];decide) (by rw [eg];unfold sizeLine;omega) fun h' o' es' t' xs' sb px e1 e2 e3 S2=>?_)
   refine wpAny_pure ?_
   refine hnew h h' xs' (Heap.SameBut.trans (Heap.SameBut.update ..) sb) (px.trans pm) ⟨o',es',_,t',S2,.inr ⟨by rw [e1,eg],?_⟩,by rw [e3];exact ppl,by rw [e2];exact pld⟩
   rw [S2.size,S2.len,px.length_eq,hxl, <-eln,e5]
   decide
  ·have full:=Bool.eq_false_iff.mpr full
   rw [full]
   simp only [Bool.and_false,Bool.false_eq_true,if_false]
   refine wpAny_pure (hnew h _ _ (Heap.SameBut.update ..) pm ⟨_,_,_,_,S',?_,ppl,pld⟩)
   unfold SetTable.tooFull at full
   rw [fl,pmk]at full
   have full:=of_decide_eq_false full
   have sz:=S.size
   unfold SetTable.Small
   rw [pmk,psz]
   rcases sm with ⟨e,h⟩|⟨e,h⟩
   ·left
    rw [e]at full
    exact⟨e,by omega⟩
   ·right
    exact⟨e,by omega⟩
end
end PySem
namespace PySem
open Sem (wp)
theorem hashByValue_int (n:Nat) (i:Int) (tk):hashByValue n (.int i tk)=pure true:=by cases n<;>rfl
theorem ofAClass_val (n:Nat) {v:Value} (h:carriedByValue v=true):ofAClassStatement n v=pure false:=by
 cases v with
 |ref a=>cases h
 |_=>first|rfl|(unfold ofAClassStatement;rfl)
section
variable {prog:Program} {w:World} {K:Type} [DecidableEq K] {knd:KeyKind prog w K} {A:Around} {E:Value->Shared->Prop} {s:Shared}
theorem ItemsAre.ints (hv:∀k v,knd.is k v=true->∃i tk,v=Value.int i tk) {x:List K} {vs:List Value} (hx:ItemsAre knd x vs):∀v∈vs,∃i tk,v=Value.int i tk:=by
 induction hx with
 |nil=>intro v hv;simp at hv
 |@cons k v' ks vs h1 _ ih=>
  intro v hm
  rcases List.mem_cons.mp hm with rfl|hm
  ·exact hv _ _ h1
  ·exact ih v hm
theorem wpAny_hashByValue_tuple (hv:∀k v,knd.is k v=true->∃i tk,v=Value.int i tk) {n:Nat} {ks:List K} {a:Addr} {Q:Bool->Shared->Prop} (hk:IsTupleKey knd s.heap ks a) (h:Q true s):wpAny (model prog w) A (hashByValue (n+1) (.ref a)) Q E s:=by
 have hT:=hk.typeIs
 obtain⟨o,items,m,ho,_,hd,hi⟩:=hk
 unfold hashByValue
 refine wpAny_bind (wpAny_specialOf hT F.slot_tuple_hash.lookup ?_)
 show wpAny _ _ (seqItems? (.ref a)>>=_) _ _ s
 refine wpAny_bind (wpAny_seqItems ho hd ?_)
 refine wpAny_bind ?_
 show wpAny _ _ (forIn items _ _) _ _ s
 rw [<-Array.forIn_toList]
 refine wpAny_forIn_list _ (fun rest r s'=>r.1=none/\s'=s/\∀v∈rest,∃i tk,v=Value.int i tk) _ ?_ ?_ _ _ ⟨rfl,rfl,hi.ints hv⟩
 ·rintro v rest r s' ⟨hr,rfl,hall⟩
  obtain⟨i,tk,rfl⟩:=hall v List.mem_cons_self
  rw [hashByValue_int]
  refine wpAny_bind (wpAny_pure ?_)
  simp only [Bool.not_true,Bool.false_eq_true,if_false]
  exact wpAny_pure ⟨rfl,rfl,fun u hu'=>hall u (List.mem_cons_of_mem _ hu')⟩
 ·rintro⟨r1,r2⟩ s' ⟨hr,rfl,_⟩
  simp only at hr
  subst hr
  exact wpAny_pure h
theorem wpAny_hashByValue_pair (hv:∀k v,knd.is k v=true->∃i tk,v=Value.int i tk) {x:K×List K} {a:Addr} {Q:Bool->Shared->Prop} (hk:IsPairKey knd s.heap x a) (h:Q true s):wpAny (model prog w) A (hashByValue 8 (.ref a)) Q E s:=by
 have hT:=hk.typeIs
 obtain⟨o,v,b,m,ho,_,hd,h1,h2⟩:=hk
 unfold hashByValue
 refine wpAny_bind (wpAny_specialOf hT F.slot_tuple_hash.lookup ?_)
 show wpAny _ _ (seqItems? (.ref a)>>=_) _ _ s
 refine wpAny_bind (wpAny_seqItems ho hd ?_)
 refine wpAny_bind ?_
 show wpAny _ _ (forIn _ _ _) _ _ s
 rw [<-Array.forIn_toList]
 refine wpAny_forIn_list _ (fun rest r s'=>r.1=none/\s'=s/\∀u∈rest,u=v∨u= .ref b) _ ?_ ?_ _ _ ⟨rfl,rfl,fun u hu=>by simpa using hu⟩
 ·rintro u rest r s' ⟨hr,rfl,hall⟩
  rcases hall u List.mem_cons_self with rfl|rfl
  ·obtain⟨i,tk,rfl⟩:=hv _ _ h1
   rw [hashByValue_int]
   refine wpAny_bind (wpAny_pure ?_)
   simp only [Bool.not_true,Bool.false_eq_true,if_false]
   exact wpAny_pure ⟨rfl,rfl,fun u hu'=>hall u (List.mem_cons_of_mem _ hu')⟩
  ·refine wpAny_bind (wpAny_hashByValue_tuple hv h2 ?_)
   simp only [Bool.not_true,Bool.false_eq_true,if_false]
   exact wpAny_pure ⟨rfl,rfl,fun u hu'=>hall u (List.mem_cons_of_mem _ hu')⟩
 ·rintro⟨r1,r2⟩ s' ⟨hr,rfl,_⟩
  simp only at hr
  subst hr
  exact wpAny_pure h
theorem wpAny_ofAClass_tuple {n:Nat} {ks:List K} {a:Addr} {Q:Bool->Shared->Prop} (hk:IsTupleKey knd s.heap ks a) (h:Q false s):wpAny (model prog w) A (ofAClassStatement (n+1) (.ref a)) Q E s:=by
 have hT:=hk.typeIs
 obtain⟨o,items,m,ho,_,hd,hi⟩:=hk
 unfold ofAClassStatement
 refine wpAny_bind (wpAny_typeOf hT ?_)
 dsimp only
 simp only [beq_self_eq_true,if_true]
 refine wpAny_bind (wpAny_pure ?_)
 simp only [Bool.not_true,Bool.false_eq_true,if_false]
 refine wpAny_bind (wpAny_seqItems ho hd ?_)
 dsimp only
 refine wpAny_bind ?_
 rw [<-Array.forIn_toList]
 refine wpAny_forIn_list _ (fun rest r s'=>r.1=none/\s'=s/\∀v∈rest,carriedByValue v=true) _ ?_ ?_ _ _ ⟨rfl,rfl,hi.byValue⟩
 ·rintro v rest r s' ⟨hr,rfl,hall⟩
  rw [ofAClass_val _ (hall v List.mem_cons_self)]
  refine wpAny_bind (wpAny_pure ?_)
  simp only [Bool.false_eq_true,if_false]
  exact wpAny_pure ⟨rfl,rfl,fun u hu'=>hall u (List.mem_cons_of_mem _ hu')⟩
 ·rintro⟨r1,r2⟩ s' ⟨hr,rfl,_⟩
  simp only at hr
  subst hr
  exact wpAny_pure h
theorem wpAny_ofAClass_pair {x:K×List K} {a:Addr} {Q:Bool->Shared->Prop} (hk:IsPairKey knd s.heap x a) (h:Q false s):wpAny (model prog w) A (ofAClassStatement 8 (.ref a)) Q E s:=by
 have hT:=hk.typeIs
 obtain⟨o,v,b,m,ho,_,hd,h1,h2⟩:=hk
 unfold ofAClassStatement
 refine wpAny_bind (wpAny_typeOf hT ?_)
 dsimp only
 simp only [beq_self_eq_true,if_true]
 refine wpAny_bind (wpAny_pure ?_)
 simp only [Bool.not_true,Bool.false_eq_true,if_false]
 refine wpAny_bind (wpAny_seqItems ho hd ?_)
 dsimp only
 refine wpAny_bind ?_
 rw [<-Array.forIn_toList]
 refine wpAny_forIn_list _ (fun rest r s'=>r.1=none/\s'=s/\∀u∈rest,u=v∨u= .ref b) _ ?_ ?_ _ _ ⟨rfl,rfl,fun u hu=>by simpa using hu⟩
 ·rintro u rest r s' ⟨hr,rfl,hall⟩
  rcases hall u List.mem_cons_self with rfl|rfl
  ·rw [ofAClass_val _ (knd.byValue _ _ h1)]
   refine wpAny_bind (wpAny_pure ?_)
   simp only [Bool.false_eq_true,if_false]
   exact wpAny_pure ⟨rfl,rfl,fun u hu'=>hall u (List.mem_cons_of_mem _ hu')⟩
  ·refine wpAny_bind (wpAny_ofAClass_tuple h2 ?_)
   simp only [Bool.false_eq_true,if_false]
   exact wpAny_pure ⟨rfl,rfl,fun u hu'=>hall u (List.mem_cons_of_mem _ hu')⟩
 ·rintro⟨r1,r2⟩ s' ⟨hr,rfl,_⟩
  simp only at hr
  subst hr
  exact wpAny_pure h
theorem IsTupleKey.monoS {h h':Heap} {ks:List K} {a:Addr} (x:IsTupleKey knd h ks a) (hs:∀b o,o.cls= .type "tuple"->h.get? b=some o->h'.get? b=some o):IsTupleKey knd h' ks a:=by
 obtain⟨o',items,n,ho',hc,hd',hi⟩:=x
 exact⟨o',items,n,hs _ _ hc ho',hc,hd',hi⟩
theorem IsPairKey.monoS {h h':Heap} {x:K×List K} {a:Addr} (hx:IsPairKey knd h x a) (hs:∀b o,o.cls= .type "tuple"->h.get? b=some o->h'.get? b=some o):IsPairKey knd h' x a:=by
 obtain⟨o',v,b,n,ho',hc,hd',h1,h2⟩:=hx
 exact⟨o',v,b,n,hs _ _ hc ho',hc,hd',h1,h2.monoS hs⟩
theorem pairKd (hv:∀k v,knd.is k v=true->∃i tk,v=Value.int i tk):SetKd (pairKind knd) where
 mono:=fun x hs=>IsPairKey.monoS x hs
 byValue:=fun x h=>wpAny_hashByValue_pair hv x h
 plain:=fun x h=>wpAny_ofAClass_pair x h
end
end PySem
namespace PySem
open Sem (wp)
namespace F
theorem slot_set_iterator_next:Slot "set_iterator" "__next__" "set_iterator.__next__":=
 .of (owner:="set_iterator") (n:="__next__") (by rw [typeLookup_type,builtinLookup_eq_fast];kernel_rfl) (by decide+kernel) (by decide+kernel) (by decide+kernel)
  (by first|exact .inl (by decide+kernel)|exact .inr (by decide+kernel)) (by rw [isSubtype_type];kernel_rfl)
theorem slot_set_iterator_iter:Slot "set_iterator" "__iter__" "set_iterator.__iter__":=
 .of (owner:="set_iterator") (n:="__iter__") (by rw [typeLookup_type,builtinLookup_eq_fast];kernel_rfl) (by decide+kernel) (by decide+kernel) (by decide+kernel)
  (by first|exact .inl (by decide+kernel)|exact .inr (by decide+kernel)) (by rw [isSubtype_type];kernel_rfl)
theorem entry_set_iterator_next:entryFor table "set_iterator.__next__"=some Builtin.«set_iterator.__next__»:=entryFor_of_tree (by kernel_rfl)
theorem entry_set_iterator_iter:entryFor table "set_iterator.__iter__"=some Builtin.«dict_keyiterator.__iter__»:=
 entryFor_alias (id':="dict_keyiterator.__iter__") (by kernel_rfl) (by first|rfl|decide+kernel) (by decide+kernel) (by kernel_rfl)
theorem entry_set_iter:entryFor table "set.__iter__"=some Builtin.«frozenset.__iter__»:=
 entryFor_alias (id':="frozenset.__iter__") (by kernel_rfl) (by first|rfl|decide+kernel) (by decide+kernel) (by kernel_rfl)
theorem owner_set_iterator:Manifest.owners.lookup (String.ofList ['r','o','t','a','r','e','t','i','_','t','e','s'].reverse)=some Manifest.sig_set_iterator:=by kernel_rfl
theorem args_set_iterator_next_1 (a:Value):argsOk "set_iterator.__next__" ⟨[a],[]⟩:=by
 unfold argsOk;rw [signature?_of (id:="set_iterator.__next__") (n:=['_','_','t','x','e','n','_','_']) (o:=['r','o','t','a','r','e','t','i','_','t','e','s']) (by kernel_rfl) owner_set_iterator];kernel_rfl
theorem args_set_iterator_iter_1 (a:Value):argsOk "set_iterator.__iter__" ⟨[a],[]⟩:=by
 unfold argsOk;rw [signature?_of (id:="set_iterator.__iter__") (n:=['_','_','r','e','t','i','_','_']) (o:=['r','o','t','a','r','e','t','i','_','t','e','s']) (by kernel_rfl) owner_set_iterator];kernel_rfl
end F
theorem getElem_cons_eraseIdx_perm' {α:Type}:∀{l:List α} {n:Nat} (h:n<l.length),(l[n]::l.eraseIdx n).Perm l
 | [],_,h=>absurd h (Nat.not_lt_zero _)
 |a::l,0,_=>List.Perm.refl _
 |a::l,n+1,h=>by
  have h':n<l.length:=Nat.lt_of_succ_lt_succ h
  show(l[n]::a::l.eraseIdx n).Perm (a::l)
  exact(List.Perm.swap _ _ _).trans ((getElem_cons_eraseIdx_perm' (Nat.lt_of_succ_lt_succ h)).cons a)
theorem pickOrder_perm {α:Type} (next:Nat->Nat) (xs:Array α):(pickOrder next xs).toList.Perm xs.toList:=by
 have go:∀(fuel k:Nat) (left:List α) (out:Array α),left.length=fuel->(pickOrder.go next fuel k left out).toList.Perm (out.toList++left):=by
  intro fuel
  induction fuel with
  |zero=>
   intro k left out h
   have:left=[]:=List.length_eq_zero_iff.mp h
   subst this
   simp [pickOrder.go]
  |succ fuel ih=>
   intro k left out h
   have hlt:next k % left.length<left.length:=Nat.mod_lt _ (by omega)
   rw [pickOrder.go,List.getElem?_eq_getElem hlt]
   dsimp only
   refine(ih _ _ _ (by rw [List.length_eraseIdx_of_lt hlt];omega)).trans ?_
   rw [Array.toList_push,List.append_assoc]
   refine List.Perm.append_left _ ?_
   exact getElem_cons_eraseIdx_perm' hlt
 exact go xs.size 0 xs.toList #[] (by simp)
section
variable {prog:Program} {w:World} {A:Around} {E:Value->Shared->Prop} {s:Shared}
def setOrd (w:World) (S:Addr) (es:Array (Int×Value)) (ep:Nat):List Value:=if w.params.followText "set-order"=true then(pickOrder (w.params.setOrder S ep) es).toList.map (·.2)else es.toList.map (·.2)
theorem setOrd_perm (w:World) (S:Addr) (es:Array (Int×Value)) (ep:Nat):(setOrd w S es ep).Perm (es.toList.map (·.2)):=by
 unfold setOrd
 split
 ·exact(pickOrder_perm _ _).map _
 ·exact List.Perm.refl _
def SlotOk (w:World) (t:SetTable) (slot i:Nat):Prop:=w.params.followText "set-order"=true∨SetTable.below t.place slot=i
theorem below_next {xs:Array Nat} (R:SetTable.Rise xs) {i:Nat} (h:i<xs.size):SetTable.below xs (xs.getD i 0+1)=i+1:=by
 obtain⟨h1,h2,h3⟩:=SetTable.below_spec R (xs.getD i 0+1)
 rcases Nat.lt_trichotomy (SetTable.below xs (xs.getD i 0+1)) (i+1)with z|z|z
 ·have:=h3 i (by omega) h
  omega
 ·exact z
 ·have:=h2 (i+1) z
  have:=R i (i+1) (by omega) (by omega)
  omega
theorem wpAny_setNext {S:Addr} {o:Obj} {es:Array (Int×Value)} {ep:Nat} {t:SetTable} {slot i:Nat} {Q:Option (Value×Nat)->Shared->Prop} (ho:s.heap.get? S=some o) (hd:o.data= .set es ep t) (hf:t.fits es.size=true) (hr:SetTable.Rise t.place) (hpl:t.plain=true) (hl:t.led= !w.params.followText "set-order")
  (hs:SlotOk w t slot i) (h1:∀v slot',(setOrd w S es ep)[i]? =some v->SlotOk w t slot' (i+1)->Q (some (v,slot')) s) (h2:es.size<=i->Q none s):wpAny (model prog w) A (setNext S slot i ep) Q E s:=by
 have psz:t.place.size=es.size:=by
  simp only [SetTable.fits,Bool.and_eq_true,beq_iff_eq,decide_eq_true_eq]at hf
  exact hf.1
 unfold setNext setsByText
 refine wpAny_bind (wpAny_setState_of ho hd hf ?_)
 dsimp only
 refine wpAny_bind (wpAny_bind (wpAny_askSetting (wpAny_pure ?_)))
 dsimp only [model]
 have olen:(setOrd w S es ep).length=es.size:=by rw [(setOrd_perm w S es ep).length_eq,List.length_map,Array.length_toList]
 cases hb:w.params.followText "set-order"
 ·simp only [Bool.false_eq_true,if_false]
  have hs:SetTable.below t.place slot=i:=by
   rcases hs with z|z
   ·rw [hb]at z;cases z
   ·exact z
  show wpAny _ _ (if(!t.plain && decide (es.size>1))=true then _ else _) _ _ _
  rw [hpl]
  simp only [Bool.not_true,Bool.false_and,Bool.false_eq_true,if_false]
  show wpAny _ _ ((if(!t.led && !es.isEmpty)=true then _ else _)>>=_) _ _ _
  rw [hl,hb]
  simp only [Bool.not_false,Bool.not_true,Bool.false_and,Bool.false_eq_true,if_false]
  refine wpAny_bind (wpAny_pure ?_)
  rw [hs]
  have eo:(setOrd w S es ep)[i]? =(es[i]?).map (·.2):=by
   unfold setOrd
   rw [hb]
   simp
  by_cases hi:i<es.size
  ·have hp:i<t.place.size:=by omega
   rw [Array.getElem?_eq_getElem hi,Array.getElem?_eq_getElem hp]
   refine wpAny_pure (h1 _ _ (by rw [eo,Array.getElem?_eq_getElem hi];rfl) (.inr ?_))
   have:=below_next hr hp
   simpa [Array.getD,hp]using this
  ·rw [Array.getElem?_eq_none (by omega)]
   exact wpAny_pure (h2 (by omega))
 ·simp only [if_true]
  rw [if_neg (by simp)]
  unfold setWalk setsByText
  refine wpAny_bind (wpAny_bind (wpAny_setState_of ho hd hf ?_))
  dsimp only
  refine wpAny_bind (wpAny_bind (wpAny_askSetting (wpAny_pure ?_)))
  dsimp only [model]
  rw [hb]
  simp only [if_true]
  refine wpAny_bind (wpAny_askSetting ?_)
  refine wpAny_pure ?_
  dsimp only [model]
  have eo:(setOrd w S es ep)[i]? =((pickOrder (w.params.setOrder S ep) es)[i]?).map (·.2):=by
   unfold setOrd
   rw [hb]
   simp
  cases hg:(pickOrder (w.params.setOrder S ep) es)[i]? with
  |none=>
   rw [hg]at eo
   have:=List.getElem?_eq_none_iff.mp eo
   exact wpAny_pure (h2 (by omega))
  |some e=>
   rw [hg]at eo
   exact wpAny_pure (h1 _ _ eo (.inl hb))
def IsSetIter (h:Heap) (I S:Addr) (slot i n ep:Nat):Prop:=∃o,h.get? I=some o/\o.cls= .type "set_iterator"/\o.data= .fields #[.int slot 0,.int i 0,.ref S,.int n 0,.int ep 0]
theorem IsSetIter.typeIs {I S:Addr} {slot i n ep:Nat} (h:IsSetIter s.heap I S slot i n ep):s.TypeIs (.ref I) "set_iterator":=let⟨o,ho,hc,_⟩:=h;⟨o,ho,hc⟩
variable {I S:Addr} {o:Obj} {es:Array (Int×Value)} {ep:Nat} {t:SetTable} {slot i:Nat}
theorem wpAny_pyNext_set {Q:Option Value->Shared->Prop} (hh:A.handled=none) (hit:IsSetIter s.heap I S slot i es.size ep) (ho:s.heap.get? S=some o) (hd:o.data= .set es ep t) (hf:t.fits es.size=true) (hr:SetTable.Rise t.place) (hpl:t.plain=true) (hl:t.led= !w.params.followText "set-order")
  (hs:SlotOk w t slot i) (h1:∀v slot' h',(setOrd w S es ep)[i]? =some v->SlotOk w t slot' (i+1)->IsSetIter h' I S slot' (i+1) es.size ep->Heap.SameBut I s.heap h'->Q (some v) {s with heap:=h'}) (h2:es.size<=i->∀h',Heap.ExtBut I s.heap h'->Q none {s with heap:=h'}):
  wpAny (model prog w) A (pyNext (.ref I)) Q E s:=by
 obtain⟨oi,hoi,hci,hdi⟩:=id hit
 unfold pyNext
 refine wpAny_bind (wpAny_attempt (wpAny_callSpecial?_slot (name:=Str.ofString "__next__") hit.typeIs F.slot_set_iterator_next
  (wpAny_call_entry F.slot_set_iterator_next hit.typeIs F.entry_set_iterator_next ?_ (F.args_set_iterator_next_1 _))))
 unfold Builtin.«set_iterator.__next__»
 refine wpAny_bind (m:=slotArgs "__next__" 0 _) (wpAny_pure ?_)
 refine wpAny_bind (wpAny_fieldsOf hoi hdi ?_)
 dsimp only
 refine wpAny_bind (wpAny_setEntries_of ho hd hf ?_)
 rw [if_neg (by simp)]
 simp only [Int.toNat_natCast]
 refine wpAny_bind (wpAny_setNext ho hd hf hr hpl hl hs (fun v slot' e ok=>?_) fun hge=>?_)
 ·dsimp only
  refine wpAny_bind (wpAny_setField hoi hdi (by simp) ?_)
  have hoi2:=Heap.get?_update_self (Obj.mapFields (·.setIfInBounds 0 (rawInt slot'))) hoi (Obj.isFreed_of_fields (Obj.data_mapFields hdi _))
  have hdi2:=Obj.data_mapFields hdi (·.setIfInBounds 0 (rawInt slot'))
  refine wpAny_bind (wpAny_setField hoi2 hdi2 (by simp) ?_)
  refine wpAny_pure ⟨_,rfl,wpAny_pure (h1 v slot' _ e ok ⟨_,Heap.get?_update_self _ hoi2 (Obj.isFreed_of_fields (Obj.data_mapFields hdi2 _)),(Obj.cls_mapFields ..).trans ((Obj.cls_mapFields ..).trans hci),by rw [Obj.data_mapFields hdi2];simp [rawInt]⟩ (Heap.SameBut.trans (Heap.SameBut.update ..) (Heap.SameBut.update ..)))⟩
 ·dsimp only
  refine wpAny_bind (wpAny_setField hoi hdi (by simp) ?_)
  show wpAny _ _ (newExc (.type "StopIteration") []>>=_) _ _ _
  refine wpAny_bind ?_
  simp only [newExc,newTuple]
  refine wpAny_bind (wpAny_newObj_type ?_ (by size_fits))
  refine wpAny_bind (m:=firstArgMember _ _) (wpAny_of_eq (a:=Value.none) (by first|rfl|(simp only [firstArgMember];rfl)) ?_)
  refine wpAny_newObj_type ?_ (by size_fits)
  simp only [raiseNew]
  refine wpAny_bind (wpAny_handled ?_)
  rw [show A.in1.handled=none from hh]
  refine wpAny_bind (wpAny_pure (wpAny_throw ?_))
  refine wpAny_bind (wpAny_isInstance (T:="StopIteration") (b:=true) ⟨_,Heap.get?_push_size _ rfl,rfl⟩ isSubtype_stop ?_)
  exact wpAny_pure (h2 hge _ (((Heap.SameBut.update ..).extBut.push _).push _))
theorem Walks.set (hh:A.handled=none) (hne:S≠I) (o:Obj) (hd:o.data= .set es ep t) (hf:t.fits es.size=true) (hr:SetTable.Rise t.place) (hpl:t.plain=true) (hl:t.led= !w.params.followText "set-order"):
  Walks prog w A I [I,S] [I] es.size (fun i v=>(setOrd w S es ep)[i]? =some v) (fun i h=>(∃slot,IsSetIter h I S slot i es.size ep/\SlotOk w t slot i)/\h.get? S=some o) where
 sub:=fun b hb=>by simp at hb;simp [hb]
 frame:=fun _ _ _ st hk=>by
  obtain⟨⟨slot,⟨oi,h1,h2⟩,h3⟩,h4⟩:=st
  exact⟨⟨slot,⟨oi,hk I (by simp) _ h1,h2⟩,h3⟩,hk S (by simp) _ h4⟩
 item:=fun i s Q E hi st hQ=>by
  obtain⟨⟨slot,h1,h3⟩,h4⟩:=st
  refine wpAny_pyNext_set hh h1 h4 hd hf hr hpl hl h3 (fun v slot' h' e ok it' sb=>?_) fun hge=>absurd hi (by omega)
  exact hQ _ h' s.toks e ⟨⟨slot',it',ok⟩,(sb.2 S hne).trans h4⟩ fun b o hb e=>sb.extBut b o (fun h=>hb (by simp [h])) e
 done:=fun s Q E st hQ=>by
  obtain⟨⟨slot,h1,h3⟩,h4⟩:=st
  refine wpAny_pyNext_set hh h1 h4 hd hf hr hpl hl h3 (fun v slot' h' e ok it' sb=>?_) fun hge h' he'=>hQ h' s.toks fun b o hb e=>he' b o (fun h=>hb (by simp [h])) e
  have olen:(setOrd w S es ep).length=es.size:=by rw [(setOrd_perm w S es ep).length_eq,List.length_map,Array.length_toList]
  rw [List.getElem?_eq_none (by omega)]at e
  cases e
 self:=fun _ _ _ _ st hQ=>by
  obtain⟨⟨slot,h1,h3⟩,h4⟩:=st
  refine wpAny_pyIter_slot h1.typeIs F.slot_set_iterator_iter (wpAny_call_entry F.slot_set_iterator_iter h1.typeIs F.entry_set_iterator_iter ?_ (F.args_set_iterator_iter_1 _))
  show wpAny _ _ (ret (.ref I)) _ _ _
  exact wpAny_pure ⟨_,rfl,"set_iterator",_,h1.typeIs,F.slot_set_iterator_next.lookup,hQ⟩
end
end PySem
namespace PySem
open Sem (wp)
namespace F
theorem sub_set_set':isSubtype (.type "set") (.type "set")=pure true:=by rw [isSubtype_type];kernel_rfl
end F
section
variable {prog:Program} {w:World} {A:Around} {E:Value->Shared->Prop} {s:Shared} {I S:Addr} {o:Obj} {es:Array (Int×Value)} {ep:Nat} {t:SetTable}
theorem wpAny_pyIter_set {Q:Value->Shared->Prop} (ho:s.heap.get? S=some o) (hex:o.ExactSet) (hd:o.data= .set es ep t) (hf:t.fits es.size=true) (hpl:t.plain=true)
  (hQ:Q (.ref s.heap.objs.size) {s with heap:=s.heap.push {cls:= .type "set_iterator",data:= .fields #[.int 0 0,.int 0 0,.ref S,.int es.size 0,.int ep 0]}}):wpAny (model prog w) A (pyIter (.ref S)) Q E s:=by
 have hT:s.TypeIs (.ref S) "set":=⟨o,ho,hex.1⟩
 refine wpAny_pyIter_slot hT F.slot_set_iter (wpAny_call_entry F.slot_set_iter hT F.entry_set_iter ?_ (F.args_set_iter_1 _))
 unfold Builtin.«frozenset.__iter__»
 refine wpAny_bind (m:=Builtin.Frozenset.slot0 "__iter__" _) (wpAny_pure ?_)
 unfold Builtin.Frozenset.sizeOf
 refine wpAny_bind (wpAny_bind (wpAny_setEntries_of ho hd hf (wpAny_pure ?_)))
 unfold setDrawn setsByText
 refine wpAny_bind (wpAny_bind (wpAny_setState_of ho hd hf ?_))
 dsimp only
 refine wpAny_bind (wpAny_bind (wpAny_askSetting (wpAny_pure ?_)))
 show wpAny _ _ (pure (!(model prog w).w.params.followText "set-order" && (!t.plain && decide (es.size>1)))) _ _ _
 rw [hpl]
 simp only [Bool.not_true,Bool.false_and,Bool.and_false]
 refine wpAny_pure ?_
 simp only [Bool.false_eq_true,if_false]
 refine wpAny_bind (wpAny_pure ?_)
 refine wpAny_bind (wpAny_setEpoch_of ho hd hf ?_)
 unfold newFields
 refine wpAny_bind (wpAny_newObj_type (wpAny_pure ⟨_,rfl,"set_iterator",_,⟨_,Heap.get?_push_size _ rfl,rfl⟩,F.slot_set_iterator_next.lookup,?_⟩))
 simpa [rawInt]using hQ
theorem wpAny_collect_set {Q:List Value->Shared->Prop} (hh:A.handled=none) (ho:s.heap.get? S=some o) (hex:o.ExactSet) (hd:o.data= .set es ep t) (hf:t.fits es.size=true) (hr:SetTable.Rise t.place) (hpl:t.plain=true) (hl:t.led= !w.params.followText "set-order") (hn:es.size<=sizeLine)
  (hQ:∀h' tk,s.heap.objs.size<h'.objs.size->(∀b o,s.heap.get? b=some o->h'.get? b=some o)->Q (setOrd w S es ep) {s with heap:=h',toks:=tk}):wpAny (model prog w) A (collect (.ref S)) Q E s:=by
 have hSlt:S<s.heap.objs.size:=Heap.lt_size ho
 unfold collect
 refine wpAny_bind (wpAny_runValue (codeAny_builtin F.entry_proto_collect ?_))
 rw [Around.under_plainId F.plain_proto_collect _]
 show wpAny _ A.in1 (newList []>>=fun l=>again (.builtin "list.__iadd__" ⟨[l,.ref S],[]⟩)) _ _ s
 refine wpAny_bind (wpAny_newObj_type ?_)
 refine wpAny_pure ⟨plainId_quiet F.plain_list_iadd _,codeAny_builtin F.entry_list_iadd ?_⟩
 rw [Around.under_plainId F.plain_list_iadd _]
 have ho1:(s.heap.push {cls:= .type "list",data:= .seq ([]:List Value).toArray}).get? S=some o:=Heap.get?_push_of_some _ ho
 have hT1:Shared.TypeIs {s with heap:=s.heap.push {cls:= .type "list",data:= .seq ([]:List Value).toArray}} (.ref S) "set":=⟨o,ho1,hex.1⟩
 have hS₁:(s.heap.push {cls:= .type "list",data:= .seq ([]:List Value).toArray}).get? s.heap.objs.size=some {cls:= .type "list",data:= .seq ([]:List Value).toArray}:=Heap.get?_push_size _ rfl
 have hne:s.heap.objs.size≠S:=Nat.ne_of_gt hSlt
 have h1:Builtin.List.listSameRef (.ref s.heap.objs.size) (.ref S)=false:=by simp [Builtin.List.listSameRef,hne]
 show wpAny _ A.in1 (Builtin.List.listExtendWith (.ref s.heap.objs.size) (.ref S) (.ref s.heap.objs.size)) _ _ _
 unfold Builtin.List.listExtendWith
 refine wpAny_bind (wpAny_typeOf hT1 ?_)
 rw [if_neg (by rw [h1];decide)]
 refine wpAny_bind (wpAny_pyIter_set ho1 hex hd hf hpl ?_)
 have esz:(s.heap.push {cls:= .type "list",data:= .seq ([]:List Value).toArray}).objs.size=s.heap.objs.size+1:=Heap.size_push ..
 rw [esz]
 generalize hH2:(s.heap.push {cls:= .type "list",data:= .seq ([]:List Value).toArray}).push {cls:= .type "set_iterator",data:= .fields #[.int 0 0,.int 0 0,.ref S,.int es.size 0,.int ep 0]}=H2
 have keep2:∀b o,s.heap.get? b=some o->H2.get? b=some o:=fun b o e=>by rw [<-hH2];exact Heap.get?_push_of_some _ (Heap.get?_push_of_some _ e)
 have ho2:H2.get? S=some o:=keep2 _ _ ho
 have hL2:H2.get? s.heap.objs.size=some {cls:= .type "list",data:= .seq ([]:List Value).toArray}:=by rw [<-hH2];exact Heap.get?_push_of_some _ hS₁
 have hI2:H2.get? (s.heap.objs.size+1)=some {cls:= .type "set_iterator",data:= .fields #[.int 0 0,.int 0 0,.ref S,.int es.size 0,.int ep 0]}:=by rw [<-hH2, <-esz];exact Heap.get?_push_size _ rfl
 have hT2:Shared.TypeIs {s with heap:=H2} (.ref S) "set":=⟨o,ho2,hex.1⟩
 refine wpAny_bind (wpAny_holding ?_)
 unfold Builtin.List.listLengthHint
 refine wpAny_bind (wpAny_specialOf hT2 F.slot_set_len.lookup ?_)
 (generalize hid:("set.__len__":String)=id0;(fail_if_success (clear hid id0));wp_delta;rw [show splitId id0=some ("set","__len__")from by subst hid;decide+kernel];subst hid)
 refine wpAny_bind (wpAny_isInstance (b:=true) hT2 F.sub_set_set' ?_)
 simp only [Bool.not_true,Bool.false_eq_true,if_false]
 rw [if_pos (by decide+kernel)]
 refine wpAny_bind (wpAny_typeOf hT2 ?_)
 refine wpAny_pure ?_
 rw [if_pos (by decide+kernel)]
 show wpAny _ A.in1 (rule "list.extend.makes-room">>=fun _=>Builtin.List.listTouch (.ref s.heap.objs.size)>>=fun _=>
  again (.builtin "list.extend.loop" ⟨[.ref s.heap.objs.size,.ref (s.heap.objs.size+1),.ref s.heap.objs.size],[]⟩)) _ _ _
 refine wpAny_bind (wpAny_rule ?_)
 refine wpAny_bind ?_
 show wpAny _ A.in1 (updateSeq s.heap.objs.size (·.push .none)>>=fun _=>updateSeq s.heap.objs.size (·.pop)) _ _ _
 refine wpAny_bind (wpAny_updateSeq hL2 rfl ?_)
 have hS₂:=Heap.get?_update_self (Obj.mapSeq (·.push Value.none)) hL2 rfl
 refine wpAny_updateSeq hS₂ rfl ?_
 have hS₃:=Heap.get?_update_self (Obj.mapSeq (·.pop)) hS₂ rfl
 have oth:∀b o,b≠s.heap.objs.size->H2.get? b=some o->((H2.update s.heap.objs.size (Obj.mapSeq (·.push Value.none))).update s.heap.objs.size (Obj.mapSeq (·.pop))).get? b=some o:=
  fun b o hb e=>(Heap.get?_update_other _ _ (Ne.symm hb)).trans ((Heap.get?_update_other _ _ (Ne.symm hb)).trans e)
 have hneI:S≠s.heap.objs.size+1:=Nat.ne_of_lt (Nat.lt_succ_of_lt hSlt)
 have W:=(Walks.set (prog:=prog) (A:=A.in1) (I:=s.heap.objs.size+1) (S:=S) (by simp [hh]) hneI o hd hf hr hpl hl).toS
 have hSf:s.heap.objs.size∉[s.heap.objs.size+1,S]:=by
  simp only [List.mem_cons,List.mem_singleton,List.not_mem_nil,or_false,not_or]
  exact⟨Nat.ne_of_lt (Nat.lt_succ_self _),hne⟩
 refine wpAny_pure ⟨plainId_quiet F.plain_extend_loop _,codeAny_extend_loopS W hn _ hSf _ es.size 0 _ _ _ rfl (Nat.zero_le _)
  ⟨⟨0,⟨_,oth _ _ (Nat.ne_of_gt (Nat.lt_succ_self _)) hI2,rfl,rfl⟩,.inr ?_⟩,oth _ _ hne.symm ho2⟩ hS₃ (ItemsOf.nil _) fun s' acc' c' hm hS' hacc=>?_⟩
 ·have:=(SetTable.below_spec hr 0).2.1
  rcases Nat.eq_zero_or_pos (SetTable.below t.place 0)with z|z
  ·exact z
  ·exact absurd (this 0 z) (Nat.not_lt_zero _)
 ·show wpAny _ A (load s.heap.objs.size>>=_) _ _ s'
  refine wpAny_bind (wpAny_load hS' ?_)
  obtain⟨h',g',d',tk',os'⟩:=s'
  have eg:g'=s.gens:=hm.gens
  have ed:d'=s.drawn:=hm.drawn
  have eo:os'=s.os:=hm.os
  subst eg;subst ed;subst eo
  have ea:acc'.toList=setOrd w S es ep:=by
   apply List.ext_getElem?
   intro j
   have olen:(setOrd w S es ep).length=es.size:=by rw [(setOrd_perm w S es ep).length_eq,List.length_map,Array.length_toList]
   by_cases hj:j<acc'.size
   ·rw [Array.getElem?_toList,Array.getElem?_eq_getElem hj]
    exact(hacc.2 j _ (Array.getElem?_eq_getElem hj)).symm
   ·rw [List.getElem?_eq_none (by rw [Array.length_toList];omega),List.getElem?_eq_none (by rw [olen, <-hacc.1];omega)]
  refine wpAny_pure ?_
  rw [ea]
  refine hQ h' tk' (Heap.lt_size hS') fun b o e=>?_
  have hb:b<s.heap.objs.size:=Heap.lt_size e
  exact hm.heap b o (by simp only [List.mem_cons,List.mem_singleton,List.not_mem_nil,or_false,not_or];exact⟨Nat.ne_of_lt hb,Nat.ne_of_lt (Nat.lt_succ_of_lt hb)⟩) (oth b o (Nat.ne_of_lt hb) (keep2 b o e))
end
end PySem
namespace PySem.W
open PyProof.Rows
def KasT.Way {α:Type} (lt:Nat->Nat->Bool) (P:Nat->Prop):KasT α->(α->Prop)->Prop
 | .ret a,Q=>Q a
 | .ask i j k,Q=>P i/\P j/\(k (lt i j)).Way lt P Q
variable {lt:Nat->Nat->Bool} {P:Nat->Prop}
theorem KasT.way_bind {α β:Type} {f:α->KasT β} {Q:β->Prop}:∀(t:KasT α),t.Way lt P (fun a=>(f a).Way lt P Q)->(t.bind f).Way lt P Q
 | .ret _,h=>h
 | .ask i j k,h=>⟨h.1,h.2.1,KasT.way_bind (k (lt i j)) h.2.2⟩
theorem KasT.way_mono {α:Type} {Q Q':α->Prop} (hq:∀a,Q a->Q' a):∀(t:KasT α),t.Way lt P Q->t.Way lt P Q'
 | .ret _,h=>hq _ h
 | .ask i j k,h=>⟨h.1,h.2.1,KasT.way_mono hq (k (lt i j)) h.2.2⟩
theorem KasT.way_wp {α:Type} {cmp:Nat->Nat->(Bool->Shared->Prop)->Shared->Prop} {s:Shared} (hc:∀i j C,P i->P j->C (lt i j) s->cmp i j C s) {Q:α->Prop} {G:α->Shared->Prop} (hg:∀a,Q a->G a s):∀(t:KasT α),t.Way lt P Q->t.kasWp cmp G s
 | .ret _,h=>hg _ h
 | .ask i j k,h=>hc i j _ h.1 h.2.1 (KasT.way_wp hc hg (k (lt i j)) h.2.2)
structure Strict (n:Nat) (lt:Nat->Nat->Bool):Prop where
 tot:∀i j,i<n->j<n->i≠j->lt i j=true∨lt j i=true
 asym:∀i j,lt i j=true->lt j i=false
 trans:∀i j k,lt i j=true->lt j k=true->lt i k=true
def vAt (p:Array Nat) (i:Nat):Nat:=p.getD i 0
def Tidy (n:Nat) (p:Array Nat):Prop:=p.toList.Perm (List.range n)
variable {n:Nat} {p:Array Nat}
theorem Tidy.size (h:Tidy n p):p.size=n:=by have:=h.length_eq;rw [List.length_range,Array.length_toList]at this;exact this
theorem vAt_get {p:Array Nat} {i:Nat}:vAt p i=(p[i]?).getD 0:=by
 unfold vAt Array.getD
 by_cases h:i<p.size
 ·simp [h]
 ·simp [h]
theorem Tidy.low (h:Tidy n p) (hn:0<n) (i:Nat):vAt p i<n:=by
 rw [vAt_get]
 cases e:p[i]? with
 |none=>exact hn
 |some x=>
  have:x∈p.toList:=List.mem_of_getElem? (by rw [Array.getElem?_toList];exact e)
  exact List.mem_range.mp (h.mem_iff.mp this)
theorem Tidy.inj (h:Tidy n p) {i j:Nat} (hi:i<n) (hj:j<n) (e:i≠j):vAt p i≠vAt p j:=by
 have nd:p.toList.Nodup:=h.nodup_iff.mpr List.nodup_range
 have si:i<p.toList.length:=by rw [Array.length_toList,h.size];exact hi
 have sj:j<p.toList.length:=by rw [Array.length_toList,h.size];exact hj
 intro z
 have h1:vAt p i=p.toList[i]:=by rw [vAt_get, <-Array.getElem?_toList,List.getElem?_eq_getElem si];rfl
 have h2:vAt p j=p.toList[j]:=by rw [vAt_get, <-Array.getElem?_toList,List.getElem?_eq_getElem sj];rfl
 rw [h1,h2]at z
 exact e ((List.getElem_inj nd).mp z)
theorem Tidy.perm {q:Array Nat} (h:Tidy n p) (e:q.Perm p):Tidy n q:=(Array.perm_iff_toList_perm.mp e).trans h
def Rises (lt:Nat->Nat->Bool) (p:Array Nat) (k:Nat):Prop:=∀i j,i<j->j<k->lt (vAt p i) (vAt p j)=true
def Falls (lt:Nat->Nat->Bool) (p:Array Nat) (k:Nat):Prop:=∀i j,i<j->j<k->lt (vAt p j) (vAt p i)=true
theorem Rises.more (S:Strict n lt) {k:Nat} (h:Rises lt p k) (hk:1<=k) (e:lt (vAt p (k-1)) (vAt p k)=true):Rises lt p (k+1):=fun i j hi hj=>by
 by_cases z:j<k
 ·exact h i j hi z
 ·obtain rfl:j=k:=by omega
  by_cases y:i=j-1
  ·subst y;exact e
  ·exact S.trans _ _ _ (h i (j-1) (by omega) (by omega)) e
theorem Falls.more (S:Strict n lt) {k:Nat} (h:Falls lt p k) (hk:1<=k) (e:lt (vAt p k) (vAt p (k-1))=true):Falls lt p (k+1):=fun i j hi hj=>by
 by_cases z:j<k
 ·exact h i j hi z
 ·obtain rfl:j=k:=by omega
  by_cases y:i=j-1
  ·subst y;exact e
  ·exact S.trans _ _ _ e (h i (j-1) (by omega) (by omega))
theorem asc_way (S:Strict n lt) (hn:0<n) (T:Tidy n p):∀(f k:Nat),1<=k->k+f=n->Rises lt p k->(kas_asc p f k).Way lt (·<n) fun m=>Rises lt p m/\k<=m/\m<=n/\(m=n∨lt (vAt p m) (vAt p (m-1))=true)
 |0,k,h1,h2,h3=>⟨h3,Nat.le_refl _,by omega,.inl (by omega)⟩
 |f+1,k,h1,h2,h3=>by
  refine⟨T.low hn k,T.low hn (k-1),?_⟩
  show KasT.Way lt (·<n) (if lt (vAt p k) (vAt p (k-1))=true then _ else _) _
  by_cases c:lt (vAt p k) (vAt p (k-1))=true
  ·rw [if_pos c]
   exact⟨h3,Nat.le_refl _,by omega,.inr c⟩
  ·rw [if_neg c]
   have c':=(S.tot _ _ (T.low hn k) (T.low hn (k-1)) (T.inj (by omega) (by omega) (by omega))).resolve_left c
   exact KasT.way_mono (fun m z=>⟨z.1,by omega,z.2.2⟩) _ (asc_way S hn T f (k+1) (by omega) (by omega) (h3.more S h1 c'))
theorem desc_way (S:Strict n lt) (hn:0<n) (T:Tidy n p):∀(f k:Nat),1<=k->k+f=n->Falls lt p k->(kas_desc f p k 0).Way lt (·<n) fun r=>r.1=p/\r.2.2=0/\Falls lt p r.2.1/\k<=r.2.1/\r.2.1<=n
 |0,k,h1,h2,h3=>⟨rfl,rfl,h3,Nat.le_refl _,by show k<=n;omega⟩
 |f+1,k,h1,h2,h3=>by
  refine⟨T.low hn k,T.low hn (k-1),?_⟩
  show KasT.Way lt (·<n) (if lt (vAt p k) (vAt p (k-1))=true then _ else _) _
  by_cases c:lt (vAt p k) (vAt p (k-1))=true
  ·rw [if_pos c,if_neg (by omega)]
   exact KasT.way_mono (fun m z=>⟨z.1,z.2.1,z.2.2.1,by omega,z.2.2.2.2⟩) _ (desc_way S hn T f (k+1) (by omega) (by omega) (h3.more S h1 c))
  ·rw [if_neg c]
   refine⟨T.low hn (k-1),T.low hn k,?_⟩
   have c':=(S.tot _ _ (T.low hn k) (T.low hn (k-1)) (T.inj (by omega) (by omega) (by omega))).resolve_left c
   show KasT.Way lt (·<n) (if lt (vAt p (k-1)) (vAt p k)=true then _ else _) _
   rw [if_pos c']
   exact⟨rfl,rfl,h3,Nat.le_refl _,by show k<=n;omega⟩
theorem rev_at {m:Nat} (hm:m<=p.size) (i:Nat):vAt (kas_rev p 0 m) i=if i<m then vAt p (m-1-i)else vAt p i:=by
 rw [vAt_get,kas_rev,getElem?_mirror_all hm]
 by_cases h:i<m
 ·rw [if_pos ⟨Nat.zero_le _,h⟩,if_pos h,vAt_get,Nat.zero_add]
 ·rw [if_neg (fun z=>h z.2),if_neg h,vAt_get]
theorem count_way (S:Strict n lt) (hn:0<n) (T:Tidy n p):(kas_count n p).Way lt (·<n) fun r=>Tidy n r.2/\Rises lt r.2 r.1/\1<=r.1/\r.1<=n:=by
 refine KasT.way_bind _ (KasT.way_mono (fun m z=>?_) _ (asc_way S hn T (n-1) 1 (Nat.le_refl _) (by omega) fun i j h1 h2=>by omega))
 obtain⟨z1,z2,z3,z4⟩:=z
 by_cases e:m=n
 ·rw [if_pos (beq_iff_eq.mpr e)]
  exact⟨T,z1,z2,z3⟩
 ·rw [if_neg (fun y=>e (beq_iff_eq.mp y))]
  have z4:=z4.resolve_left e
  by_cases g:m>1
  ·rw [if_pos g]
   refine⟨T.low hn 0,T.low hn (m-1),?_⟩
   have c:lt (p.getD 0 0) (p.getD (m-1) 0)=true:=z1 0 (m-1) (by omega) (by omega)
   rw [c]
   dsimp only
   rw [if_pos rfl]
   exact⟨T,z1,z2,z3⟩
  ·rw [if_neg g]
   obtain rfl:m=1:=by omega
   refine KasT.way_bind _ (KasT.way_mono (fun r y=>?_) _ (desc_way S hn T (n-(1+1)) (1+1) (by omega) (by omega) fun i j h1 h2=>?_))
   ·obtain⟨q,k,w⟩:=r
    obtain⟨y1,y2,y3,y4,y5⟩:=y
    have y1:q=p:=y1
    have y2:w=0:=y2
    subst y1 y2
    show KasT.Way lt (·<n) (if 0>0 then _ else _) _
    rw [if_neg (by omega)]
    have y3:Falls lt q k:=y3
    have y4:2<=k:=y4
    have y5:k<=n:=y5
    have T':Tidy n (kas_rev q 0 k):=T.perm (mirror_perm ..)
    have hs:k<=q.size:=by rw [T.size];exact y5
    refine KasT.way_bind _ (KasT.way_mono (fun m' x=>?_) _ (asc_way S hn T' (n-k) k (by omega) (by omega) fun i j h1 h2=>?_))
    ·exact⟨T',x.1,by have:=x.2.1;show 1<=m';omega,x.2.2.1⟩
    ·rw [rev_at hs,rev_at hs,if_pos (by omega),if_pos h2]
     exact y3 _ _ (by omega) (by omega)
   ·obtain rfl:i=0:=by omega
    obtain rfl:j=1:=by omega
    exact z4
theorem place_way (S:Strict n lt) (hn:0<n) (T:Tidy n p) {k:Nat} (hk:k<n) (R:Rises lt p k):∀(f l r:Nat),l<=r->r<=k->r-l<=f->(∀i,i<l->lt (vAt p i) (vAt p k)=true)->(∀i,r<=i->i<k->lt (vAt p k) (vAt p i)=true)->
  (kas_place p k f l r).Way lt (·<n) fun m=>m<=k/\(∀i,i<m->lt (vAt p i) (vAt p k)=true)/\∀i,m<=i->i<k->lt (vAt p k) (vAt p i)=true
 |0,l,r,h1,h2,h3,a,b=>by
  obtain rfl:l=r:=by omega
  exact⟨h2,a,b⟩
 |f+1,l,r,h1,h2,h3,a,b=>by
  show KasT.Way lt (·<n) (if l≥r then _ else _) _
  by_cases e:l≥r
  ·rw [if_pos e]
   obtain rfl:l=r:=by omega
   exact⟨h2,a,b⟩
  ·rw [if_neg e]
   refine⟨T.low hn k,T.low hn _,?_⟩
   show KasT.Way lt (·<n) (if lt (vAt p k) (vAt p ((l+r) / 2))=true then _ else _) _
   by_cases c:lt (vAt p k) (vAt p ((l+r) / 2))=true
   ·rw [if_pos c]
    refine place_way S hn T hk R f l _ (by omega) (by omega) (by omega) a fun i g1 g2=>?_
    by_cases y:i=(l+r) / 2
    ·subst y;exact c
    ·exact S.trans _ _ _ c (R _ i (by omega) g2)
   ·rw [if_neg c]
    have c':=(S.tot _ _ (T.low hn k) (T.low hn ((l+r) / 2)) (T.inj hk (by omega) (by omega))).resolve_left c
    refine place_way S hn T hk R f _ r (by omega) h2 (by omega) (fun i g=>?_) b
    by_cases y:i=(l+r) / 2
    ·subst y;exact c'
    ·exact S.trans _ _ _ (R i _ (by omega) (by omega)) c'
theorem bub_at {k l:Nat} (hk:k<p.size) (hl:l<=k) (i:Nat):vAt (bubble p k (k-l)) i=if i=l then vAt p k else if l<i/\i<=k then vAt p (i-1)else vAt p i:=by
 rw [vAt_get,getElem?_bubble hk _ (by omega),show k-(k-l)=l by omega]
 split
 ·rw [vAt_get]
 ·split<;>rw [vAt_get]
theorem bin_way (S : Strict n lt) (hn : 0 < n) : ∀ (f : Nat) (p : Array Nat) (k : Nat), Tidy n p → k + f = n → Rises lt p k → (kas_bin f p k).Way lt (· < n) fun q => Tidy n q ∧ Rises lt q n
  | 0, p, k, T, h, R => ⟨T, by obtain rfl : k = n := by omega
                               exact R⟩
  | f + 1, p, k, T, h, R => by
    refine KasT.way_bind _ (KasT.way_mono (fun l z => ?_) _ (place_way S hn T (k := k) (by omega) R k 0 k (Nat.zero_le _) (Nat.le_refl _) (by omega) (fun i g => by omega) fun i g1 g2 => by omega))
    obtain ⟨z1, z2, z3⟩ := z
    have hs : k < p.size := by rw [T.size]; omega
    refine bin_way S hn f _ (k + 1) (T.perm (bubble_perm ..)) (by omega) fun i j h1 h2 => ?_
    rw [bub_at hs z1, bub_at hs z1]
    by_cases a1 : i = l
    · subst a1
      rw [if_pos rfl, if_neg (by omega), if_pos ⟨h1, by omega⟩]
      exact z3 (j - 1) (by omega) (by omega)
    · rw [if_neg a1]
      by_cases a2 : l < i ∧ i ≤ k
      · rw [if_pos a2, if_neg (by omega), if_pos ⟨by omega, by omega⟩]
        exact R _ _ (by omega) (by omega)
      · rw [if_neg a2]
        by_cases b1 : j = l
        · rw [if_pos b1]
          exact z2 i (by omega)
        · rw [if_neg b1]
          by_cases b2 : l < j ∧ j ≤ k
          · rw [if_pos b2]
            by_cases e : i = j - 1
            · omega
            · exact R _ _ (by omega) (by omega)
          · rw [if_neg b2]
            exact R _ _ h1 (by omega)
theorem sort_way (S:Strict n lt) (hn:0<n):(kas_sort n).Way lt (·<n) fun q=>Tidy n q/\Rises lt q n:=by
 have T:Tidy n (List.toArray (List.range n)):=List.Perm.refl _
 refine KasT.way_bind _ (KasT.way_mono (fun r z=>?_) _ (count_way S hn T))
 obtain⟨m,q⟩:=r
 obtain⟨z1,z2,z3,z4⟩:=z
 have z1:Tidy n q:=z1
 have z2:Rises lt q m:=z2
 have z3:1<=m:=z3
 have z4:m<=n:=z4
 show KasT.Way lt (·<n) (if m<n then kas_bin (n-max m 1) q (max m 1)else _) _
 by_cases e:m<n
 ·rw [if_pos e,show max m 1=m by omega]
  exact bin_way S hn _ _ _ z1 (by omega) z2
 ·rw [if_neg e]
  obtain rfl:m=n:=by omega
  exact⟨z1,z2⟩
end PySem.W
namespace PySem
open Sem (wp)
open PyProof.Rows (listItems_at)
open SeqAt
def LtAt (A:Around) (s:Shared) (y x:Value) (b:Bool):Prop:=
 ∀(prog:Program) (w:World) (E:Value->Shared->Prop) (Q:Value->Shared->Prop),Q (.bool b) s->wpAny (model prog w) A (richCompare .Lt y x) Q E s
def LtN (n:Nat) (s:Shared) (y x:Value) (b:Bool):Prop:=∀A:Around,A.units<=n->LtAt A s y x b
theorem LtN.ints (n:Nat) (s:Shared) (a b:Int) (t u):LtN n s (.int a t) (.int b u) (decide (a<b)):=fun A _ prog w E Q h=>PyProof.Rows.lt_int h
section
variable {s:Shared} {a b:Addr} {xs ys:Array Value} {n:Nat}
end
end PySem
namespace PySem
open Sem (wp)
def lexB:List Int->List Int->Bool
 | [],[]=>false
 | [],_::_=>true
 |_::_,[]=>false
 |x::xs,y::ys=>if x=y then lexB xs ys else decide (x<y)
theorem lexB_irr:∀x,lexB x x=false
 | []=>rfl
 |x::xs=>by rw [lexB,if_pos rfl];exact lexB_irr xs
theorem lexB_tot:∀x y,x≠y->lexB x y=true∨lexB y x=true
 | [],[],h=>absurd rfl h
 | [],_::_,_=> .inl rfl
 |_::_,[],_=> .inr rfl
 |x::xs,y::ys,h=>by
  unfold lexB
  by_cases e:x=y
  ·subst e
   rw [if_pos rfl,if_pos rfl]
   exact lexB_tot xs ys fun z=>h (by rw [z])
  ·rw [if_neg e,if_neg (Ne.symm e),decide_eq_true_iff,decide_eq_true_iff]
   omega
theorem lexB_trans:∀x y z,lexB x y=true->lexB y z=true->lexB x z=true
 | [],[],_,h,_=>absurd h (by decide)
 | [],_::_,[],_,h=>absurd h (by simp [lexB])
 | [],_::_,_::_,_,_=>rfl
 |_::_,[],_,h,_=>absurd h (by simp [lexB])
 |_::_,_::_,[],_,h=>absurd h (by simp [lexB])
 |x::xs,y::ys,z::zs,h1,h2=>by
  unfold lexB at h1 h2⊢
  by_cases e1:x=y
  ·subst e1
   rw [if_pos rfl]at h1
   by_cases e2:x=z
   ·subst e2
    rw [if_pos rfl]at h2⊢
    exact lexB_trans xs ys zs h1 h2
   ·rw [if_neg e2]at h2⊢
    exact h2
  ·rw [if_neg e1,decide_eq_true_iff]at h1
   by_cases e2:y=z
   ·subst e2
    rw [if_neg e1,decide_eq_true_iff]
    exact h1
   ·rw [if_neg e2,decide_eq_true_iff]at h2
    rw [if_neg (by omega),decide_eq_true_iff]
    omega
theorem lexB_asym (x y:List Int) (h:lexB x y=true):lexB y x=false:=by
 cases e:lexB y x with
 |false=>rfl
 |true=>
  have:=lexB_trans x y x h e
  rw [lexB_irr]at this
  cases this
end PySem
namespace PySem
open Sem (wp)
open SeqAt
section
variable {prog:Program} {w:World} {s:Shared} {n:Nat}
theorem LtN.tups {a b:Addr} {x y:List Int} (ha:IsTupleKey (intKind prog w) s.heap x a) (hb:IsTupleKey (intKind prog w) s.heap y b) (hn:n+4<cLine):LtN n s (.ref a) (.ref b) (lexB x y):=by
 obtain⟨oa,ia,na,hoa,ca,da,ha⟩:=ha
 obtain⟨ob,ib,nb,hob,cb,db,hb⟩:=hb
 have Ta:s.TypeIs (.ref a) "tuple":=⟨oa,hoa,ca⟩
 have Tb:s.TypeIs (.ref b) "tuple":=⟨ob,hob,cb⟩
 intro A hA prog' w' E Q hQ
 refine wpAny_richCompare_same_room (op:= .Lt) Ta Tb F.slot_tuple_lt (wpAny_call (codeAny_call_builtin F.slot_tuple_lt.plain F.entry_tuple_lt (F.slot_tuple_lt.check _ _ _ _ _ _ _ _ Ta (F.args_tuple_lt_2 _ _) ?_))) (by omega)
 show wpAny _ _ (isInstance (.ref b) (.type "tuple")>>=_) _ _ s
 refine wpAny_bind (wpAny_isInstance Tb isSubtype_tuple_tuple ?_)
 simp only [Bool.not_true,Bool.false_eq_true,if_false]
 refine wpAny_bind (wpAny_tupleItemsOf hoa da ?_)
 refine wpAny_bind (wpAny_tupleItemsOf hob db ?_)
 refine wpAny_bind (wpAny_mono (Q:=fun r s'=>s'=s/\(match r.1 with|some v=>v= .done (.ret (.bool (lexB x y)))|none=>lexB x y=decide (x.length<y.length))) ?_ (fun r s' h=>?_) fun _ _ z=>z)
 ·clear hQ hoa hob da db ca cb Ta Tb
  generalize ia.toList=us at ha⊢
  generalize ib.toList=vs at hb⊢
  induction ha generalizing y vs with
  |nil=>
   rw [List.zip_nil_left,List.forIn_nil]
   refine wpAny_pure ⟨rfl,?_⟩
   cases hb<;>rfl
  |@cons i u x us h1 t1 ih=>
   cases hb with
   |nil=>
    rw [List.zip_nil_right,List.forIn_nil]
    exact wpAny_pure ⟨rfl,rfl⟩
   |@cons j v y vs h2 t2=>
    obtain⟨tu,rfl⟩:=Value.isInt_shape h1
    obtain⟨tv,rfl⟩:=Value.isInt_shape h2
    rw [List.zip_cons_cons,List.forIn_cons]
    refine wpAny_bind (wpAny_bind (wpAny_eqBool_int ?_))
    by_cases ij:i=j
    ·subst ij
     rw [beq_self_eq_true]
     simp only [Bool.not_true,Bool.false_eq_true,if_false]
     refine wpAny_pure ?_
     dsimp only
     have:=ih vs t2
     have e1:lexB (i::x) (i::y)=lexB x y:=by rw [lexB,if_pos rfl]
     have e2:decide ((i::x).length<(i::y).length)=decide (x.length<y.length):=by simp
     rw [e1,e2]
     exact this
    ·rw [beq_eq_false_iff_ne.mpr ij]
     have e1:lexB (i::x) (j::y)=decide (i<j):=by rw [lexB,if_neg ij]
     rw [e1]
     simp only [Bool.not_false,if_true]
     refine wpAny_bind (wpAny_rule (wpAny_bind (LtN.ints (n+3) s i j tu tv A.in1 (by show A.units+1<=n+3;omega) prog' w' _ _ ?_)))
     exact wpAny_bind (wpAny_pure (wpAny_pure (wpAny_pure ⟨rfl,rfl⟩)))
 ·obtain⟨rfl,h⟩:=h
  obtain⟨r,u⟩:=r
  cases r with
  |some v=>
   have h:v=_:=h
   subst h
   exact wpAny_pure ⟨(fun z=>nomatch z),hQ⟩
  |none=>
   have h:lexB x y=_:=h
   rw [ha.length,hb.length,Array.length_toList,Array.length_toList]at h
   refine wpAny_pure ⟨(fun z=>nomatch z),?_⟩
   rw [h]at hQ
   exact hQ
end
end PySem
namespace PySem
open Sem (wp)
section
variable {prog:Program} {w:World} {K:Type} [DecidableEq K] {knd:HeapKind prog w K} {A:Around}
structure Met (val:Nat->K) (adr:Nat->Addr) (i:Nat) (xs:List (K×Addr)):Prop where
 from':∀x∈xs,∃j,j<i/\x=(val j,adr j)
 all:∀j,j<i->∃x∈xs,x.1=val j
 len:xs.length<=i
theorem codeAny_set_update_loopH {R:Result->Shared->Prop} {I:Addr} {fp wr:List Addr} {G:Array GenState->Array GenState->Prop} {n:Nat} {P:Nat->Value->Prop} {St:Nat->Shared->Prop}
  (D:SetKd knd) (W:WalksS prog w A.in1 I fp wr G n P St) (S:Addr) (hSf:S∉fp) (hu:knd.room A.in1) (l:Bool)
  (val:Nat->K) (adr:Nat->Addr) (hval:∀i v,P i v->v= .ref (adr i)) (hn:∀i xs,i<n->Met val adr i xs->(xs.map (·.1)).Nodup->xs.length<18) (hnt:∀i s,St i s->∀b∈wr,∀o,s.heap.get? b=some o->o.cls≠ .type "tuple"):
  ∀(k i:Nat) (s:Shared) (xs:List (K×Addr)),n-i=k->i<=n->St i s->(∀j,j<n->knd.is s.heap (val j) (adr j))->
   SetIs knd s S l xs->Met val adr i xs->
   (∀s' xs',Moved (S::wr) G s s'->SetIs knd s' S l xs'->Met val adr n xs'->(∀b o,o.cls= .type "tuple"->s.heap.get? b=some o->s'.heap.get? b=some o)->R (.ok (.ret .none)) s')->
   codeAny (model prog w) A (.builtin "set.update.loop" ⟨[.ref S,.ref I],[]⟩) R s:=by
 have hSw:S∉wr:=fun h=>hSf (W.sub _ h)
 have hsub:∀b∈wr,b∈S::wr:=fun b hb=>List.mem_cons_of_mem _ hb
 intro k
 induction k with
 |zero=>
  intro i s xs hk hi hst hkey hS hm0 hR
  have hin:i=n:=by omega
  subst hin
  refine codeAny_builtin PyProof.Rows.F.entry_set_update_loop ?_
  rw [Around.under_plainId PyProof.Rows.F.plain_set_update_loop _]
  show wpAny _ A.in1 (pyNext (.ref I)>>=_) _ _ s
  refine wpAny_bind (W.done s _ _ hst fun s' hm=>?_)
  have ht:∀b o,o.cls= .type "tuple"->s.heap.get? b=some o->s'.heap.get? b=some o:=fun b o hc e=>hm.heap b o (fun hb=>hnt _ _ hst b hb o e hc) e
  show wpAny _ A.in1 (ret Value.none) _ _ s'
  exact wpAny_pure (hR s' xs (hm.mono hsub) (hS.at D (fun o e=>hm.heap S o hSw e) ht) hm0 ht)
 |succ k ih=>
  intro i s xs hk hi hst hkey hS hm0 hR
  have hlt:i<n:=by omega
  refine codeAny_builtin PyProof.Rows.F.entry_set_update_loop ?_
  rw [Around.under_plainId PyProof.Rows.F.plain_set_update_loop _]
  show wpAny _ A.in1 (pyNext (.ref I)>>=_) _ _ s
  refine wpAny_bind (W.item i s _ _ hlt hst fun v s' hP hst' hm=>?_)
  obtain rfl:=hval i v hP
  have ht:∀b o,o.cls= .type "tuple"->s.heap.get? b=some o->s'.heap.get? b=some o:=fun b o hc e=>hm.heap b o (fun hb=>hnt _ _ hst b hb o e hc) e
  have hS':=hS.at D (fun o e=>hm.heap S o hSw e) ht
  have hk':∀j,j<n->knd.is s'.heap (val j) (adr j):=fun j hj=>D.mono (hkey j hj) ht
  show wpAny _ A.in1 (holding [Value.ref (adr i)] (setAdd S (.ref (adr i)))>>=_) _ _ s'
  refine wpAny_bind (wpAny_holding ?_)
  unfold setAdd
  refine wpAny_holding ?_
  refine wpAny_bind (knd.pyHash (k:=val i) hu (hk' i hlt) ?_)
  have hS2:SetIs knd {s' with toks:=s'.toks+knd.draws (val i)} S l xs:=hS'.at D (fun _ e=>e) fun _ _ _ e=>e
  refine wpAny_setAddHashed_heap D hS2 (hn i xs hlt hm0 (by obtain⟨_,_,_,_,z,_⟩:=hS2;exact z.nd)) hu (hk' i hlt) (fun hold=>?_) (fun hnew h' xs' hsb pm S3=>?_)
  ·refine wpAny_pure ⟨plainId_quiet PyProof.Rows.F.plain_set_update_loop _,ih (i+1) _ xs (by omega) hlt (W.frame _ s' _ _ hst' (Nat.le_add_right _ _) fun b hb o e=>e) hk' hS2 ⟨fun x hx=>?_,fun j hj=>?_,by have:=hm0.len;omega⟩ fun s'' xs'' hm'' S'' M'' ht''=>?_⟩
   ·obtain⟨j,h1,h2⟩:=hm0.from' x hx
    exact⟨j,by omega,h2⟩
   ·by_cases e:j=i
    ·subst e;exact hold
    ·exact hm0.all j (by omega)
   ·exact hR s'' xs'' (Moved.trans W.gtrans ((hm.mono hsub).then_heap (Nat.le_add_right _ _) fun b o hb e=>e) hm'') S'' M'' fun b o hc e=>ht'' b o hc (ht b o hc e)
  ·have hSt:∀b o,o.cls= .type "tuple"->s'.heap.get? b=some o->h'.get? b=some o:=fun b o hc e=>by
    have ne:b≠S:=by
     rintro rfl
     obtain⟨o2,_,_,_,z,_⟩:=hS'
     rw [z.ho]at e
     cases e
     rw [z.hex.1]at hc
     exact absurd hc (by decide)
    rw [hsb.2 b ne]
    exact e
   refine wpAny_pure ⟨plainId_quiet PyProof.Rows.F.plain_set_update_loop _,ih (i+1) _ xs' (by omega) hlt (W.frame _ s' _ _ hst' (Nat.le_add_right _ _) fun b hb o e=>?_) (fun j hj=>D.mono (hk' j hj) hSt) S3 ⟨fun x hx=>?_,fun j hj=>?_,by have:=hm0.len;rw [pm.length_eq,List.length_cons];omega⟩ fun s'' xs'' hm'' S'' M'' ht''=>?_⟩
   ·rw [hsb.2 b (fun h:b=S=>hSf (by rw [<-h];exact hb))];exact e
   ·rcases List.mem_cons.mp (pm.mem_iff.mp hx)with e|m
    ·exact⟨i,by omega,e⟩
    ·obtain⟨j,h1,h2⟩:=hm0.from' x m
     exact⟨j,by omega,h2⟩
   ·by_cases e:j=i
    ·subst e;exact⟨_,pm.mem_iff.mpr List.mem_cons_self,rfl⟩
    ·obtain⟨x,hx,ex⟩:=hm0.all j (by omega)
     exact⟨x,pm.mem_iff.mpr (List.mem_cons_of_mem _ hx),ex⟩
   ·refine hR s'' xs'' (Moved.trans W.gtrans ((hm.mono hsub).then_heap (Nat.le_add_right _ _) fun b o hb e=>?_) hm'') S'' M'' fun b o hc e=>ht'' b o hc (hSt b o hc (ht b o hc e))
    rw [hsb.2 b (fun h:b=S=>hb (by rw [h];exact List.mem_cons_self))];exact e
end
section
variable {prog:Program} {w:World} {A:Around} {E:Value->Shared->Prop} {s:Shared}
theorem code_set_newL (a:Value) {Q₁:Value->Shared->Prop}
  (h:Q₁ (.ref s.heap.objs.size) {s with heap:=s.heap.push {cls:= .type "set",dict:=none,data:= .set #[] 0 (.fresh 0 0 (!w.params.followText "set-order"))}}):
  codeAny (model prog w) A (.call (.builtin "set.__new__") ⟨[.type "set",a],[]⟩) (wants Q₁ E) s:=by
 refine codeAny_of_tree ?_
 show wpAny _ A.in1 (do checkBuiltinCall "set.__new__" ⟨[.type "set",a],[]⟩;again (.builtin "set.__new__" ⟨[.type "set",a],[]⟩)) _ _ s
 refine wpAny_bind (wpAny_of_eq (F.newCall_set_1 a) (wpAny_pure ⟨plainId_quiet F.plain_set_new _,codeAny_builtin F.entry_set_new ?_⟩))
 rw [Around.under_plainId F.plain_set_new _]
 unfold Builtin.«set.__new__» Builtin.Frozenset.newClass
 have hsub:=sub_set_self
 obtain⟨hp,g,d,tk,os⟩:=s
 dsimp only
 wp_walk
 refine wpAny_askSetting (wpAny_pure ?_)
 dsimp only
 simp only [newObj]
 refine wpAny_bind (wpAny_alloc (wpAny_pure ?_))
 exact wpAny_pure h
end
section
variable {prog:Program} {w:World} {K:Type} [DecidableEq K] {knd:HeapKind prog w K} {A:Around} {E:Value->Shared->Prop} {s:Shared}
theorem SetIs.fresh (s:Shared) {a:Addr} (l:Bool) (h:s.heap.get? a=some {cls:= .type "set",dict:=none,data:= .set #[] 0 (.fresh 0 0 l)}):SetIs knd s a l []:=
 ⟨_, #[],0,_,⟨h,⟨rfl,rfl,rfl⟩,rfl,rfl,⟨rfl,fun i k h1 h2=>absurd h2 (Nat.not_lt_zero _),fun j hj=>(nomatch hj),Nat.zero_le _,SetTable.round7⟩,rfl,fun x hx=>(nomatch hx),List.nodup_nil,fun i j x h1 h2=>(nomatch h2)⟩,.inl ⟨rfl,Nat.zero_le _⟩,rfl,rfl⟩
def LoopOk (prog:Program) (w:World) (n:Nat) (P:Nat->Value->Prop) (u:Nat) (s:Shared) (S:Addr) (led:Bool) (Z:Shared->Prop):Prop:=
 ∀{A:Around} {R:Result->Shared->Prop} {I:Addr} {fp wr:List Addr} {G:Array GenState->Array GenState->Prop} {St:Nat->Shared->Prop} (s1:Shared),WalksS prog w A.in1 I fp wr G n P St->S∉fp->A.in1.units<=u+8->
  (∀i s,St i s->∀b∈wr,∀o,s.heap.get? b=some o->o.cls≠ .type "tuple")->St 0 s1->(∀b o,s.heap.get? b=some o->s1.heap.get? b=some o)->s1.heap.get? S=some {cls:= .type "set",dict:=none,data:= .set #[] 0 (.fresh 0 0 led)}->
  (∀s',Moved (S::wr) G s1 s'->Z s'->R (.ok (.ret .none)) s')->codeAny (model prog w) A (.builtin "set.update.loop" ⟨[.ref S,.ref I],[]⟩) R s1
theorem call_set_gen {l:Addr} {items:Array Value} {Q:Value->Shared->Prop} (Z:Shared->Prop) (hh:A.handled=none) (hl:s.heap.IsList l items)
  (L:LoopOk prog w items.size (fun i v=>items[i]? =some v) A.units s s.heap.objs.size (!w.params.followText "set-order") Z)
  (h:∀(h':Heap) (tk:Nat),Z {s with heap:=h',toks:=tk}->(∀b o,b<s.heap.objs.size->s.heap.get? b=some o->h'.get? b=some o)->Q (.ref s.heap.objs.size) {s with heap:=h',toks:=tk}):
  wpAny (model prog w) A (call (.type "set") [.ref l]) Q E s:=by
 obtain⟨c,tl,hmro⟩:=F.called_set.mro
 have hmade:=F.called_set.made
 have hsub:=F.called_set.sub
 refine wpAny_call (codeAny_of_tree ?_)
 show wpAny _ _ (callAny (.type "set") _) _ _ _
 refine wpAny_pure ⟨Code.quiet_builtin _ (by decide+kernel),codeAny_builtin F.entry_type_call ?_⟩
 rw [Around.under_plain (weight_type_call_type "set" [.ref l] []) rfl]
 have h1:=F.called_set.notType
 have h2:=F.called_set.canCreate
 have hct:=F.typeCall_set_1 (.ref l)
 repeat (any_goals (first|assumption|wp_step))
 generalize hled:(!w.params.followText "set-order")=led at L
 refine codeAny_mono (code_set_newL (.ref l) (E:=E) (Q₁:=fun obj s₁=>obj= .ref s.heap.objs.size/\s₁={s with heap:=s.heap.push {cls:= .type "set",dict:=none,data:= .set #[] 0 (.fresh 0 0 led)}}) ⟨rfl,by rw [hled]⟩) fun r s₁ hr=>?_
 cases r with
 |error e=>exact hr
 |ok fl=>
  cases fl with
  |ret obj=>
   obtain⟨rfl,rfl⟩:=hr
   have hS:(s.heap.push {cls:= .type "set",dict:=none,data:= .set #[] 0 (.fresh 0 0 led)}).get? s.heap.objs.size=some {cls:= .type "set",dict:=none,data:= .set #[] 0 (.fresh 0 0 led)}:=Heap.get?_push_size _ rfl
   have hT:Shared.TypeIs {s with heap:=s.heap.push {cls:= .type "set",dict:=none,data:= .set #[] 0 (.fresh 0 0 led)}} (.ref s.heap.objs.size) "set":=⟨_,hS,rfl⟩
   have hli:=F.called_set.init.lookup
   have hbi:=F.called_set.init.bind (.ref s.heap.objs.size)
   repeat (any_goals (first|assumption|wp_step))
   refine codeAny_mono (codeAny_call_builtin (R:=wants (fun r s₂=>r= .none/\∃h' tk,s₂={s with heap:=h',toks:=tk}/\Z {s with heap:=h',toks:=tk}/\
     (∀b o,b<s.heap.objs.size->s.heap.get? b=some o->h'.get? b=some o)) E) F.called_set.init.plain F.entry_set_init (check_set_init_1 hT ?_)) fun r₂ s₂ hr₂=>?_
   ·obtain⟨ol,hol,hcl,nl,hdl⟩:=hl
    obtain⟨ocls,odict,odata,oslots⟩:=ol
    simp only at hcl hdl
    subst hcl;subst hdl
    have hol':(s.heap.push {cls:= .type "set",dict:=none,data:= .set #[] 0 (.fresh 0 0 led)}).get? l=some {cls:= .type "list",dict:=odict,data:= .seq items nl,slots:=oslots}:=Heap.get?_push_of_some _ hol
    have hsls:=F.sub_list_set
    have hslf:=F.sub_list_frozenset
    have hne:(Value.type "list"==Value.type "dict")=false:=by decide
    have hl1:(s.heap.push {cls:= .type "set",dict:=none,data:= .set #[] 0 (.fresh 0 0 led)}).IsList l items:=⟨_,hol',rfl,nl,rfl⟩
    unfold Builtin.«set.__init__» noKeywords Builtin.Frozenset.updateFrom
    generalize hPI:pyIter=PI
    wp_walk
    subst hPI
    refine wpAny_pyIter_list hl1 ?_
    refine wpAny_bind (wpAny_runValue ?_)
    have hlS:l<s.heap.objs.size:=Heap.lt_size hol
    have hh3:A.in1.in1.in1.handled=none:=by simp [hh]
    have hneI:l≠(s.heap.push {cls:= .type "set",dict:=none,data:= .set #[] 0 (.fresh 0 0 led)}).objs.size:=by
     rw [Heap.size_push];exact Nat.ne_of_lt (Nat.lt_succ_of_lt hlS)
    have hSf:s.heap.objs.size∉[(s.heap.push {cls:= .type "set",dict:=none,data:= .set #[] 0 (.fresh 0 0 led)}).objs.size,l]:=by
     rw [Heap.size_push];simp only [List.mem_cons,List.mem_singleton,List.not_mem_nil,or_false,not_or]
     exact⟨Nat.ne_of_lt (Nat.lt_succ_self _),Nat.ne_of_gt hlS⟩
    have keep2:∀b o,s.heap.get? b=some o->((s.heap.push {cls:= .type "set",dict:=none,data:= .set #[] 0 (.fresh 0 0 led)}).push {cls:= .type "list_iterator",data:= .fields #[.ref l,.int 0 0]}).get? b=some o:=fun b o e=>Heap.get?_push_of_some _ (Heap.get?_push_of_some _ e)
    refine L _ ((Walks.list hh3 _ l hneI items).toS) hSf (by simp [Around.in1]) ?hnt ⟨⟨_,Heap.get?_push_size _ rfl,rfl,rfl⟩,(hl1.push _)⟩ keep2 (Heap.get?_push_of_some _ hS) ?hR
    case hnt=>
     rintro i s2 ⟨⟨o2,g1,g2,_⟩,_⟩ b hb o e hc
     have hb:=List.mem_singleton.mp hb
     subst hb
     rw [g1]at e
     cases e
     rw [g2]at hc
     exact absurd hc (by decide)
    case hR=>
     intro s' hm hS'
     obtain⟨h',g',d',tk',os'⟩:=s'
     have eg:g'=s.gens:=hm.gens
     have ed:d'=s.drawn:=hm.drawn
     have eo:os'=s.os:=hm.os
     subst eg;subst ed;subst eo
     show wpAny _ _ _ _ _ _
     refine wpAny_pure ?_
     show wpAny _ _ (ret Value.none) _ _ _
     refine wpAny_pure ⟨rfl,h',tk',rfl,hS',fun b o hb e=>?_⟩
     have hb1:b≠s.heap.objs.size:=Nat.ne_of_lt hb
     have hb2:b≠(s.heap.push {cls:= .type "set",dict:=none,data:= .set #[] 0 (.fresh 0 0 led)}).objs.size:=by
      rw [Heap.size_push];exact Nat.ne_of_lt (Nat.lt_succ_of_lt hb)
     exact hm.heap b o (by simp only [List.mem_cons,List.mem_singleton,List.not_mem_nil,or_false,not_or];exact⟨hb1,hb2⟩) (keep2 b o e)
   ·cases r₂ with
    |error e=>exact hr₂
    |ok fl₂=>
     cases fl₂ with
     |ret r=>
      obtain⟨rfl,h',tk,rfl,hS',hk'⟩:=hr₂
      repeat (any_goals (first|assumption|wp_step))
      exact h _ _ hS' hk'
     |_=>exact hr₂.elim
  |_=>exact hr.elim
theorem call_set_listH {l:Addr} {items:Array Value} {val:Nat->K} {adr:Nat->Addr} {Q:Value->Shared->Prop} (D:SetKd knd) (hu:∀A':Around,A'.units<=A.units+8->knd.room A')
  (hh:A.handled=none) (hl:s.heap.IsList l items) (hi:∀(i:Nat) (v:Value),items[i]? =some v->v=Value.ref (adr i)) (hk:∀j,j<items.size->knd.is s.heap (val j) (adr j)) (hb:∀i xs,i<items.size->Met val adr i xs->(xs.map (·.1)).Nodup->xs.length<18)
  (h:∀(h':Heap) (tk:Nat) (xs:List (K×Addr)),SetIs knd {s with heap:=h',toks:=tk} s.heap.objs.size (!w.params.followText "set-order") xs->Met val adr items.size xs->
   (∀b o,b<s.heap.objs.size->s.heap.get? b=some o->h'.get? b=some o)->Q (.ref s.heap.objs.size) {s with heap:=h',toks:=tk}):
  wpAny (model prog w) A (call (.type "set") [.ref l]) Q E s:=
 call_set_gen (fun s'=>∃xs,SetIs knd s' s.heap.objs.size (!w.params.followText "set-order") xs/\Met val adr items.size xs) hh hl
  (fun s1 W hSf hA hnt st kp hS hR=>codeAny_set_update_loopH D W s.heap.objs.size hSf (hu _ hA) _ val adr hi hb hnt (items.size-0) 0 s1 [] (by omega) (Nat.zero_le _) st (fun j hj=>D.mono (hk j hj) fun b o _ e=>kp b o e) (SetIs.fresh _ _ hS) ⟨fun x hx=>(nomatch hx),fun j hj=>absurd hj (Nat.not_lt_zero _),Nat.zero_le _⟩ fun s' xs' hm S M _=>hR s' hm ⟨xs',S,M⟩)
  fun h' tk ⟨xs,S,M⟩ kp=>h h' tk xs S M kp
end
end PySem
namespace PySem
open Sem (wp)
open PyProof.Rows PySem.W
section
variable {prog:Program} {w:World} {A:Around} {E:Value->Shared->Prop} {s:Shared}
end
structure OrdKd {prog:Program} {w:World} {α:Type} [DecidableEq α] (knd:HeapKind prog w α) (ok:α->Prop) (lt:α->α->Bool):Prop where
 set:SetKd knd
 tot:∀x y,x≠y->lt x y=true∨lt y x=true
 asym:∀x y,lt x y=true->lt y x=false
 trans:∀x y z,lt x y=true->lt y z=true->lt x z=true
 first:∀{h:Heap} {k:α} {a:Addr},ok k->knd.is h k a->∃o items n i tk,h.get? a=some o/\o.cls= .type "tuple"/\o.data= .seq items n/\items[0]? =some (Value.int i tk)
 cmp:∀{A:Around} {E:Value->Shared->Prop} {b:Bool} {s:Shared} {x y:α} {p q:Addr} {Q:Bool->Shared->Prop},A.units+10<cLine->knd.is s.heap x p->knd.is s.heap y q->Q (lt x y) s->wpAny (model prog w) A (keyLt' (tuples' b) (.ref p) (.ref q)) Q E s
section
variable {prog:Program} {w:World} {A:Around} {E:Value->Shared->Prop} {s:Shared} {α:Type} [DecidableEq α] [Inhabited α] {knd:HeapKind prog w α} {ok:α->Prop} {lt:α->α->Bool}
def Tups (knd:HeapKind prog w α) (ok:α->Prop) (h:Heap) (xs:List (α×Addr)):Prop:=∀x∈xs,ok x.1/\knd.is h x.1 x.2
theorem Tups.mono (O:OrdKd knd ok lt) {h h':Heap} {xs:List (α×Addr)} (T:Tups knd ok h xs) (hs:∀b o,o.cls= .type "tuple"->h.get? b=some o->h'.get? b=some o):Tups knd ok h' xs:=fun x hx=>⟨(T x hx).1,O.set.mono (T x hx).2 hs⟩
theorem Tups.kat (O:OrdKd knd ok lt) {h:Heap}:∀{xs:List (α×Addr)},Tups knd ok h xs->∃fs:List Value,fs.length=xs.length/\(∀v∈fs,∃i tk,v=Value.int i tk)/\KatTups h (xs.map fun x=>Value.ref x.2) fs
 | [],_=>⟨[],rfl,fun v hv=>(nomatch hv),KatTups.nil⟩
 |x::xs,T=>by
  obtain⟨fs,f1,f2,f3⟩:=Tups.kat O (xs:=xs) fun y hy=>T y (List.mem_cons_of_mem _ hy)
  obtain⟨o,items,n,i,tk,ho,hc,hd,hf⟩:=O.first (T x List.mem_cons_self).1 (T x List.mem_cons_self).2
  refine⟨.int i tk::fs,by rw [List.length_cons,List.length_cons,f1],fun v hv=>?_,KatTups.cons ho hc hd hf f3⟩
  rcases List.mem_cons.mp hv with rfl|hv
  ·exact⟨_,_,rfl⟩
  ·exact f2 v hv
theorem pick_perm {α:Type} {xs:List α} {p:List Nat} (hp:p.Perm (List.range xs.length)):(p.filterMap fun i:Nat=>xs[i]?).Perm xs:=by
 have:=hp.filterMap fun i:Nat=>xs[i]?
 rw [range_filterMap]at this
 exact this
theorem list_sort_tups (O:OrdKd knd ok lt) (hu:A.units+20<cLine) {a:Addr} {xs:List (α×Addr)} {n:Nat} {P:Fin->Shared->Prop} (ho:s.heap.get? a=some (seqObj "list" (xs.map fun x=>Value.ref x.2).toArray n))
  (T:Tups knd ok s.heap xs) (nd:(xs.map (·.1)).Nodup) (h64:xs.length<64)
  (h:∀ys:List (α×Addr),ys.Perm xs->ys.Pairwise (fun x y=>lt x.1 y.1=true)->P (.done (.ret .none)) {s with heap:=sortedHeap s.heap a (xs.map fun x=>Value.ref x.2) (ys.map fun x=>Value.ref x.2).toArray}):
  wpAny (model prog w) A (Builtin.«list.sort» ⟨[.ref a],[]⟩) P E s:=by
 rw [list_sort_plain]
 have ha:a<s.heap.objs.size:=Heap.lt_size ho
 generalize hvs:(xs.map fun x=>Value.ref x.2)=vs at ho h
 have vl:vs.length=xs.length:=by rw [<-hvs,List.length_map]
 refine wpAny_bind (listItems_at ho rfl ?_)
 refine wpAny_bind (listUpdate_at ho rfl ?_ (by rw [List.size_toArray,sizeLine_eq];omega) (Nat.zero_le _))
 obtain⟨e1,ho1⟩:∃e1,(s.heap.update a (Obj.mapSeq fun _=> #[])).get? a=some (seqObj "list" #[] e1):=⟨_,get?_update_seq ho (fun _=> #[])⟩
 refine wpAny_bind (seqEpoch_at ho1 rfl ?_)
 refine wpAny_bind (wpAny_newTuple ?_ (by show vs.length<=_;rw [sizeLine_eq];omega))
 refine wpAny_bind (wpAny_newList ?_ (Nat.zero_le _))
 refine wpAny_holding ?_
 have kp:∀b o,b≠a->s.heap.get? b=some o->(((s.heap.update a (Obj.mapSeq fun _=> #[])).push (seqObj "tuple" vs.toArray 0)).push (seqObj "list" #[] 0)).get? b=some o:=fun b o hb e=>
  Heap.get?_push_of_some _ (Heap.get?_push_of_some _ ((Heap.get?_update_other _ _ (Ne.symm hb)).trans e))
 have ho6:(((s.heap.update a (Obj.mapSeq fun _=> #[])).push (seqObj "tuple" vs.toArray 0)).push (seqObj "list" #[] 0)).get? a=some (seqObj "list" #[] e1):=Heap.get?_push_of_some _ (Heap.get?_push_of_some _ ho1)
 show wpAny (model prog w) A _ P E {s with heap:=((s.heap.update a (Obj.mapSeq fun _=> #[])).push (seqObj "tuple" vs.toArray 0)).push (seqObj "list" #[] 0)}
 dsimp only
 generalize hH:((s.heap.update a (Obj.mapSeq fun _=> #[])).push (seqObj "tuple" vs.toArray 0)).push (seqObj "list" #[] 0)=H at ho6 kp
 have T6:Tups knd ok H xs:=T.mono O fun b o hc e=>kp b o (fun z=>by subst z;rw [ho]at e;cases e;exact absurd (show Value.type "list"=Value.type "tuple" from hc) (by decide)) e
 have fin:∀out:Array Value,sortedHeap s.heap a vs out=H.update a (Obj.mapSeq fun _=>out):=fun out=>by rw [<-hH];rfl
 by_cases h2:vs.toArray.size<2
 ·rw [if_pos h2,if_pos h2]
  refine wpAny_bind (wpAny_pure ?_)
  rw [StateT.run_pure]
  refine wpAny_bind (wpAny_pure ?_)
  dsimp only
  refine wpAny_bind (seqEpoch_at ho6 rfl ?_)
  have ev:(pairsOf vs).map (·.2)=vs.toArray:=by
   apply Array.toList_inj.mp
   rw [Array.toList_map,pairsOf_toList]
   exact List.map_snd_zip (Nat.le_refl _)
  have hz:((pairsOf vs).map (·.2)).size<=sizeLine+1:=by rw [ev,List.size_toArray,sizeLine_eq];omega
  refine wpAny_bind (listUpdate_at ho6 rfl ?_ (Nat.zero_le _) hz)
  simp only [bne_self_eq_false,Bool.false_eq_true,if_false]
  refine wpAny_pure ?_
  have q:=h xs (List.Perm.refl _) (by
   rw [List.size_toArray,vl]at h2
   match xs,h2 with
   | [],_=>exact .nil
   | [x],_=>exact List.pairwise_singleton _ _)
  rw [fin,hvs]at q
  have q':P (.done (.ret .none)) {s with heap:=H.update a (Obj.mapSeq fun _=>(pairsOf vs).map (·.2))}:=by rw [ev];exact q
  exact q'
 ·rw [if_neg h2,if_neg h2]
  rw [List.size_toArray]at h2
  obtain⟨fs,f1,f2,f3⟩:=Tups.kat O T6
  rw [hvs]at f3
  refine wpAny_bind (kat_kind (T:=Value.type "int") f3 (by omega) (fun v hv=>?_) rfl ?_)
  ·obtain⟨i,tk,rfl⟩:=f2 v hv
   exact Looks.of_pure rfl
  ·have keyd:∀i,i<xs.length->xs[i]? =some (xs.getD i (default,0))/\vs.getD i Value.none= .ref (xs.getD i (default,0)).2:=fun i hi=>by
    rw [<-hvs]
    simp [List.getD,hi]
   have S:Strict xs.length fun i j=>lt (xs.getD i (default,0)).1 (xs.getD j (default,0)).1:=by
    refine⟨fun i j hi hj ne=>O.tot _ _ fun z=>ne ?_,fun i j=>O.asym _ _,fun i j k=>O.trans _ _ _⟩
    have li:i<(xs.map (·.1)).length:=by rw [List.length_map];exact hi
    have lj:j<(xs.map (·.1)).length:=by rw [List.length_map];exact hj
    refine(List.getElem_inj (h₀:=li) (h₁:=lj) nd).mp ?_
    simpa [List.getD,hi,hj]using z
   have wy:=sort_way S (by omega)
   rw [<-vl]at wy
   refine wpAny_bind (wpAny_mono (kat_run (ks:=vs) (vs:=vs) (Q:=fun st' s'=>s'={s with heap:=H}/\∃p:Array Nat,p.size=vs.length/\arrOf st'=p.map (kas_item (vs.toArray.zip vs.toArray))/\failedOf st'=none/\Tidy vs.length p/\Rises (fun i j=>lt (xs.getD i (default,0)).1 (xs.getD j (default,0)).1) p vs.length)
    (G:=fun p s'=>s'={s with heap:=H}/\Tidy vs.length p/\Rises (fun i j=>lt (xs.getD i (default,0)).1 (xs.getD j (default,0)).1) p vs.length) rfl (by omega) (by omega) (fun p st' s' a1 a2 a3 a4=>⟨a4.1,p,a1,a2,a3,a4.2⟩)
    (KasT.way_wp (fun i j C hi hj hC=>?_) (fun p hp=>⟨rfl,hp⟩) _ wy)) ?_ fun _ _ e=>e)
   ·have hi:i<vs.length:=hi
    have hj:j<vs.length:=hj
    rw [vl]at hi hj
    show wpAny _ _ (keyLt' _ (vs.getD i Value.none) (vs.getD j Value.none)) _ _ _
    obtain⟨a1,a2⟩:=keyd i hi
    obtain⟨b1,b2⟩:=keyd j hj
    rw [a2,b2]
    exact O.cmp (by omega) (T6 _ (List.mem_of_getElem? a1)).2 (T6 _ (List.mem_of_getElem? b1)).2 hC
   ·rintro⟨⟨⟩,st'⟩ s' ⟨rfl,p,hp,har,hf,hT,hR⟩
    dsimp only
    have hout:=kat_snds rfl har
    have pm:p.toList.Perm (List.range xs.length):=by rw [<-vl];exact hT
    have ey:(p.toList.map fun i=>vs.getD i Value.none)=(p.toList.filterMap fun i:Nat=>xs[i]?).map fun x=>Value.ref x.2:=by
     rw [List.map_filterMap]
     have:∀l:List Nat,(∀i∈l,i<xs.length)->(l.map fun i=>vs.getD i Value.none)=l.filterMap fun i:Nat=>(xs[i]?).map fun x=>Value.ref x.2:=by
      intro l
      induction l with
      |nil=>intro _;rfl
      |cons i l ih=>
       intro hl
       obtain⟨a1,a2⟩:=keyd i (hl i List.mem_cons_self)
       rw [List.map_cons,List.filterMap_cons,a1,ih fun j hj=>hl j (List.mem_cons_of_mem _ hj),a2]
       rfl
     exact this _ fun i hi=>List.mem_range.mp (pm.mem_iff.mp hi)
    have hsz:(List.toArray (p.toList.map fun i=>vs.getD i Value.none)).size<=sizeLine+1:=by rw [List.size_toArray,List.length_map,Array.length_toList,hp,sizeLine_eq];omega
    refine wpAny_bind (seqEpoch_at ho6 rfl ?_)
    rw [hout]
    refine wpAny_bind (listUpdate_at ho6 rfl ?_ (Nat.zero_le _) hsz)
    rw [hf]
    simp only [bne_self_eq_false,Bool.false_eq_true,if_false]
    refine wpAny_pure ?_
    have q:=h (p.toList.filterMap fun i:Nat=>xs[i]?) (pick_perm pm) (by
     rw [List.pairwise_iff_getElem]
     intro i j hi hj hij
     have pl:p.toList.length=xs.length:=by rw [pm.length_eq,List.length_range]
     have fl:=(pick_perm pm).length_eq
     have gt:∀r,(hr:r<(p.toList.filterMap fun i:Nat=>xs[i]?).length)->(p.toList.filterMap fun i:Nat=>xs[i]?)[r]=xs.getD (vAt p r) (default,0):=fun r hr=>by
      have hr':r<p.toList.length:=by omega
      have e1:=filterMap_get (f:=fun i:Nat=>xs[i]?) (l:=p.toList) (fun i hi=>⟨_,List.getElem?_eq_getElem (List.mem_range.mp (pm.mem_iff.mp hi))⟩) r
      rw [List.getElem?_eq_getElem hr,List.getElem?_eq_getElem hr']at e1
      have e2:vAt p r=p.toList[r]:=by rw [vAt_get, <-Array.getElem?_toList,List.getElem?_eq_getElem hr'];rfl
      rw [e2]
      have lt:p.toList[r]<xs.length:=List.mem_range.mp (pm.mem_iff.mp (List.getElem_mem hr'))
      have e3:(some p.toList[r]).bind (fun i:Nat=>xs[i]?)=some (xs.getD p.toList[r] (default,0)):=(keyd _ lt).1
      rw [e3]at e1
      exact Option.some.inj e1
     rw [gt i hi,gt j hj]
     exact hR i j hij (by omega))
    rw [fin, <-ey]at q
    exact q
theorem sorted_set (O:OrdKd knd ok lt) (hu:A.units+30<cLine) {S:Addr} {xs:List (α×Addr)} {Q:Value->Shared->Prop} (hh:A.handled=none) (I:SetIs knd s S (!w.params.followText "set-order") xs) (ne:∀x∈xs,ok x.1) (h64:xs.length<64)
  (h:∀(h':Heap) (tk:Nat) (l:Addr) (e:Nat) (ys:List (α×Addr)),ys.Perm xs->ys.Pairwise (fun x y=>lt x.1 y.1=true)->s.heap.objs.size<=l->h'.get? l=some (seqObj "list" (ys.map fun x=>Value.ref x.2).toArray e)->
   (∀b o,s.heap.get? b=some o->h'.get? b=some o)->Q (.ref l) {s with heap:=h',toks:=tk}):
  wpAny (model prog w) A (call (.builtin "sorted") [.ref S]) Q E s:=by
 obtain⟨o,es,ep,t,I,sm,pl,ld⟩:=I
 refine Calls.call_function_entry kind_sorted plain_sorted entry_sorted (args_sorted1 _) ?_
 unfold Builtin.«sorted»
 refine wpAny_bind (m:=checkCount "sorted" 1 1 _) (wpAny_pure ?_)
 have esz:es.size<64:=by rw [I.len];exact h64
 refine wpAny_bind (wpAny_collect_set (by simpa using hh) I.ho I.hex I.hd I.fits I.good.rise pl ld (by rw [sizeLine_eq];omega) fun h1 tk1 s1 k1=>?_)
 have op:=setOrd_perm w S es ep
 have eo:es.toList.map (·.2)=xs.map fun x=>Value.ref x.2:=by rw [I.he,List.map_map];rfl
 rw [eo]at op
 obtain⟨zs,pz,ez⟩:∃zs:List (α×Addr),zs.Perm xs/\setOrd w S es ep=zs.map fun x=>Value.ref x.2:=by
  have:∀{l:List Value} {xs:List (α×Addr)},l.Perm (xs.map fun x=>Value.ref x.2)->∃zs:List (α×Addr),zs.Perm xs/\l=zs.map fun x=>Value.ref x.2:=fun{l xs} hp=>by
   generalize hm:(xs.map fun x=>Value.ref x.2)=m at hp
   induction hp generalizing xs with
   |nil=>exact⟨xs,List.Perm.refl _,hm.symm⟩
   |cons a p ih=>
    match xs,hm with
    |x::xs,hm=>
     obtain⟨e1,e2⟩:=List.cons.inj hm
     obtain⟨zs,z1,z2⟩:=ih e2
     exact⟨x::zs,z1.cons x,by rw [z2, <-e1];rfl⟩
   |swap a b l=>
    match xs,hm with
    |x::y::xs,hm=>
     obtain⟨e1,e2⟩:=List.cons.inj hm
     obtain⟨e2,e3⟩:=List.cons.inj e2
     exact⟨y::x::xs,List.Perm.swap _ _ _,by rw [<-e1, <-e2, <-e3];rfl⟩
   |trans p1 p2 ih1 ih2=>
    obtain⟨zs,z1,z2⟩:=ih2 hm
    obtain⟨us,u1,u2⟩:=ih1 z2.symm
    exact⟨us,u1.trans z1,u2⟩
  exact this op
 rw [ez]
 have zl:zs.length=xs.length:=pz.length_eq
 refine wpAny_bind (wpAny_newList ?_ (by rw [List.length_map,sizeLine_eq];omega))
 have hoL:(h1.push (seqObj "list" (zs.map fun x=>Value.ref x.2).toArray 0)).get? h1.objs.size=some (seqObj "list" (zs.map fun x=>Value.ref x.2).toArray 0):=Heap.get?_push_size _ rfl
 have T1:Tups knd ok (h1.push (seqObj "list" (zs.map fun x=>Value.ref x.2).toArray 0)) zs:=fun x hx=>⟨ne x (pz.mem_iff.mp hx),O.set.mono (I.keys x (pz.mem_iff.mp hx)) fun b o _ e=>Heap.get?_push_of_some _ (k1 b o e)⟩
 refine wpAny_bind (wpAny_holding (wpAny_call_entry slot_list_sort ⟨_,hoL,rfl⟩ entry_list_sort (list_sort_tups O (by first|omega|(show A.units+1+20<cLine;omega)|(show A.units+2+20<cLine;omega)|(show A.units+3+20<cLine;omega)) hoL T1 (by rw [(pz.map (·.1)).nodup_iff];exact I.nd) (by omega) fun ys py hy=>⟨_,rfl,?_⟩) (args_list_sort _)))
 refine wpAny_pure ⟨_,rfl,?_⟩
 obtain⟨e,he⟩:=sortedHeap_at (out:=(ys.map fun x=>Value.ref x.2).toArray) hoL
 refine h _ tk1 _ e ys (py.trans pz) hy (Nat.le_of_lt s1) he fun b o q=>?_
 have hb:b<h1.objs.size:=Heap.lt_size (k1 b o q)
 rw [sortedHeap_old (Nat.ne_of_lt hb) (by rw [Heap.size_push];exact Nat.lt_succ_of_lt hb)]
 exact Heap.get?_push_of_some _ (k1 b o q)
end
section
variable {prog:Program} {w:World}
def lexP (x y:Int×List Int):Bool:=if x.1=y.1 then lexB x.2 y.2 else decide (x.1<y.1)
theorem pairOrd (hv:∀k v,(intKind prog w).is k v=true->∃i tk,v=Value.int i tk):OrdKd (pairKind (intKind prog w)) (fun _=>True) lexP where
 set:=pairKd hv
 tot:=fun x y ne=>by
  unfold lexP
  by_cases e:x.1=y.1
  ·rw [if_pos e,if_pos e.symm]
   exact lexB_tot _ _ fun z=>ne (Prod.ext e z)
  ·rw [if_neg e,if_neg (Ne.symm e),decide_eq_true_iff,decide_eq_true_iff]
   omega
 asym:=fun x y h=>by
  unfold lexP at h⊢
  by_cases e:x.1=y.1
  ·rw [if_pos e]at h
   rw [if_pos e.symm]
   exact lexB_asym _ _ h
  ·rw [if_neg e,decide_eq_true_iff]at h
   rw [if_neg (Ne.symm e),decide_eq_false_iff_not]
   omega
 trans:=fun x y z h1 h2=>by
  unfold lexP at h1 h2⊢
  by_cases e1:x.1=y.1
  ·rw [if_pos e1]at h1
   by_cases e2:y.1=z.1
   ·rw [if_pos e2]at h2
    rw [if_pos (e1.trans e2)]
    exact lexB_trans _ _ _ h1 h2
   ·rw [if_neg e2,decide_eq_true_iff]at h2
    rw [if_neg (by omega),decide_eq_true_iff]
    omega
  ·rw [if_neg e1,decide_eq_true_iff]at h1
   by_cases e2:y.1=z.1
   ·rw [if_neg (by omega),decide_eq_true_iff]
    omega
   ·rw [if_neg e2,decide_eq_true_iff]at h2
    rw [if_neg (by omega),decide_eq_true_iff]
    omega
 first:=fun _ hk=>by
  obtain⟨o,v,b,n,ho,hc,hd,h1,_⟩:=hk
  obtain⟨tk,rfl⟩:=Value.isInt_shape h1
  exact⟨o,_,n,_,tk,ho,hc,hd,rfl⟩
 cmp:=fun{A E b s x y p q Q} hu hx hy h=>by
  obtain⟨ox,v,px,nx,h1,h2,h3,h4,h5⟩:=hx
  obtain⟨oy,v',py,ny,g1,g2,g3,g4,g5⟩:=hy
  obtain⟨tu,rfl⟩:=Value.isInt_shape h4
  obtain⟨tv,rfl⟩:=Value.isInt_shape g4
  refine kat_lt h1 h3 g1 g3 ?_
  show KatLex prog w A b _ Q [(_,_),(_,_)] 0 s
  refine kat_cons (wpAny_eqBool_int ?_)
  unfold lexP at h
  by_cases e:x.1=y.1
  ·rw [if_pos e]at h
   rw [beq_iff_eq.mpr e]
   refine kat_yes (kat_cons ((tupleKind (intKind prog w)).eqBool (show A.units<cLine by omega) h5 g5 ?_))
   by_cases e2:x.2=y.2
   ·rw [decide_eq_true e2]
    refine kat_yes (kat_nil ?_)
    rw [e2,lexB_irr]at h
    exact h
   ·rw [decide_eq_false e2]
    refine kat_no ?_
    rw [show(b && (0+1==0))=false by cases b<;>rfl]
    exact kat_one _ _ (LtN.tups (n:=A.units) h5 g5 (by omega) A (Nat.le_refl _) prog w _ _ h)
  ·rw [if_neg e]at h
   rw [beq_eq_false_iff_ne.mpr e]
   refine kat_no ?_
   rw [show(b && (0==0))=b by cases b<;>rfl]
   cases b with
   |true=>exact oneLt_int h
   |false=>exact kat_one _ _ (PyProof.Rows.lt_int (Q:=PySem.W.BoolBack Q) h)
end
end PySem
namespace PySem
open Sem (wp)
def tab3 (l:Bool) (zs:List Nat):SetTable:={mask:=7,place:=zs.toArray,dummies:= #[],finger:=0,led:=l,moves:=0,plain:=true}
def ents3 (zs:List Nat) (tk:Nat->Tok):Array (Int×Value):=(zs.map fun z:Nat=>((z:Int),Value.int (z:Int) (tk z))).toArray
def subs3:List (List Nat):=[[],[1],[2],[3],[1,2],[1,3],[2,3],[1,2,3]]
def ins3 (x:Nat) (zs:List Nat):List Nat:=[1,2,3].filter fun z=>decide (z=x∨z∈zs)
theorem ins3_sub (x:Nat) (zs:List Nat):ins3 x zs∈subs3:=by
 unfold ins3
 by_cases h1:1=x∨1∈zs<;>by_cases h2:2=x∨2∈zs<;>by_cases h3:3=x∨3∈zs<;>simp [List.filter,h1,h2,h3,subs3]
theorem ins3_mem {x z:Nat} {zs:List Nat} (hz:zs∈subs3) (hx:x∈[1,2,3]):z∈ins3 x zs↔z=x∨z∈zs:=by
 unfold ins3
 rw [List.mem_filter,decide_eq_true_iff]
 refine⟨fun h=>h.2,fun h=>⟨?_,h⟩⟩
 rcases h with rfl|h
 ·exact hx
 ·simp only [subs3,List.mem_cons,List.not_mem_nil,or_false]at hz
  rcases hz with rfl|rfl|rfl|rfl|rfl|rfl|rfl|rfl<;>simp at h⊢ <;>omega
theorem lay3 {l:Bool} {zs:List Nat} {x:Nat} {tk:Nat->Tok} {t:Tok} (hz:zs∈subs3) (hx:x∈[1,2,3]) (hn:x∉zs):
  layNew (tab3 l zs) (ents3 zs tk) (x:Int) (.int x t)=(ents3 (ins3 x zs) (fun z=>if z=x then t else tk z),tab3 l (ins3 x zs),false,false):=by
 simp only [subs3,List.mem_cons,List.not_mem_nil,or_false]at hz hx
 rcases hz with rfl|rfl|rfl|rfl|rfl|rfl|rfl|rfl<;>rcases hx with rfl|rfl|rfl<;>first|(exact absurd (by decide) hn)|(cases l<;>kernel_rfl)
section
variable {prog:Program} {w:World} {A:Around} {E:Value->Shared->Prop} {s:Shared}
def SetI (s:Shared) (a:Addr) (l:Bool) (zs:List Nat):Prop:=∃o ep tk,s.heap.get? a=some o/\o.ExactSet/\o.data= .set (ents3 zs tk) ep (tab3 l zs)/\zs∈subs3
theorem size3 (zs:List Nat) (tk:Nat->Tok):(ents3 zs tk).size=zs.length:=by simp [ents3]
theorem len3:∀zs∈subs3,zs.length<=3:=by decide
theorem fits3 {l:Bool} {zs:List Nat} {tk:Nat->Tok} (hz:zs∈subs3):(tab3 l zs).fits (ents3 zs tk).size=true:=by
 simp only [subs3,List.mem_cons,List.not_mem_nil,or_false]at hz
 rcases hz with rfl|rfl|rfl|rfl|rfl|rfl|rfl|rfl<;>rfl
theorem hash3 {x:Nat} (hx:x∈[1,2,3]):(intKind prog w).hash (x:Int)=(x:Int):=by
 simp only [List.mem_cons,List.not_mem_nil,or_false]at hx
 rcases hx with rfl|rfl|rfl<;>rfl
theorem elems3 {zs:List Nat} {tk:Nat->Tok} (hz:zs∈subs3):ElemsOf (intKind prog w) (ents3 zs tk).toList:=by
 intro e he
 obtain⟨z,hm,rfl⟩:=List.mem_map.mp (show e∈zs.map _ from he)
 have:z∈[1,2,3]:=by
  simp only [subs3,List.mem_cons,List.not_mem_nil,or_false]at hz
  rcases hz with rfl|rfl|rfl|rfl|rfl|rfl|rfl|rfl<;>simp at hm⊢ <;>omega
 exact⟨⟨(z:Int),intKind_is _ _ _ _,(hash3 this).symm⟩,rfl⟩
theorem wpAny_setAdd3 {a:Addr} {l:Bool} {zs:List Nat} {x:Nat} {t:Tok} {Q:Bool->Shared->Prop} (hx:x∈[1,2,3]) (S:SetI s a l zs) (h:∀(b:Bool) h',Heap.SameBut a s.heap h'->SetI {s with heap:=h'} a l (ins3 x zs)->Q b {s with heap:=h'}):
  wpAny (model prog w) A (setAddHashed a (.int x t) (x:Int)) Q E s:=by
 obtain⟨o,ep,tk,ho,hex,hd,hz⟩:=S
 have hel:=elems3 (prog:=prog) (w:=w) (tk:=tk) hz
 have hsz:(ents3 zs tk).size<=3:=by rw [size3];exact len3 zs hz
 unfold setAddHashed setAddHashedIn
 refine wpAny_holding (wpAny_bind (wpAny_setState_of ho hd (fits3 hz) ?_))
 dsimp only
 rw [byScan_of (knd:=intKind prog w) rfl (by unfold scanBound;omega) hel]
 simp only [↓reduceIte]
 unfold setAddByScan
 refine wpAny_bind ?_
 refine wpAny_bind (wpAny_rule ?_)
 have hkey:(intKind prog w).is (x:Int) (.int x t)=true:=intKind_is _ _ _ _
 have e1:wpAny (model prog w) A (setScan a (.int x t) (x:Int) true (ents3 zs tk)) (fun r s'=>s'=s/\r=(match (ents3 zs tk).toList.findIdx? (fun e=>(intKind prog w).is (x:Int) e.2)with|some j=> .found (0+j)|none=> .absent)) E s:=by
  have:=wpAny_setScan_of (knd:=intKind prog w) (adding:=true) (A:=A) (E:=E) (Q:=fun r s'=>s'=s/\r=(match (ents3 zs tk).toList.findIdx? (fun e=>(intKind prog w).is (x:Int) e.2)with|some j=> .found (0+j)|none=> .absent)) hkey ho hd (fits3 hz) hel ⟨rfl,rfl⟩
  rw [hash3 hx]at this
  exact this
 refine wpAny_bind (wpAny_mono e1 (fun r s' hr=>?_) fun _ _ z=>z)
 obtain⟨rfl,rfl⟩:=hr
 have mem:(∃e∈(ents3 zs tk).toList,(intKind prog w).is (x:Int) e.2=true)↔x∈zs:=by
  constructor
  ·rintro⟨e,he,hk⟩
   obtain⟨z,hm,rfl⟩:=List.mem_map.mp (show e∈zs.map _ from he)
   have:(x:Int)=(z:Int):=(intKind prog w).inj _ _ _ hk (intKind_is _ _ _ _)
   have:x=z:=by omega
   rw [this];exact hm
  ·intro hm
   exact⟨_,List.mem_map.mpr ⟨x,hm,rfl⟩,intKind_is _ _ _ _⟩
 cases hr:List.findIdx? (fun e=>(intKind prog w).is (x:Int) e.2) (ents3 zs tk).toList with
 |some j=>
  dsimp only
  obtain⟨hj,hpj,_⟩:=List.findIdx?_eq_some_iff_getElem.mp hr
  have hin:=mem.mp ⟨_,List.getElem_mem hj,hpj⟩
  refine wpAny_pure (wpAny_pure ?_)
  have same:ins3 x zs=zs:=by
   simp only [subs3,List.mem_cons,List.not_mem_nil,or_false]at hz hx
   rcases hz with rfl|rfl|rfl|rfl|rfl|rfl|rfl|rfl<;>rcases hx with rfl|rfl|rfl<;>first|(exact absurd hin (by decide))|rfl
  have:=h false s'.heap (Heap.SameBut.refl a s'.heap) (by rw [same];exact⟨o,ep,tk,ho,hex,hd,hz⟩)
  exact this
 |none=>
  dsimp only
  have hn:x∉zs:=fun hm=>by
   obtain⟨e,he,hp⟩:=mem.mpr hm
   have:=List.findIdx?_eq_none_iff.mp hr e he
   rw [hp]at this
   exact Bool.noConfusion this
  rw [lay3 hz hx hn]
  dsimp only
  refine wpAny_bind (wpAny_pure ?_)
  rw [if_pos (show(tab3 l (ins3 x zs)).plain=true from rfl)]
  refine wpAny_bind ?_
  rw [hashByValue_scannable 8 (show(Value.int x t).scannable=true from rfl)]
  refine wpAny_pure ?_
  rw [if_pos (show plainKind (Value.int x t)=true from rfl)]
  have hsz2:(ents3 (ins3 x zs) (fun z=>if z=x then t else tk z)).size<=3:=by rw [size3];exact len3 _ (ins3_sub x zs)
  refine wpAny_bind (wpAny_storeSet_of ho hd ?_ (by rw [sizeLine_eq];omega))
  have nf:(!false && (tab3 l (ins3 x zs)).tooFull)=false:=by
   have:=ins3_sub x zs
   generalize ins3 x zs=ys at this
   simp only [subs3,List.mem_cons,List.not_mem_nil,or_false]at this
   rcases this with rfl|rfl|rfl|rfl|rfl|rfl|rfl|rfl<;>rfl
  rw [nf]
  simp only [Bool.false_eq_true,if_false]
  refine wpAny_pure (wpAny_pure ?_)
  have hg:(s'.heap.update a (Obj.putSet (ents3 (ins3 x zs) (fun z=>if z=x then t else tk z)) (tab3 l (ins3 x zs)))).get? a=some {o with data:= .set (ents3 (ins3 x zs) (fun z=>if z=x then t else tk z)) (ep+1) (tab3 l (ins3 x zs))}:=by
   have:=Heap.get?_update_self (Obj.putSet (ents3 (ins3 x zs) (fun z=>if z=x then t else tk z)) (tab3 l (ins3 x zs))) ho (by rw [putSet_of _ _ hd];rfl)
   rw [putSet_of _ _ hd]at this
   exact this
  exact h true _ (Heap.SameBut.update s'.heap a (Obj.putSet _ _)) ⟨_,_,_,hg,hex,rfl,ins3_sub x zs⟩
def met3 (val:Nat->Nat):Nat->List Nat
 |0=>[]
 |i+1=>ins3 (val i) (met3 val i)
theorem met3_sub (val:Nat->Nat):∀i,met3 val i∈subs3
 |0=>by simp [met3,subs3]
 |i+1=>ins3_sub _ _
theorem met3_mem {val:Nat->Nat} {n:Nat} (hv:∀i,i<n->val i∈[1,2,3]):∀i,i<=n->∀z,z∈met3 val i↔ ∃j,j<i/\val j=z
 |0,_,z=>by simp [met3]
 |i+1,h,z=>by
  rw [met3,ins3_mem (met3_sub val i) (hv i (by omega)),met3_mem hv i (by omega) z]
  constructor
  ·rintro(rfl|⟨j,h1,h2⟩)
   ·exact⟨i,by omega,rfl⟩
   ·exact⟨j,by omega,h2⟩
  ·rintro⟨j,h1,h2⟩
   by_cases e:j=i
   ·subst e;exact .inl h2.symm
   ·exact .inr ⟨j,by omega,h2⟩
theorem codeAny_set_update_loop3 {R:Result->Shared->Prop} {I:Addr} {fp wr:List Addr} {G:Array GenState->Array GenState->Prop} {n:Nat} {P:Nat->Value->Prop} {St:Nat->Shared->Prop}
  (W:WalksS prog w A.in1 I fp wr G n P St) (S:Addr) (hSf:S∉fp) (l:Bool)
  (val:Nat->Nat) (hval:∀i v,P i v->∃t,v= .int (val i) t) (h3:∀i,i<n->val i∈[1,2,3]):
  ∀(k i:Nat) (s:Shared),n-i=k->i<=n->St i s->SetI s S l (met3 val i)->
   (∀s',Moved (S::wr) G s s'->SetI s' S l (met3 val n)->R (.ok (.ret .none)) s')->
   codeAny (model prog w) A (.builtin "set.update.loop" ⟨[.ref S,.ref I],[]⟩) R s:=by
 have hSw:S∉wr:=fun h=>hSf (W.sub _ h)
 have hsub:∀b∈wr,b∈S::wr:=fun b hb=>List.mem_cons_of_mem _ hb
 intro k
 induction k with
 |zero=>
  intro i s hk hi hst hS hR
  have hin:i=n:=by omega
  subst hin
  refine codeAny_builtin PyProof.Rows.F.entry_set_update_loop ?_
  rw [Around.under_plainId PyProof.Rows.F.plain_set_update_loop _]
  show wpAny _ A.in1 (pyNext (.ref I)>>=_) _ _ s
  refine wpAny_bind (W.done s _ _ hst fun s' hm=>?_)
  show wpAny _ A.in1 (ret Value.none) _ _ s'
  exact wpAny_pure (hR s' (hm.mono hsub) (by
   obtain⟨o,ep,tk,ho,rest⟩:=hS
   exact⟨o,ep,tk,hm.heap S _ hSw ho,rest⟩))
 |succ k ih=>
  intro i s hk hi hst hS hR
  have hlt:i<n:=by omega
  refine codeAny_builtin PyProof.Rows.F.entry_set_update_loop ?_
  rw [Around.under_plainId PyProof.Rows.F.plain_set_update_loop _]
  show wpAny _ A.in1 (pyNext (.ref I)>>=_) _ _ s
  refine wpAny_bind (W.item i s _ _ hlt hst fun v s' hP hst' hm=>?_)
  obtain⟨t,rfl⟩:=hval i v hP
  have hS':SetI {s' with toks:=s'.toks+1} S l (met3 val i):=by
   obtain⟨o,ep,tk,ho,rest⟩:=hS
   exact⟨o,ep,tk,hm.heap S _ hSw ho,rest⟩
  show wpAny _ A.in1 (holding [Value.int (val i) t] (setAdd S (.int (val i) t))>>=_) _ _ s'
  refine wpAny_bind (wpAny_holding ?_)
  unfold setAdd
  refine wpAny_holding ?_
  refine wpAny_bind ((intKind prog w).pyHash (k:=(val i:Int)) (intKind_is _ _ _ _) ?_)
  rw [hash3 (h3 i hlt)]
  refine wpAny_setAdd3 (s:={s' with toks:=s'.toks+1}) (h3 i hlt) hS' fun b h' hsb hS2=>?_
  refine wpAny_pure ⟨plainId_quiet PyProof.Rows.F.plain_set_update_loop _,ih (i+1) _ (by omega) hlt (W.frame _ s' _ _ hst' (Nat.le_succ _) fun b hb o e=>?_) hS2 fun s'' hm'' hS''=>?_⟩
  ·rw [hsb.2 b (fun h:b=S=>hSf (by rw [<-h];exact hb))];exact e
  ·refine hR s'' (Moved.trans W.gtrans ((hm.mono hsub).then_heap (Nat.le_succ _) fun b o hb e=>?_) hm'') hS''
   rw [hsb.2 b (fun h:b=S=>hb (by rw [h];exact List.mem_cons_self))];exact e
theorem call_set_list3 {l:Addr} {items:Array Value} {val:Nat->Nat} {Q:Value->Shared->Prop} (hh:A.handled=none) (hl:s.heap.IsList l items) (hi:∀(i:Nat) (v:Value),items[i]? =some v->∃t,v= .int (val i) t) (h3:∀j,j<items.size->val j∈[1,2,3])
  (h:∀(h':Heap) (tk:Nat),SetI {s with heap:=h',toks:=tk} s.heap.objs.size (!w.params.followText "set-order") (met3 val items.size)->(∀b o,b<s.heap.objs.size->s.heap.get? b=some o->h'.get? b=some o)->Q (.ref s.heap.objs.size) {s with heap:=h',toks:=tk}):
  wpAny (model prog w) A (call (.type "set") [.ref l]) Q E s:=
 call_set_gen (fun s'=>SetI s' s.heap.objs.size (!w.params.followText "set-order") (met3 val items.size)) hh hl
  (fun s1 W hSf hA hnt st kp hS hR=>codeAny_set_update_loop3 W s.heap.objs.size hSf _ val hi h3 (items.size-0) 0 s1 (by omega) (Nat.zero_le _) st ⟨_,0,fun _=>0,hS,⟨rfl,rfl,rfl⟩,rfl,by simp [met3,subs3]⟩ fun s' hm S=>hR s' hm S)
  fun h' tk S kp=>h h' tk S kp
end
end PySem
namespace L2
open PySem PySem.Spec PyProof.Rows
section
variable {prog:Program} {w:World} {A:Around} {R:Result->Shared->Prop} {s:Shared}
theorem compLoop_any {elt target iter:Expr} {scope:Scope} {pos:Pos} {it acc:Value} {env:Env} (I:Nat->Shared->Prop)
  (turn:∀n s,I n s->wpAny (model prog w) A (pyNext it) (fun r s₁=>match r with
   |none=>R (.ok .next) s₁
   |some v=>wpAny (model prog w) A (letOwnedTupleGo target it v) (fun _ s₁'=>wpAny (model prog w) A (assign target env v) (fun _ s₂=>wpAny (model prog w) A (eval elt env) (fun x s₃=>
     wpAny (model prog w) A (call (.builtin "list.append") [acc,x]) (fun _ s₄=>∃m,m<n/\I m s₄) (fun _ _=>False) s₃) (fun _ _=>False) s₂) (fun _ _=>False) s₁') (fun _ _=>False) s₁) (fun _ _=>False) s)
  (n:Nat) (h:I n s):
  codeAny (model prog w) A (.compLoop (.ListComp elt [⟨target,iter,[],0⟩] scope pos) 0 it acc env) R s:=by
 refine codeAny_loop rfl I (fun n s hI=>?_) n h
 show wpAny _ _ ((compTurn (.ListComp elt [⟨target,iter,[],0⟩] scope pos) 0 it acc env).onRaise (fun x=>do noteFrame x env;theTreesLotGoes x)) _ _ s
 refine wpAny_noted ?_
 rw [compTurn_list1]
 refine wpAny_bind (wpAny_standAt (wpAny_bind (wpAny_mono (turn n s hI) (fun r s₁ h₁=>?_) fun _ _ h'=>h'.elim)))
 cases r with
 |none=>exact wpAny_pure h₁
 |some v=>
  refine wpAny_bind (wpAny_mono h₁ (fun _ s₁' h₁'=>?_) fun _ _ h'=>h'.elim)
  exact wpAny_bind (wpAny_mono h₁' (fun _ s₂ h₂=>wpAny_bind (wpAny_bind (wpAny_mono h₂ (fun x s₃ h₃=>wpAny_bind (wpAny_mono h₃
   (fun _ s₄ h₄=>wpAny_pure (wpAny_pure ⟨rfl,h₄⟩)) fun _ _ h'=>h'.elim)) fun _ _ h'=>h'.elim))) fun _ _ h'=>h'.elim)
end
theorem lookup_relabel_free {env:Env} (hk:env.scope.kind= .function):∀{names:List (Str×NameKind)} {x:Str},names.lookup x=some .free->env.kindOf x=some .cell->
  (names.map fun(n,k)=>if(k==NameKind.free && env.scope.kind== .function && env.kindOf n==some .cell)then(n,NameKind.cell)else(n,k)).lookup x=some .cell
 | [],_,h,_=>by simp at h
 |(n,k)::r,x,h,hc=>by
  have ih:=@lookup_relabel_free env hk r x
  show List.lookup x ((if(k==NameKind.free && env.scope.kind== .function && env.kindOf n==some .cell)=true then(n,NameKind.cell)else(n,k))::_)=_
  cases hx:x==n with
  |true=>
   have e:x=n:=eq_of_beq hx
   subst e
   simp only [List.lookup_cons,hx]at h
   cases h
   rw [if_pos (by rw [hk,hc];rfl)]
   simp [List.lookup_cons]
  |false=>
   simp only [List.lookup_cons,hx]at h
   by_cases hcc:(k==NameKind.free && env.scope.kind== .function && env.kindOf n==some .cell)=true
   ·rw [if_pos hcc];simp only [List.lookup_cons,hx];exact ih h hc
   ·rw [if_neg hcc];simp only [List.lookup_cons,hx];exact ih h hc
theorem lookup_relabel_inv {env:Env}:∀{names:List (Str×NameKind)} {x:Str},((names.map fun(n,k)=>if(k==NameKind.free && env.scope.kind== .function && env.kindOf n==some .cell)then(n,NameKind.cell)else(n,k)).lookup x=some .cell∨
  (names.map fun(n,k)=>if(k==NameKind.free && env.scope.kind== .function && env.kindOf n==some .cell)then(n,NameKind.cell)else(n,k)).lookup x=some .free)->names.lookup x=some .free∨names.lookup x=some .cell
 | [],_,h=>by simp at h
 |(n,k)::r,x,h=>by
  have ih:=@lookup_relabel_inv env r x
  replace h:List.lookup x ((if(k==NameKind.free && env.scope.kind== .function && env.kindOf n==some .cell)=true then(n,NameKind.cell)else(n,k))::_)=_∨List.lookup x ((if(k==NameKind.free && env.scope.kind== .function && env.kindOf n==some .cell)=true then(n,NameKind.cell)else(n,k))::_)=_:=h
  cases hx:x==n with
  |true=>
   simp only [List.lookup_cons,hx]
   by_cases hcc:(k==NameKind.free && env.scope.kind== .function && env.kindOf n==some .cell)=true
   ·have:k= .free:=by
     have:=(Bool.and_eq_true _ _▸(Bool.and_eq_true _ _▸hcc).1).1
     exact eq_of_beq this
    exact .inl (by rw [this])
   ·rw [if_neg hcc]at h
    simp only [List.lookup_cons,hx]at h
    rcases h with h|h
    ·exact .inr h
    ·exact .inl h
  |false=>
   simp only [List.lookup_cons,hx]
   by_cases hcc:(k==NameKind.free && env.scope.kind== .function && env.kindOf n==some .cell)=true
   ·rw [if_pos hcc]at h;simp only [List.lookup_cons,hx]at h;exact ih h
   ·rw [if_neg hcc]at h;simp only [List.lookup_cons,hx]at h;exact ih h
theorem lt_le_ne {a b c:Nat} (h1:a<b) (h2:b<=c):a≠c:=Nat.ne_of_lt (Nat.lt_of_lt_of_le h1 h2)
abbrev cxComp (X:Cx) (Nc:List Str) (scope:Scope) (cl:List (Str×Addr)) (C:Addr) (s2:Shared) (H2:Hp) (fp:List Addr):Cx:=
 {prog:=X.prog,w:=X.w,K:=X.K,mg:=X.mg,base:=X.base,A:=X.A,N:=Nc,s₀:=s2,H₀:=H2,env:=compEnvC scope cl C X.env,outer:=X.stack,stack:=X.stack,ex:=fp,fn:=fun _=>false,calm:=X.calm,pn:=[],xe:=fun _ _=>False}
abbrev capN (own:List Str) (cap:List (Str×Nat)):List Str:=own++cap.map (·.1)
def capSt (no:Nat) (cap:List (Str×Nat)) (σ:St):St:=List.replicate no none++cap.map fun p=>(σ[p.2]?).join
structure CompScope (X:Cx) (scope:Scope) (cap:List (Str×Nat)) (cl:List (Str×Addr)):Prop where
 clos:closureFor scope X.env=pure cl
 kind:scope.kind= .function
 nocell:∀y∈scope.names,y.2≠ .cell
 names:∀y∈scope.names,y.2= .local->scope.names.lookup y.1=some .local
 sub:∀x c,cl.lookup x=some c->X.env.cells.lookup x=some c
 has:∀x,scope.names.lookup x=some .free->∃c,cl.lookup x=some c
 cap:∀p∈cap,X.N[p.2]? =some p.1/\scope.names.lookup p.1=some .free/\X.env.scope.names.lookup p.1=some .cell
def CompW (J:It) (D:Addr) (g:TG) (te:TE) (Q:VK) (σ:St) (H:Hp):Prop:=∃W:Nat->Nat->St->Hp->Prop,
 (∃m,W 0 m σ H)/\∀i m σc H2,W i m σc H2->
  (J.stop i H2/\Q (.ref D) H2)∨(J.go i H2/\∀x H3,J.yld i H2 x H3->g x σc H3 fun σ4 H4=>te σ4 H4 fun y H5=>∃ys,H5 D=some (.lst ys)/\ys.length<sizeLine/\∃m',m'<m/\W (i+1) m' σ4 (upd H5 D (.lst (ys++[y]))))
def tComp (no:Nat) (cap:List (Str×Nat)) (wi:TI) (g:TG) (te:TE):TE:=fun σ H Q=>wi σ H fun J H1=>∀D,H1 D=none->CompW J D g te Q (capSt no cap σ) (upd H1 D (.lst []))
section
variable {X:Cx} {pins:List (Addr×Obj)} {σ:St} {s2:Shared} {H2:Hp}
theorem capSt_get {no:Nat} {cap:List (Str×Nat)} {own:List Str} (hno:own.length=no) {i:Nat} {x:Str} {v:V} (h1:(capN own cap)[i]? =some x) (h2:(capSt no cap σ)[i]? =some (some v)):
  ∃p∈cap,p.1=x/\σ[p.2]? =some (some v):=by
 subst hno
 unfold capSt at h2
 by_cases hi:i<own.length
 ·rw [List.getElem?_append_left (by simpa using hi),List.getElem?_replicate]at h2
  rw [if_pos hi]at h2
  cases h2
 ·rw [List.getElem?_append_right (by simpa using hi)]at h2
  unfold capN at h1
  rw [List.getElem?_append_right (by simpa using hi)]at h1
  rw [List.length_replicate,List.getElem?_map]at h2
  rw [List.getElem?_map]at h1
  cases e:cap[i-own.length]? with
  |none=>rw [e]at h1;cases h1
  |some p=>
   rw [e]at h1 h2
   refine⟨p,List.mem_of_getElem? e,Option.some.inj h1,?_⟩
   have q:(σ[p.2]?).join=some v:=Option.some.inj h2
   cases e2:σ[p.2]? with
   |none=>rw [e2]at q;cases q
   |some o=>rw [e2]at q;exact congrArg some q
theorem comp_block {elt iter tg:Expr} {scope:Scope} {own:List Str} {cap:List (Str×Nat)} {cl:List (Str×Addr)} {pos:Pos} {J:It} {fp:List Addr} {it:Addr} {tn:Nat->Heap->Prop} {g:TG} {te:TE} {Q:VK}
  (S:CompScope X scope cap cl) (hc:X.calm=true) (I:Inv X pins σ H2 s2) (T:Turn X.prog X.w X.K tg J fp it tn) (st:tn 0 s2.heap) (hf:∀b∈fp,FpOk X pins H2 b)
  (hg:∀C s2 H2 fp,PG (cxComp X (capN own cap) scope cl C s2 H2 fp) tg g) (he:∀C s2 H2 fp,PE (cxComp X (capN own cap) scope cl C s2 H2 fp) elt te)
  (W:Nat->Nat->St->Hp->Prop) (w0:∃m,W 0 m (capSt own.length cap σ) (upd H2 s2.heap.objs.size (.lst [])))
  (turn:∀i m σc H3,W i m σc H3->(J.stop i H3/\Q (.ref s2.heap.objs.size) H3)∨(J.go i H3/\∀x H4,J.yld i H3 x H4->g x σc H4 fun σ5 H5=>te σ5 H5 fun y H6=>∃ys,H6 s2.heap.objs.size=some (.lst ys)/\ys.length<sizeLine/\∃m',m'<m/\W (i+1) m' σ5 (upd H6 s2.heap.objs.size (.lst (ys++[y])))))
  {RR:Value->Addr->Result->Shared->Prop}
  (hRR:∀C H' s' m,s2.heap.objs.size<=C->s'.heap.Ns C m->H' C=none->Inv X pins σ H' s'->(∀h',Heap.SameBut C s'.heap h'->Inv X pins σ H' {s' with heap:=h'})->Q (.ref s2.heap.objs.size) H'->RR (.ref s2.heap.objs.size) C (.ok .next) s')
  {E:Value->Shared->Prop}:
  wpAny (model X.prog X.w) X.A (newList []) (fun acc s₃=>wpAny (model X.prog X.w) X.A (newFunctionEnv scope X.env.globals cl [] X.env.qual none .none (some X.env)) (fun cenv s₄=>
   codeAny (model X.prog X.w) X.A (.compStart (.ListComp elt [⟨tg,iter,[],0⟩] scope pos) 0 (.ref it) acc {cenv with scope:=relabel scope X.env}) (RR acc cenv.locals) s₄) E s₃) E s2:=by
 refine wpAny_newObj_type (wpAny_newFunctionEnv S.nocell (by intro y hy;simp at hy) (fun h₁ hns₁ hsb₁=>?_) S.kind)
 dsimp only at hns₁ hsb₁⊢
 generalize hH2:s2.heap.push {cls:= .type "list",dict:=none,data:= .seq ([]:List Value).toArray}=G2 at hns₁ hsb₁⊢
 have hC:G2.objs.size=s2.heap.objs.size+1:=by rw [<-hH2,Heap.size_push]
 have hDC:s2.heap.objs.size≠G2.objs.size:=by rw [hC];exact Nat.ne_of_lt (Nat.lt_succ_self _)
 have hCle:s2.heap.objs.size<=G2.objs.size:=by rw [hC];exact Nat.le_succ _
 have below:∀b,b<s2.heap.objs.size->b≠G2.objs.size/\b≠s2.heap.objs.size:=fun b hb=>⟨by rw [hC];exact Nat.ne_of_lt (Nat.lt_succ_of_lt hb),Nat.ne_of_lt hb⟩
 have old:∀b o,s2.heap.get? b=some o->h₁.get? b=some o:=fun b o e=>hsb₁.extBut b o (below b (Heap.lt_size e)).1 (Heap.get?_push_of_some _ (hH2▸Heap.get?_push_of_some _ e))
 have hacc:h₁.get? s2.heap.objs.size=some {cls:= .type "list",dict:=none,data:= .seq ([]:List Value).toArray}:=hsb₁.extBut _ _ hDC (Heap.get?_push_of_some _ (hH2▸Heap.get?_push_size _ rfl))
 have hfps:∀b∈fp,b<s2.heap.objs.size:=fun b hb=>by
  obtain⟨o,e,_⟩:=T.obj _ _ st b hb
  exact Heap.lt_size e
 have hfree:∀b,s2.heap.objs.size<=b->H2 b=none:=fun b hb=>I.hok.fresh hb
 generalize hX:cxComp X (capN own cap) scope cl G2.objs.size s2 H2 fp=X'
 have hOk:X'.Ok:=by
  subst hX
  refine⟨I.ok.mod,S.kind,I.ok.glob,I.ok.blt,hCle,fun x y c e1 e2=>I.ok.inj x y c (S.sub x c e1) (S.sub y c e2),fun x hx=>?_,fun x c z=>absurd (show false=true from z) Bool.false_ne_true,I.ok.hd,I.ok.frames,.inl rfl,
   fun b hb=>⟨(below b (hfps b hb)).1,fun x c e=>(hf b hb).2.2.2.2.1 x c (S.sub x c e)⟩,I.bs,Nat.le_trans I.ok.bsz I.sz,fun b o e hb=>?_,fun b hb z=>?_,I.stack,I.stkFree⟩
  ·rcases lookup_relabel_inv (env:=X.env) (names:=scope.names) (x:=x) hx with h|h
   ·exact S.has x h
   ·exact absurd rfl (S.nocell _ (PySem.mem_of_lookup h))
  ·rcases (hf b hb).2.2.2.1 with z|z
   ·exact I.ok.noex b o e z
   ·exact absurd (Nat.lt_of_lt_of_le (Heap.lt_size e) (Nat.le_trans I.ok.bsz z)) (Nat.lt_irrefl _)
  ·rcases List.mem_cons.mp (I.stkSub b z)with z|z
   ·exact(hf b hb).2.1 z
   ·exact(hf b hb).2.2.1 z
 have hI0:Inv X' [] (capSt own.length cap σ) (upd H2 s2.heap.objs.size (.lst [])) {s2 with heap:=h₁,toks:=s2.toks+([]:List (Str×Value)).length}:=by
  subst hX
  refine⟨hOk,rfl,I.bare,Un.laid old (Nat.le_refl _) (hfree _ (Nat.le_refl _)),⟨_,hns₁,fun i x v e1 e2 e3=>?_⟩,fun x c e=>?_,?_,fun x c e=>?_,fun p hp=>absurd (show p∈([]:List (Addr×Obj))from hp) (by simp),?_,?_⟩
  ·obtain⟨p,hp,rfl,hσ⟩:=capSt_get rfl e1 e2
   obtain⟨c1,c2,c3⟩:=S.cap p hp
   obtain⟨m,hn,hl⟩:=I.loc
   obtain⟨u,r,l⟩:=hl p.2 p.1 v c1 hσ (.inr (.inl c3))
   refine⟨u,r,.inr ⟨.inl (lookup_relabel_free I.ok.kind c2 c3),?_⟩⟩
   obtain⟨c,hcl⟩:=S.has _ c2
   refine⟨c,hcl,?_⟩
   rcases l with ⟨k,_⟩|⟨_,c',e,z⟩
   ·have k':X.env.scope.names.lookup p.1=some .local:=k
    rw [c3]at k';cases k'
   ·have:=S.sub _ _ hcl
    rw [e]at this;cases this
    obtain⟨o,ho,hd⟩:=z
    exact⟨o,old _ _ ho,hd⟩
  ·obtain⟨v,o,ho,hd⟩:=I.cell x c (S.sub x c e)
   exact⟨v,o,old _ _ ho,hd⟩
  ·show upd H2 s2.heap.objs.size (.lst []) G2.objs.size=none
   rw [upd_ne (Ne.symm hDC)]
   exact hfree _ hCle
  ·have e':=S.sub x c e
   obtain⟨v,o,ho,hd⟩:=I.cell x c e'
   rw [upd_ne (below c (Heap.lt_size ho)).2]
   exact I.freeC x c e'
  ·exact I.hok.laid old (Nat.le_refl _) ⟨Nat.zero_le _,[],_,.nil,hacc⟩
  ·show(capSt own.length cap σ).length=(capN own cap).length
   unfold capSt capN
   simp
 have hP:X'.prog=X.prog:=by subst hX;rfl
 have hw:X'.w=X.w:=by subst hX;rfl
 have hK:X'.K=X.K:=by subst hX;rfl
 have hA:X'.A=X.A:=by subst hX;rfl
 have hcalm:X'.calm=true:=by subst hX;exact hc
 have hxe:X'.xe=fun _ _=>False:=by subst hX;rfl
 have henv:X'.env=compEnvC scope cl G2.objs.size X.env:=by subst hX;rfl
 have hbase:∀{σ' H' s'},Inv X' [] σ' H' s'->Un (frs X.stack) fp H2 H' s2.heap s'.heap/\s'.os=s2.os:=fun{σ' H' s'} J=>by subst hX;exact⟨J.base,J.os⟩
 have hg':PG X' tg g:=by subst hX;exact hg _ _ _ _
 have he':PE X' elt te:=by subst hX;exact he _ _ _ _
 have stat:∀{H':Hp},(∀b∈fp,H' b=none)->∀b∈fp,FpOk X' [] H' b:=fun{H'} hn b hb=>by
  subst hX
  refine⟨hn b hb,(below b (hfps b hb)).1,fun z=>?_,.inl hb,fun x c e=>(hf b hb).2.2.2.2.1 x c (S.sub x c e),fun p hp=>absurd (show p∈([]:List (Addr×Obj))from hp) (by simp)⟩
  rcases List.mem_cons.mp (I.stkSub b z)with z|z
  ·exact(hf b hb).2.1 z
  ·exact(hf b hb).2.2.1 z
 have back:∀{σ' H' s'},Inv X' [] σ' H' s'->Q (.ref s2.heap.objs.size) H'->RR (.ref s2.heap.objs.size) G2.objs.size (.ok .next) s':=fun{σ' H' s'} J q=>by
  obtain⟨u,ho⟩:=hbase J
  have hcf:∀b∈fp,(b∈X.ex∨X.s₀.heap.objs.size<=b)/\b≠X.env.locals/\(∀x c,X.env.cells.lookup x=some c->c≠b)/\∀p∈X.pn++pins,p.1≠b:=fun b hb=>by
   obtain⟨f0,f1,f2,f3,f4,f5⟩:=hf b hb
   exact⟨f3,f1,f4,f5⟩
  have hCn:H' G2.objs.size=none:=by have:=J.free;rw [henv]at this;exact this
  have hok':HOk X.prog X.w H' s'.heap:=by have:=J.hok;rw [hP,hw]at this;exact this
  obtain⟨m,hm,_⟩:=J.loc
  rw [henv]at hm
  refine hRR _ H' s' m hCle hm hCn (I.call' ho u hok' J.bare hcf) (fun h' hs=>?_) q
  have kn:∀b o,s2.heap.get? b=some o->h'.get? b=s'.heap.get? b:=fun b o e=>hs.2 b (below b (Heap.lt_size e)).1
  refine I.call' (s':={s' with heap:=h'}) ho ⟨fun b o e n hb hx=>(kn b o e).trans (u.keep b o e n hb hx),fun b o e n hb hx=>?_,u.free,fun b o e hx=>?_,u.tups,u.frzs,u.tbls⟩ (fun b ob e=>?_) J.bare hcf
  ·obtain⟨sl,e1⟩:=u.slot b o e n hb hx
   exact⟨sl,(kn b o e).trans e1⟩
  ·obtain⟨o',e1⟩:=u.there b o e hx
   exact⟨o',(kn b o e).trans e1⟩
  ·refine(hok' b ob e).stay (fun c w' hc q=>(hs.2 c ?_).trans q) (fun _ q=>q) fun _ _ q=>q
   rintro rfl
   rcases hc with rfl|hc
   ·rw [hCn]at e;cases e
   ·rw [hCn]at hc;cases hc
 have loop:∀s₃:Shared,s₃={s2 with heap:=h₁,toks:=s2.toks+([]:List (Str×Value)).length}->
   codeAny (model X.prog X.w) X.A (.compLoop (.ListComp elt [⟨tg,iter,[],0⟩] scope pos) 0 (.ref it) (.ref s2.heap.objs.size) (compEnvC scope cl G2.objs.size X.env))
    (RR (.ref s2.heap.objs.size) G2.objs.size) s₃:=by
  rintro s₃ rfl
  obtain⟨m0,w0⟩:=w0
  refine compLoop_any (fun n s'=>∃i σ' H',Inv X' [] σ' H' s'/\tn i s'.heap/\(∀b∈fp,H' b=none)/\W i n σ' H') ?_ m0
   ⟨0,_,_,hI0,T.keep _ _ _ st fun b hb o e=>old b o e,fun b hb=>?_,w0⟩
  ·rintro n s3 ⟨i,σ3,H3,I3,st3,fr3,w3⟩
   rcases turn i n σ3 H3 w3 with ⟨stop,qn⟩|⟨go,step⟩
   ·have d:=T.done X' hP hw hK hcalm i [] s3 σ3 H3 (fun _ _=>False) I3 (stat fr3) st3 stop
    rw [hA]at d
    refine thn d fun r s4 ⟨hr,I4⟩=>?_
    subst hr
    exact back I4 qn
   ·have d:=T.item X' hP hw hK hcalm i [] s3 σ3 H3 (fun _ _=>False) I3 (stat fr3) st3 go
    rw [hA]at d
    refine thn d fun r s4 ⟨u,hr,h4⟩=>?_
    subst hr
    refine thn h4 fun _ s5 ⟨x,H5,I5,r5,y5,st5,fr5⟩=>?_
    have I5':=I5.pinned (stat fr5) (T.obj _ _ st5)
    have d2:=hg' _ s5 σ3 H5 x u _ I5' r5 (step x H5 y5)
    rw [hP,hw,hA,hxe,henv]at d2
    refine thn d2 fun _ s6 ⟨σ6,H6,I6,q6⟩=>?_
    have d3:=he' _ s6 σ6 H6 _ I6 q6
    rw [hP,hw,hA,hxe,henv]at d3
    refine thn d3 fun y7 s7 ⟨v7,H7,I7,r7,ys,e7,l7,m',hm,w7⟩=>?_
    have d4:=mt_append (X:=X') _ s7 σ6 H7 (.ref s2.heap.objs.size) [v7] (.ref s2.heap.objs.size) [y7] (fun _ H8=>W (i+1) m' σ6 H8) I7 rfl (.cons r7 .nil) ⟨_,ys,v7,rfl,rfl,e7,l7,w7⟩
    rw [hP,hw,hA,hxe]at d4
    refine thn d4 fun _ s8 ⟨v8,H8,I8,_,w8⟩=>?_
    refine⟨m',hm,i+1,σ6,H8,I8.unpinned,T.keep _ _ _ st5 fun b hb o e=>(I8.pin (b,o) (List.mem_append_right _ (List.mem_append_right _ (mem_pinsAt hb e)))).1,fun b hb=>?_,w8⟩
    obtain⟨o,e,d⟩:=T.obj _ _ st5 b hb
    exact(I8.pin (b,o) (List.mem_append_right _ (List.mem_append_right _ (mem_pinsAt hb e)))).2.1
  ·rw [upd_ne (below b (hfps b hb)).2]
   exact(hf b hb).1
 exact codeAny_compStart_list (loop _ rfl) (T.self _ 0 _ _ _ (T.keep _ _ _ st fun b hb o e=>old b o e) (loop _ rfl))
theorem pe_comp {elt iter tg:Expr} {scope:Scope} {own:List Str} {cap:List (Str×Nat)} {cl:List (Str×Addr)} {pos:Pos} {wi:TI} {g:TG} {te:TE}
  (S:CompScope X scope cap cl) (hc:X.calm=true) (hi:PI X tg iter wi)
  (hg:∀C s2 H2 fp,PG (cxComp X (capN own cap) scope cl C s2 H2 fp) tg g) (he:∀C s2 H2 fp,PE (cxComp X (capN own cap) scope cl C s2 H2 fp) elt te)
  (hs:∀x,foldedSetIterable iter X.env x=pure x:=by intro _;rfl):PE X (.ListComp elt [⟨tg,iter,[],0⟩] scope pos) (tComp own.length cap wi g te):=by
 intro pins s σ H Q I h
 rw [eval_ListComp]
 refine wpAny_comprehension_free (use:=none) rfl hs S.clos S.kind S.names (thn (hi pins s σ H _ I h) fun v s1 h1=>thn h1 fun itv s2 h2=>?_)
 obtain⟨it,fp,tn,J,H2,e,I2,T,st2,f2,rd⟩:=h2
 subst e
 obtain⟨W,w0,turn⟩:=rd _ (I2.hok.fresh (Nat.le_refl _))
 exact comp_block (RR:=fun acc C=>compPost (model X.prog X.w) X.A X.xe none (EP X pins σ Q) acc C) S hc I2 T st2 f2 hg he W w0 turn
  fun C H' s' m _ hm _ _ hback q=>⟨m,hm,fun h' hs'=>⟨.ref s2.heap.objs.size,H',hback h' hs',rfl,q⟩⟩
theorem ps_setComp {i:Nat} {x:Str} {elt iter tg:Expr} {scope:Scope} {own:List Str} {cap:List (Str×Nat)} {cl:List (Str×Addr)} {pos spos py:Pos} {wi:TI} {g:TG} {te:TE}
  (hN:X.N.Nodup) (hi':X.N[i]? =some x) (hx:Loc X.env.scope x) (S:CompScope X scope cap cl) (hc:X.calm=true) (hi:PI X tg iter wi)
  (hg:∀C s2 H2 fp,PG (cxComp X (capN own cap) scope cl C s2 H2 fp) tg g) (he:∀C s2 H2 fp,PE (cxComp X (capN own cap) scope cl C s2 H2 fp) elt te)
  (hsw:swapsWith (.ListComp elt [⟨tg,iter,[],0⟩] scope pos) (some (.Name x py)) spos.line X.env=pure true:=by rfl)
  (hs:∀x,foldedSetIterable iter X.env x=pure x:=by intro _;rfl) (hf:X.fn x=true∨X.env.scope.names.lookup x=some .local:=by first|exact .inl rfl|exact .inr rfl|assumption):
  PS X (.Assign [.Name x py] (.ListComp elt [⟨tg,iter,[],0⟩] scope pos) spos) (tAsg (tComp own.length cap wi g te) (gName i)):=by
 intro pins s σ H D I h
 rw [exec_Assign_Name_used _ _ _ _ hsw]
 refine wpAny_bind (wpAny_standAt (wpAny_bind ?_))
 show wpAny _ X.A (do let _<-comprehension (.ListComp elt [⟨tg,iter,[],0⟩] scope pos) scope X.env _ (newList []) false (eval iter X.env) (some (assign (.Name x py) X.env))) _ _ s
 refine wpAny_bind (wpAny_mono (wpAny_comprehension_free (use:=some (assign (.Name x py) X.env)) (Q:=fun _ s'=>SP X pins D .next s') rfl hs S.clos S.kind S.names
  (thn (hi pins s σ H _ I h) fun v s1 h1=>thn h1 fun itv s2 h2=>?_)) (fun _ s' hq=>wpAny_pure (wpAny_pure hq)) fun _ _ e=>e)
 obtain⟨it,fp,tn,J,H2,e,I2,T,st2,f2,rd⟩:=h2
 subst e
 obtain⟨W,w0,turn⟩:=rd _ (I2.hok.fresh (Nat.le_refl _))
 refine comp_block (Q:=fun x H1=>gName i x σ H1 D.nx) (RR:=fun acc C=>compPost (model X.prog X.w) X.A X.xe (some (assign (.Name x py) X.env)) (fun _ s'=>SP X pins D .next s') acc C) S hc I2 T st2 f2 hg he W w0 turn
  fun C H' s' m hCle hm hCn I' hback q=>?_
 refine wpAny_assign_Name (store_ok2 (v:= .ref s2.heap.objs.size) I' hN hi' hx rfl (fun s'' I'' ⟨a,hsa,ha⟩=>?_) hf)
 have hCa:C≠a:=by
  rcases ha with z|z
  ·rw [z]
   exact Ne.symm (lt_le_ne I2.lt hCle)
  ·obtain⟨v,q'⟩:=I2.cell x a z
   exact Ne.symm (lt_le_ne q'.lt hCle)
 refine⟨m,hm.sameBut hsa hCa,fun h' hs'=>⟨_,H',?_,q⟩⟩
 have hC0:X.s₀.heap.objs.size<=C:=Nat.le_trans I2.sz hCle
 have hnp:∀p∈X.pn++pins,p.1≠C:=fun p hp=>lt_le_ne (Heap.lt_size (I2.pin p hp).1) hCle
 have hcl:∀y c,X.env.cells.lookup y=some c->c≠C:=fun y c e=>by
  obtain⟨v,q'⟩:=I2.cell y c e
  exact lt_le_ne q'.lt hCle
 have hL:C≠X.env.locals:=Ne.symm (lt_le_ne I2.lt hCle)
 exact I''.turned (t':=s''.toks) (it:=C) (fun b o hb e=>(hs'.2 b hb).trans e) hCn hL (.inr hC0) hcl hnp
end
section
variable {prog:Program} {w:World} {A:Around} {R:Result->Shared->Prop} {s:Shared}
end
section
variable {X:Cx} {pins:List (Addr×Obj)} {σ:St} {s2:Shared} {H2:Hp}
end
def Ite (K:PySem.W.Frag) (a:Addr):It:=
 ⟨fun i H=>∃xs x,SqL K H a xs/\xs[i]? =some x,fun i H y H'=>∃p x,H p=none/\y= .ref p/\H'=upd H p (.tup [.int i,x])/\∀xs,SqL K H a xs->xs[i]? =some x,fun i H=>∃xs,SqL K H a xs/\xs.length<=i⟩
theorem turn_enum {P:Program} {w:World} {K:PySem.W.Frag} {es:List Expr} {k:Nat} {pos:Pos} (a e it:Addr) (hei:e≠it):
  Turn P w K (.Tuple es k pos) (Ite K a) [e,it] e (fun i h=>(∃old,IsEnum h e it ((i:Nat):Int) old)/\h.IsListIter it a i) where
 mem:=by simp
 obj:=fun i h st b hb=>by
  obtain⟨⟨old,he⟩,⟨o,e1,c,d⟩⟩:=st
  rcases List.mem_cons.mp hb with rfl|hb
  ·exact⟨_,he,fun v z=>by
    have z':Data.fields _=Data.cell v:=z
    cases z'⟩
  ·have e2:b=it:=by simpa using hb
   subst e2
   exact⟨o,e1,fun v z=>by rw [d]at z;cases z⟩
 keep:=fun i h h' st k=>by
  obtain⟨⟨old,he⟩,hit⟩:=st
  exact⟨⟨old,k e (by simp) _ he⟩,hit.at fun o e'=>k it (by simp) o e'⟩
 item:=by
  intro X hP hw hK hc i pins s σ H E I hf st hg
  subst hP hw hK
  obtain⟨⟨old,he⟩,hit⟩:=st
  obtain⟨xs,x,hq,hx⟩:=hg
  obtain⟨its,rv,p,hz⟩:=I.list hq
  obtain⟨u,hu,ru⟩:=rv.get hx
  refine wpAny_pyNext_enum_item he hit p.isList (x:=u) (by simpa using hu) hei fun h' heo hit' ht hz' hk=>?_
  refine⟨_,rfl,wpAny_letOwnedTupleGo_enum heo fun h'' he'' hs''=>?_⟩
  have hT:H s.heap.objs.size=none:=I.hok.fresh (Nat.le_refl _)
  have heT:e≠s.heap.objs.size:=Nat.ne_of_lt (Heap.lt_size he)
  have hfe:=hf e (by simp)
  have hfi:=hf it (by simp)
  have keep:∀b o,b≠e->b≠it->s.heap.get? b=some o->h''.get? b=some o:=fun b o h1 h2 h3=>(hs''.2 b h1).trans (hk b o h1 h2 h3)
  have keepc:∀b o,b∉[e,it]->s.heap.get? b=some o->h''.get? b=some o:=fun b o h1 h3=>keep b o (fun z=>h1 (by simp [z])) (fun z=>h1 (by simp [z])) h3
  have tup:=(hs''.2 _ (Ne.symm heT)).trans ht
  have nf:∀b u,H b=some u->b≠e/\b≠it:=fun b u q=>⟨fun z=>(by rw [z,hfe.1]at q;cases q),fun z=>(by rw [z,hfi.1]at q;cases q)⟩
  have nT:∀b u,H b=some u->b≠s.heap.objs.size:=fun b u q=>ne_of_none q hT
  have iti:it≠s.heap.objs.size:=by obtain⟨o,e1,_⟩:=hit;exact Nat.ne_of_lt (Heap.lt_size e1)
  refine⟨.ref s.heap.objs.size,upd H s.heap.objs.size (.tup [.int i,x]),?_,rfl,⟨_,x,hT,rfl,rfl,fun ys hy=>by rw [I.list_inj hy hq];exact hx⟩,⟨⟨_,he''⟩,?_⟩,fun b hb=>?_⟩
  ·show Inv X pins σ (upd H s.heap.objs.size (.tup [.int i,x])) {s with heap:=h'',gens:=s.gens,drawn:=s.drawn,toks:=s.toks+1}
   refine Inv.step (s:=s) (h':=h'') (t':=s.toks+1) (g':=s.gens) (d':=s.drawn) (ch:=[e,it]) I (fun b hb=>?_) (fun b o _ _ hc' q _=>keepc b o hc' q) (fun b o _ _ hc' q _=>⟨o.slots,keepc b o hc' q⟩) (fun b o _ q n=>by rw [upd_ne (Nat.ne_of_lt (Heap.lt_size q))];exact n)
    (fun b o hc' q=>⟨o,keepc b o hc' q⟩) (fun b ys q=>by rw [upd_ne (nT b _ q)];exact q) (fun b o' ys q=>by rw [upd_ne (nT b _ q)];exact q) (fun b ps q=>⟨#[],by rw [upd_ne (nT b _ q),q];simp⟩) (fun m hm=>?_) (fun b ob q=>?_) I.bare
   ·rcases List.mem_cons.mp hb with rfl|hb
    ·exact⟨hfe.2.2.2.1,hfe.2.1,hfe.2.2.2.2.1,hfe.2.2.2.2.2⟩
    ·have e2:b=it:=by simpa using hb
     subst e2
     exact⟨hfi.2.2.2.1,hfi.2.1,hfi.2.2.2.2.1,hfi.2.2.2.2.2⟩
   ·obtain⟨o,es,ep,ho,r⟩:=hm
    exact⟨o,es,ep,keep _ o (Ne.symm hfe.2.1) (Ne.symm hfi.2.1) ho,r⟩
   ·by_cases hb:b=s.heap.objs.size
    ·subst hb
     rw [upd_same]at q
     cases q
     exact⟨show 2<=sizeLine by decide,[.int i s.toks,u],.cons ⟨_,rfl⟩ (.cons ru .nil),⟨_,tup,rfl,_,rfl⟩⟩
    ·rw [upd_ne hb]at q
     refine(I.hok b ob q).stay (fun c w' hc' q'=>?_) (fun c q'=>by rw [upd_ne (nT c _ q')];exact q') (fun c ys q'=>by rw [upd_ne (nT c _ q')];exact q')
     have hne:c≠e/\c≠it:=by
      rcases hc' with rfl|hc'
      ·exact nf _ _ q
      ·exact nf _ _ hc'
     exact keep c w' hne.1 hne.2 q'
  ·exact hit'.at fun o e'=>(hs''.2 it (Ne.symm hei)).trans e'
  ·rcases List.mem_cons.mp hb with rfl|hb
   ·rw [upd_ne heT];exact hfe.1
   ·have e2:b=it:=by simpa using hb
    subst e2
    rw [upd_ne iti];exact hfi.1
 done:=by
  intro X hP hw hK hc i pins s σ H E I hf st hg
  subst hP hw hK
  obtain⟨⟨old,he⟩,hit⟩:=st
  obtain⟨xs,hq,hx⟩:=hg
  obtain⟨its,rv,p,hz⟩:=I.list hq
  obtain⟨f0,f1,f2,f3,f4,f5⟩:=hf it (by simp)
  have hl:=rv.length
  exact wpAny_pyNext_enum_end (I.ok.hd hc) he hit p.isList (by simp;omega) fun h' eb=>⟨rfl,I.turned (t':=s.toks) (fun b o hb q=>eb b o hb q) f0 f1 f3 f4 f5⟩
 self:=fun _ _ _ _ _ st h=>by
  obtain⟨⟨old,he⟩,hit⟩:=st
  exact wpAny_pyIter_enum he h
section
variable {X:Cx}
def iEnum (K:PySem.W.Frag) (ta:TA):TI:=fun σ H R=>ta σ H fun vs H1=>∃a,vs=[.ref a]/\(∃xs,SqL K H1 a xs)/\R (Ite K a) H1
theorem pi_enum {es:List Expr} {k:Nat} {pos':Pos} {a:Expr} {ta:TA} {p pos:Pos} (hg:Gl X "enumerate") (hm:X.mg "enumerate"=none) (ha:PA X [a] ta) (hs:starEach [a] X.env=[(false,eval a X.env)]:=by rfl):
  PI X (.Tuple es k pos') (.Call (.Name "enumerate" p) [a] [] pos) (iEnum X.K ta):=by
 intro pins s σ H R I h
 refine Call_ (ld_blt I hg hm boot_enumerate (PyProof.Rows.callWith_type1 (thn (ha pos pins s σ H _ I h) fun us s1 ⟨vs,H1,I1,r1,q1⟩=>?_) hs rfl))
 obtain⟨l,e,⟨xs,hq⟩,q⟩:=q1
 subst e
 cases r1 with
 |cons r rr=>
  cases rr
  cases r
  obtain⟨its,rv,pl,hz⟩:=I1.list hq
  refine call_enumerate_list pl.isList fun h' he hit hz' hk=>wpAny_pyIter_enum he ?_
  have I2:Inv X pins σ H1 {s1 with heap:=h'}:=I1.kept (t':=s1.toks) fun b o e=>hk b o e
  have hne:s1.heap.objs.size+1≠s1.heap.objs.size:=Nat.succ_ne_self _
  refine⟨s1.heap.objs.size+1,[s1.heap.objs.size+1,s1.heap.objs.size],_,_,H1,rfl,I2,turn_enum l _ _ hne,⟨⟨_,he⟩,hit⟩,fun b hb=>?_,q⟩
  rcases List.mem_cons.mp hb with rfl|hb
  ·exact I1.fpOk (Nat.le_succ _) (I1.hok.fresh (Nat.le_succ _))
  ·have e2:b=s1.heap.objs.size:=by simpa using hb
   subst e2
   exact I1.fpOk (Nat.le_refl _) (I1.hok.fresh (Nat.le_refl _))
end
abbrev gPair (K:PySem.W.Frag) (ni nx:Nat):TG:=gTup K 2 (gCons (gName ni) (gCons (gName nx) gNil))
theorem for_enum {K:PySem.W.Frag} {a:Addr} {xs:List V} {ni nx:Nat} {tb:TS} {D:Ends} {σ:St} {H:Hp} (Pv:Nat->St->Hp->Prop) (h0:Pv 0 σ H) (hl:∀i σ H,i<=xs.length->Pv i σ H->SqL K H a xs)
  (hs:∀i x σ H p,xs[i]? =some x->Pv i σ H->H p=none->tb {D with nx:=Pv (i+1),ct:=Pv (i+1),bk:=D.nx} ((σ.set ni (some (.int i))).set nx (some x)) (upd H p (.tup [.int i,x]))) (hd:∀σ H,Pv xs.length σ H->D.nx σ H):
  ∃W:Nat->Nat->St->Hp->Prop,(∃m,W 0 m σ H)/\∀i m σ H,W i m σ H->
   ((Ite K a).stop i H/\D.nx σ H)∨((Ite K a).go i H/\∃N:St->Hp->Prop,(∀σ' H',N σ' H'->∃m',m'<m/\W (i+1) m' σ' H')/\∀x H',(Ite K a).yld i H x H'->gPair K ni nx x σ H' fun σ2 H2=>tb {D with nx:=N,ct:=N,bk:=D.nx} σ2 H2):=by
 refine⟨fun i m σ H=>m=xs.length-i/\i<=xs.length/\Pv i σ H,⟨xs.length,by simp,Nat.zero_le _,h0⟩,?_⟩
 rintro i m σ H ⟨rfl,hi,p⟩
 have q:=hl i σ H hi p
 by_cases hlt:i<xs.length
 ·refine .inr ⟨⟨xs,xs[i],q,by simp [hlt]⟩,Pv (i+1),fun σ' H' p'=>⟨xs.length-(i+1),by omega,rfl,hlt,p'⟩,fun y H' yl=>?_⟩
  obtain⟨pp,x,hn,rfl,rfl,hx⟩:=yl
  exact⟨pp,[.int i,x],rfl,SqT.of upd_same,rfl,_,_,rfl,_,_,rfl,rfl,hs i x σ _ pp (hx xs q) p hn⟩
 ·have e:i=xs.length:=by omega
  subst e
  exact .inl ⟨⟨xs,q,Nat.le_refl _⟩,hd σ H p⟩
section
variable {X:Cx}
theorem call_isinst:CallR X (.builtin "isinstance") (fun xs H Q=>∃x n t b,xs=[x,.ty n]/\TyOf X.K H x t/\PySem.W.kitOne X.K t (.type n)=some b/\Q (.bl b) H):=by
 intro pins s σ H xs us Q I r h
 obtain⟨x,n,t,b,rfl,ty,e,q⟩:=h
 obtain⟨u,w',rfl,ru,rw'⟩:=vals2 r
 cases rw'
 exact isinst_ok I ru ty e fun tk=>⟨.bl b,H,I.tok tk,rfl,q⟩
theorem op_catT0:OpR X (binaryOp .Add) (fun x y H Q=>∃a b ys,x= .ref a/\y= .ref b/\SqT X.K H a []/\SqT X.K H b ys/\Q (.ref b) H):=by
 intro pins s σ H x y v u Q I rx ry h
 obtain⟨a,b,ys,rfl,rfl,ha,hb,q⟩:=h
 cases rx
 cases ry
 obtain⟨its,r1,p1,_⟩:=I.tuple ha
 obtain⟨its2,r2,p2,_⟩:=I.tuple hb
 cases r1
 obtain⟨⟨cls,dd,data,sl⟩,ho,hc,n,hd⟩:=id p1
 obtain⟨⟨cls2,dd2,data2,sl2⟩,ho2,hc2,n2,hd2⟩:=id p2
 simp only at hc hd hc2 hd2
 subst hc hd hc2 hd2
 exact concat_meets ⟨_,ho,rfl⟩ ⟨_,ho2,rfl⟩ noFill_tuple_add seq_tuple_add PySem.F.slot_tuple_add PySem.F.entry_tuple_add (PySem.F.args_tuple_add_2 _ _)
   (tuple_addW0 a b _ _ n n2 dd dd2 sl sl2 (by simp)) ⟨ho,ho2,⟨.ref b,H,I,rfl,q⟩⟩
theorem op_repT:OpR X (binaryOp .Mult) (fun x y H Q=>∃l k xs,x= .ref l/\y= .int k/\SqT X.K H l xs/\xs≠[]/\0<=k/\k<1000/\xs.length<=1000/\
  (k=1->Q (.ref l) H)/\(k≠1->∀p,H p=none->Q (.ref p) (upd H p (.tup (List.replicate k.toNat xs).flatten)))):=by
 intro pins s σ H x y v u Q I rx ry h
 obtain⟨l,k,xs,rfl,rfl,ha,hx,h0,h1,hz,q1,q2⟩:=h
 cases rx
 obtain⟨t,rfl⟩:=ry
 obtain⟨its,r,p,_⟩:=I.tuple ha
 obtain⟨⟨cls,dd,data,sl⟩,ho,hc,n,hd⟩:=id p
 simp only at hc hd
 subst hc hd
 have hl:=r.length
 have hne:its.toArray.isEmpty=false:=by
  cases its with
  |nil=>cases r;exact absurd rfl hx
  |cons a b=>simp
 refine wpAny_binaryOp_repeat_ref (T:="tuple") (U:="int") (by decide) ⟨_,ho,rfl⟩ (fun s'=>typeIs_int s' k t) noFill_tuple_mul F.fills_int_mul F.slot_int_rmul repeat_tuple F.slot_int_index.lookup
  (call_meets F.slot_int_rmul (typeIs_int s k t) F.entry_int_rmul (F.args_int_rmul_2 _ _) (int_rmul_tuple k t l its.toArray n dd sl) ⟨ho,rfl,⟨_,ho,rfl⟩,?_⟩)
 by_cases hk1:k=1
 ·exact call_meets F.slot_tuple_mul ⟨_,ho,rfl⟩ F.entry_tuple_mul (F.args_tuple_mul_2 _ _) (tuple_mul1 l its.toArray n dd sl k t hk1) ⟨ho,⟨.ref l,H,I,rfl,q1 hk1⟩⟩
 ·by_cases hk0:k=0
  ·subst hk0
   refine call_meets F.slot_tuple_mul ⟨_,ho,rfl⟩ F.entry_tuple_mul (F.args_tuple_mul_2 _ _) (tuple_mul0 l its.toArray n dd sl 0 t hne (by decide) (by decide)) ⟨ho,?_⟩
   exact⟨.ref s.heap.objs.size,_,I.laid (t':=s.toks) (o:= .tup []) (fun b ob q=>Heap.get?_push_of_some _ q) (Nat.le_refl _) ⟨Nat.zero_le _,[],.nil,IsTup.new _ _⟩,rfl,q2 hk1 _ (I.hok.fresh (Nat.le_refl _))⟩
  ·refine call_meets F.slot_tuple_mul ⟨_,ho,rfl⟩ F.entry_tuple_mul (F.args_tuple_mul_2 _ _) (tuple_mul2 l its.toArray n dd sl k t hne (by omega) h1 (by rw [List.size_toArray, <-hl];exact hz)) ⟨ho,?_⟩
   have f0:List.foldl (fun x1 x2=>x1++x2) #[] (List.replicate k.toNat its.toArray)=(List.replicate k.toNat its).flatten.toArray:=by
    have:=foldl_rep its k.toNat []
    rw [List.nil_append]at this
    exact this
   rw [f0]
   refine⟨.ref s.heap.objs.size,_,I.laid (t':=s.toks) (o:= .tup (List.replicate k.toNat xs).flatten) (fun b ob q=>Heap.get?_push_of_some _ q) (Nat.le_refl _) ⟨?_,_,r.rep k.toNat,IsTup.new _ _⟩,rfl,q2 hk1 _ (I.hok.fresh (Nat.le_refl _))⟩
   rw [len_rep]
   have h2:(1000000:Nat)<=sizeLine:=by decide
   have h3:k.toNat*xs.length<=1000*1000:=Nat.mul_le_mul (by omega) hz
   omega
end
theorem eqV_refl {x:V} (h:flatV x=true):eqV x x=true:=by
 cases x<;>first|rfl|exact beq_self_eq_true _|(exact absurd (show false=true from h) Bool.false_ne_true)
theorem all_range_succ (e:Nat->Bool) (n:Nat):(List.range (n+1)).all e=(e 0 && (List.range n).all fun j=>e (j+1)):=by
 rw [List.range_succ_eq_map,List.all_cons,List.all_map]
 rfl
section
variable {X:Cx} {pins:List (Addr×Obj)} {σ:St} {H:Hp} {s:Shared} {A:Around}
end
theorem clos_loop (env:Env):∀(names:List (Str×NameKind)) (acc:List (Str×Addr)),(∀y∈names,y.2= .free->∃c,env.cells.lookup y.1=some c)->(∀x c,acc.lookup x=some c->env.cells.lookup x=some c)->
  ∃cl,(forIn names acc (fun(x:Str×NameKind) (cs:List (Str×Addr))=>(if(x.2==NameKind.free)=true then(do let a<-cellOf env x.1;pure (ForInStep.yield ((x.1,a)::cs)):Sem _)else pure (ForInStep.yield cs))):Sem (List (Str×Addr)))=pure cl/\
   (∀x c,cl.lookup x=some c->env.cells.lookup x=some c)/\(∀x,(∃c,acc.lookup x=some c)∨(x,NameKind.free)∈names->∃c,cl.lookup x=some c)
 | [],acc,_,h2=>⟨acc,rfl,h2,fun x hx=>hx.elim id fun z=>(by cases z)⟩
 |(n,k)::r,acc,h1,h2=>by
  by_cases hk:k= .free
  ·subst hk
   obtain⟨c,hc⟩:=h1 (n,.free) List.mem_cons_self rfl
   obtain⟨cl,e,a,b⟩:=clos_loop env r ((n,c)::acc) (fun y hy=>h1 y (List.mem_cons_of_mem _ hy)) (fun x c' hx=>by
    cases hxn:x==n with
    |true=>
     simp only [List.lookup_cons,hxn]at hx
     have:x=n:=eq_of_beq hxn
     subst this
     cases hx
     exact hc
    |false=>
     simp only [List.lookup_cons,hxn]at hx
     exact h2 x c' hx)
   refine⟨cl,?_,a,fun x hx=>b x ?_⟩
   ·rw [<-e,List.forIn_cons]
    have ec:cellOf env n=pure c:=by unfold cellOf;rw [hc]
    simp only [beq_self_eq_true,if_true,ec]
    rfl
   ·rcases hx with ⟨c',hx⟩|hx
    ·refine .inl ?_
     cases hxn:x==n with
     |true=>exact⟨c,by simp only [List.lookup_cons,hxn]⟩
     |false=>exact⟨c',by simp only [List.lookup_cons,hxn];exact hx⟩
    ·rcases List.mem_cons.mp hx with z|z
     ·cases z
      exact .inl ⟨c,by simp [List.lookup_cons]⟩
     ·exact .inr z
  ·obtain⟨cl,e,a,b⟩:=clos_loop env r acc (fun y hy=>h1 y (List.mem_cons_of_mem _ hy)) h2
   refine⟨cl,?_,a,fun x hx=>b x ?_⟩
   ·rw [<-e,List.forIn_cons]
    have hb:(k==NameKind.free)=false:=by simpa using hk
    simp only [hb,Bool.false_eq_true,if_false]
    rfl
   ·rcases hx with hx|hx
    ·exact .inl hx
    ·rcases List.mem_cons.mp hx with z|z
     ·cases z
      exact absurd rfl hk
     ·exact .inr z
theorem comp_scope {X:Cx} {scope:Scope} {cap:List (Str×Nat)} (hcell:∀x,X.env.scope.names.lookup x=some .cell->∃c,X.env.cells.lookup x=some c) (kind:scope.kind= .function) (nocell:∀y∈scope.names,y.2≠ .cell)
  (names:∀y∈scope.names,y.2= .local->scope.names.lookup y.1=some .local) (free:∀y∈scope.names,y.2= .free->X.env.scope.names.lookup y.1=some .cell)
  (hcap:∀p∈cap,X.N[p.2]? =some p.1/\scope.names.lookup p.1=some .free/\X.env.scope.names.lookup p.1=some .cell):∃cl,CompScope X scope cap cl:=by
 obtain⟨cl,e,a,b⟩:=clos_loop X.env scope.names [] (fun y hy hf=>hcell _ (free y hy hf)) (fun x c h=>by simp at h)
 refine⟨cl,?_,kind,nocell,names,a,fun x hx=>b x (.inr (PySem.mem_of_lookup hx)),hcap⟩
 unfold closureFor
 refine Eq.trans ?_ e
 simp only [bind_pure]
abbrev CTurn (n:Nat) (D:Addr) (Pv:Nat->List V->St->Hp->Prop) (i:Nat) (σ:St) (y:V) (H5:Hp):Prop:=
 ∃ys,H5 D=some (.lst ys)/\ys.length<sizeLine/\∃m',m'<n-i/\m'=n-(i+1)/\i+1<=n/\∃acc,Pv (i+1) acc σ (upd H5 D (.lst (ys++[y])))
theorem cturn {n:Nat} {D:Addr} {Pv:Nat->List V->St->Hp->Prop} {i:Nat} {σ:St} {y:V} {H5:Hp} {acc:List V} (h1:H5 D=some (.lst acc)) (h2:acc.length<sizeLine) (hi:i<n) (h3:Pv (i+1) (acc++[y]) σ (upd H5 D (.lst (acc++[y])))):CTurn n D Pv i σ y H5:=
 ⟨acc,h1,h2,n-(i+1),by omega,rfl,hi,acc++[y],h3⟩
theorem comp_list {K:PySem.W.Frag} {a D:Addr} {xs:List V} {ni:Nat} {te:TE} {Q:VK} {σ:St} {H:Hp} (Pv:Nat->List V->St->Hp->Prop) (h0:Pv 0 [] σ H) (hl:∀i acc σ H,i<=xs.length->Pv i acc σ H->SqL K H a xs)
  (hs:∀i x acc σ H,i<xs.length->xs[i]? =some x->Pv i acc σ H->te (σ.set ni (some x)) H fun y H5=>CTurn xs.length D Pv i (σ.set ni (some x)) y H5) (hd:∀acc σ H,Pv xs.length acc σ H->Q (.ref D) H):
  CompW (Itl K a) D (gName ni) te Q σ H:=by
 refine⟨fun i m σ H=>m=xs.length-i/\i<=xs.length/\∃acc,Pv i acc σ H,⟨xs.length,by simp,Nat.zero_le _,[],h0⟩,?_⟩
 rintro i m σ H ⟨rfl,hi,acc,p⟩
 have q:=hl i acc σ H hi p
 by_cases hlt:i<xs.length
 ·refine .inr ⟨⟨xs,xs[i],q,by simp [hlt]⟩,fun x H' y=>?_⟩
  obtain⟨e,y⟩:=y
  subst e
  exact hs i x acc σ _ hlt (y xs q) p
 ·have e:i=xs.length:=by omega
  subst e
  exact .inl ⟨⟨xs,q,Nat.le_refl _⟩,hd acc σ H p⟩
theorem comp_tup {K:PySem.W.Frag} {a D:Addr} {xs:List V} {ni:Nat} {te:TE} {Q:VK} {σ:St} {H:Hp} (Pv:Nat->List V->St->Hp->Prop) (h0:Pv 0 [] σ H) (hl:∀i acc σ H,i<=xs.length->Pv i acc σ H->SqT K H a xs)
  (hs:∀i x acc σ H,i<xs.length->xs[i]? =some x->Pv i acc σ H->te (σ.set ni (some x)) H fun y H5=>CTurn xs.length D Pv i (σ.set ni (some x)) y H5) (hd:∀acc σ H,Pv xs.length acc σ H->Q (.ref D) H):
  CompW (Itt K a) D (gName ni) te Q σ H:=by
 refine⟨fun i m σ H=>m=xs.length-i/\i<=xs.length/\∃acc,Pv i acc σ H,⟨xs.length,by simp,Nat.zero_le _,[],h0⟩,?_⟩
 rintro i m σ H ⟨rfl,hi,acc,p⟩
 have q:=hl i acc σ H hi p
 by_cases hlt:i<xs.length
 ·refine .inr ⟨⟨xs,xs[i],q,by simp [hlt]⟩,fun x H' y=>?_⟩
  obtain⟨e,y⟩:=y
  subst e
  exact hs i x acc σ _ hlt (y xs q) p
 ·have e:i=xs.length:=by omega
  subst e
  exact .inl ⟨⟨xs,q,Nat.le_refl _⟩,hd acc σ H p⟩
def Itz (K:PySem.W.Frag) (a b:Addr):It:=
 ⟨fun i H=>∃xs ys x y,SqT K H a xs/\SqL K H b ys/\xs[i]? =some x/\ys[i]? =some y,fun i H v H'=>∃p x y,H p=none/\v= .ref p/\H'=upd H p (.tup [x,y])/\(∀xs,SqT K H a xs->xs[i]? =some x)/\∀ys,SqL K H b ys->ys[i]? =some y,
  fun i H=>∃xs,SqT K H a xs/\xs.length<=i⟩
theorem turn_zip {P:Program} {w:World} {K:PySem.W.Frag} {es:List Expr} {k:Nat} {pos:Pos} {a b z TI TO i1 i2:Addr} (D:ZipApart z TI TO i1 i2 a b):
  Turn P w K (.Tuple es k pos) (Itz K a b) [z,TI,TO,i1,i2] z (fun i h=>ZpSt h z TI TO i1 i2 a b i .none) where
 mem:=by simp
 obj:=fun i h st c hc=>by
  obtain⟨hz,hTI,⟨x,y,hTO⟩,⟨o1,e1,c1,d1⟩,⟨o2,e2,c2,d2⟩⟩:=st
  simp only [List.mem_cons,List.not_mem_nil,or_false]at hc
  rcases hc with rfl|rfl|rfl|rfl|rfl
  ·exact⟨_,hz,fun v q=>by
    have q':Data.fields _=Data.cell v:=q
    cases q'⟩
  ·exact⟨_,hTI,fun v q=>by
    have q':Data.seq _ _=Data.cell v:=q
    cases q'⟩
  ·exact⟨_,hTO,fun v q=>by
    have q':Data.seq _ _=Data.cell v:=q
    cases q'⟩
  ·exact⟨o1,e1,fun v q=>by rw [d1]at q;cases q⟩
  ·exact⟨o2,e2,fun v q=>by rw [d2]at q;cases q⟩
 keep:=fun i h h' st k=>by
  obtain⟨hz,hTI,⟨x,y,hTO⟩,h1,h2⟩:=st
  exact⟨k z (by simp) _ hz,k TI (by simp) _ hTI,⟨x,y,k TO (by simp) _ hTO⟩,h1.at fun o e=>k i1 (by simp) o e,h2.at fun o e=>k i2 (by simp) o e⟩
 item:=by
  intro X hP hw hK hc i pins s σ H E I hf st hg
  subst hP hw hK
  obtain⟨xs,ys,x,y,hq1,hq2,hx,hy⟩:=hg
  obtain⟨its1,rv1,p1,hz1⟩:=I.tuple hq1
  obtain⟨its2,rv2,p2,hz2⟩:=I.list hq2
  obtain⟨u1,hu1,ru1⟩:=rv1.get hx
  obtain⟨u2,hu2,ru2⟩:=rv2.get hy
  refine zipT_item D st p1 p2.isList (x:=u1) (y:=u2) (by simpa using hu1) (by simpa using hu2) fun h' st' ht hsz hk=>?_
  obtain⟨hz',hTI',⟨a',b',hTO'⟩,h1',h2'⟩:=st'
  refine⟨_,rfl,wpAny_letOwnedTupleGo_zip hz' fun h'' hz'' hs''=>?_⟩
  have hT:H s.heap.objs.size=none:=I.hok.fresh (Nat.le_refl _)
  obtain⟨sz,sTI,⟨_,_,sTO⟩,⟨so1,s1,_⟩,⟨so2,s2,_⟩⟩:=st
  have lz:=Heap.lt_size sz
  have nz:z≠s.heap.objs.size:=Nat.ne_of_lt lz
  have nTO:TO≠s.heap.objs.size:=Nat.ne_of_lt (Heap.lt_size sTO)
  have nTI:TI≠s.heap.objs.size:=Nat.ne_of_lt (Heap.lt_size sTI)
  have n1:i1≠s.heap.objs.size:=Nat.ne_of_lt (Heap.lt_size s1)
  have n2:i2≠s.heap.objs.size:=Nat.ne_of_lt (Heap.lt_size s2)
  have keep:∀c o,c≠z->c≠TO->c≠i1->c≠i2->s.heap.get? c=some o->h''.get? c=some o:=fun c o c1 c2 c3 c4 e=>(hs''.2 c c1).trans (hk c o c1 c2 c3 c4 e)
  have keepc:∀c o,c∉[z,TI,TO,i1,i2]->s.heap.get? c=some o->h''.get? c=some o:=fun c o hc e=>keep c o (fun q=>hc (by simp [q])) (fun q=>hc (by simp [q])) (fun q=>hc (by simp [q])) (fun q=>hc (by simp [q])) e
  have tup:=(hs''.2 _ (Ne.symm nz)).trans ht
  have fz:=hf z (by simp)
  have fTI:=hf TI (by simp)
  have fTO:=hf TO (by simp)
  have f1:=hf i1 (by simp)
  have f2:=hf i2 (by simp)
  have nf:∀c u,H c=some u->c≠z/\c≠TO/\c≠i1/\c≠i2:=fun c u q=>⟨fun e=>(by rw [e,fz.1]at q;cases q),fun e=>(by rw [e,fTO.1]at q;cases q),fun e=>(by rw [e,f1.1]at q;cases q),fun e=>(by rw [e,f2.1]at q;cases q)⟩
  have nT:∀c u,H c=some u->c≠s.heap.objs.size:=fun c u q=>ne_of_none q hT
  refine⟨.ref s.heap.objs.size,upd H s.heap.objs.size (.tup [x,y]),?_,rfl,⟨_,x,y,hT,rfl,rfl,fun zs hz=>(by rw [I.tuple_inj hz hq1];exact hx),fun zs hz=>(by rw [I.list_inj hz hq2];exact hy)⟩,
   ⟨hz'',(hs''.2 _ D.TIz).trans hTI',⟨_,_,(hs''.2 _ D.TOz).trans hTO'⟩,h1'.at fun o e=>(hs''.2 _ D.i1z).trans e,h2'.at fun o e=>(hs''.2 _ D.i2z).trans e⟩,fun c hc=>?_⟩
  ·show Inv X pins σ (upd H s.heap.objs.size (.tup [x,y])) {s with heap:=h'',gens:=s.gens,drawn:=s.drawn,toks:=s.toks}
   refine Inv.step (s:=s) (h':=h'') (t':=s.toks) (g':=s.gens) (d':=s.drawn) (ch:=[z,TI,TO,i1,i2]) I (fun c hc=>?_) (fun c o _ _ hc' q _=>keepc c o hc' q) (fun c o _ _ hc' q _=>⟨o.slots,keepc c o hc' q⟩) (fun c o _ q n=>by rw [upd_ne (Nat.ne_of_lt (Heap.lt_size q))];exact n)
    (fun c o hc' q=>⟨o,keepc c o hc' q⟩) (fun c ys q=>by rw [upd_ne (nT c _ q)];exact q) (fun c o' ys q=>by rw [upd_ne (nT c _ q)];exact q) (fun c ps q=>⟨#[],by rw [upd_ne (nT c _ q),q];simp⟩) (fun m hm=>?_) (fun c ob q=>?_) I.bare
   ·have:=hf c hc
    exact⟨this.2.2.2.1,this.2.1,this.2.2.2.2.1,this.2.2.2.2.2⟩
   ·obtain⟨o,es,ep,ho,r⟩:=hm
    exact⟨o,es,ep,keep _ o (Ne.symm fz.2.1) (Ne.symm fTO.2.1) (Ne.symm f1.2.1) (Ne.symm f2.2.1) ho,r⟩
   ·by_cases hb:c=s.heap.objs.size
    ·subst hb
     rw [upd_same]at q
     cases q
     exact⟨show 2<=sizeLine by decide,[u1,u2],.cons ru1 (.cons ru2 .nil),⟨_,tup,rfl,_,rfl⟩⟩
    ·rw [upd_ne hb]at q
     refine(I.hok c ob q).stay (fun d w' hc' q'=>?_) (fun d q'=>by rw [upd_ne (nT d _ q')];exact q') (fun d ys q'=>by rw [upd_ne (nT d _ q')];exact q')
     have hne:d≠z/\d≠TO/\d≠i1/\d≠i2:=by
      rcases hc' with rfl|hc'
      ·exact nf _ _ q
      ·exact nf _ _ hc'
     exact keep d w' hne.1 hne.2.1 hne.2.2.1 hne.2.2.2 q'
  ·simp only [List.mem_cons,List.not_mem_nil,or_false]at hc
   rcases hc with rfl|rfl|rfl|rfl|rfl
   ·rw [upd_ne nz];exact fz.1
   ·rw [upd_ne nTI];exact fTI.1
   ·rw [upd_ne nTO];exact fTO.1
   ·rw [upd_ne n1];exact f1.1
   ·rw [upd_ne n2];exact f2.1
 done:=by
  intro X hP hw hK hc i pins s σ H E I hf st hg
  subst hP hw hK
  obtain⟨xs,hq,hx⟩:=hg
  obtain⟨its,rv,p,hz⟩:=I.tuple hq
  have hl:=rv.length
  have fz:=hf z (by simp)
  have fTO:=hf TO (by simp)
  have f1:=hf i1 (by simp)
  have f2:=hf i2 (by simp)
  refine zipT_end (I.ok.hd hc) D st p (by simp;omega) fun h' hk=>⟨rfl,?_⟩
  have keepc:∀c o,c∉[z,TO,i1,i2]->s.heap.get? c=some o->h'.get? c=some o:=fun c o hc e=>hk c o (fun q=>hc (by simp [q])) (fun q=>hc (by simp [q])) (fun q=>hc (by simp [q])) (fun q=>hc (by simp [q])) e
  have nf:∀c u,H c=some u->c∉[z,TO,i1,i2]:=fun c u q hc=>by
   simp only [List.mem_cons,List.not_mem_nil,or_false]at hc
   rcases hc with rfl|rfl|rfl|rfl
   ·rw [fz.1]at q;cases q
   ·rw [fTO.1]at q;cases q
   ·rw [f1.1]at q;cases q
   ·rw [f2.1]at q;cases q
  show Inv X pins σ H {s with heap:=h',gens:=s.gens,drawn:=s.drawn,toks:=s.toks}
  refine Inv.step (s:=s) (h':=h') (t':=s.toks) (g':=s.gens) (d':=s.drawn) (ch:=[z,TO,i1,i2]) I (fun c hc=>?_) (fun c o _ _ hc' q _=>keepc c o hc' q) (fun c o _ _ hc' q _=>⟨o.slots,keepc c o hc' q⟩) (fun _ _ _ _ n=>n)
   (fun c o hc' q=>⟨o,keepc c o hc' q⟩) (fun _ _ q=>q) (fun _ _ _ q=>q) (fun c ps q=>⟨#[],by rw [q];simp⟩) (fun m hm=>?_) (fun c ob q=>?_) I.bare
  ·have hc':c∈[z,TI,TO,i1,i2]:=by
    simp only [List.mem_cons,List.not_mem_nil,or_false]at hc⊢
    rcases hc with h|h|h|h<;>simp [h]
   have:=hf c hc'
   exact⟨this.2.2.2.1,this.2.1,this.2.2.2.2.1,this.2.2.2.2.2⟩
  ·obtain⟨o,es,ep,ho,r⟩:=hm
   exact⟨o,es,ep,hk _ o (Ne.symm fz.2.1) (Ne.symm fTO.2.1) (Ne.symm f1.2.1) (Ne.symm f2.2.1) ho,r⟩
  ·refine(I.hok c ob q).stay (fun d w' hc' q'=>?_) (fun _ q'=>q') (fun _ _ q'=>q')
   refine keepc d w' ?_ q'
   rcases hc' with rfl|hc'
   ·exact nf _ _ q
   ·exact nf _ _ hc'
 self:=fun _ _ _ _ _ st h=>wpAny_pyIter_zip st.z h
section
variable {X:Cx}
def iZip (K:PySem.W.Frag) (ta:TA):TI:=fun σ H R=>ta σ H fun vs H1=>∃a b,vs=[.ref a,.ref b]/\(∃xs,SqT K H1 a xs)/\(∃ys,SqL K H1 b ys)/\R (Itz K a b) H1
theorem pi_zip {es:List Expr} {k:Nat} {pos':Pos} {a b:Expr} {ta:TA} {p pos:Pos} (hg:Gl X "zip") (hm:X.mg "zip"=none) (ha:PA X [a,b] ta) (hs:starEach [a,b] X.env=[(false,eval a X.env),(false,eval b X.env)]:=by rfl) (hs2:starEach [b] X.env=[(false,eval b X.env)]:=by rfl):
  PI X (.Tuple es k pos') (.Call (.Name "zip" p) [a,b] [] pos) (iZip X.K ta):=by
 intro pins s σ H R I h
 refine Call_ (ld_blt I hg hm (show bootBuiltins "zip"=some (.type "zip") by decide+kernel) (PyProof.Rows.callWith_type1 (thn (ha pos pins s σ H _ I h) fun us s1 ⟨vs,H1,I1,r1,q1⟩=>?_) (by rw [hs,hs2]) (by rw [hs2];rfl)))
 obtain⟨t,l,e,⟨xs,hq1⟩,⟨ys,hq2⟩,q⟩:=q1
 subst e
 obtain⟨u,w',rfl,ru,rw'⟩:=vals2 r1
 cases ru
 cases rw'
 obtain⟨its1,rv1,p1,_⟩:=I1.tuple hq1
 obtain⟨its2,rv2,p2,_⟩:=I1.list hq2
 refine call_zipT p1 p2.isList fun h' st hk=>wpAny_pyIter_zip st.z ?_
 have I2:Inv X pins σ H1 {s1 with heap:=h'}:=I1.kept (t':=s1.toks) fun b o e=>hk b o e
 have lt:t<s1.heap.objs.size:=by obtain⟨o,e,_⟩:=p1;exact Heap.lt_size e
 have ll:l<s1.heap.objs.size:=by obtain⟨o,e,_⟩:=p2.isList;exact Heap.lt_size e
 have ne:∀{m n:Nat},m<n->m≠n:=fun h=>Nat.ne_of_lt h
 have D:ZipApart (s1.heap.objs.size+4) (s1.heap.objs.size+2) (s1.heap.objs.size+3) s1.heap.objs.size (s1.heap.objs.size+1) t l:=by
  have e:∀n:Nat,t≠s1.heap.objs.size+n:=fun n=>ne (Nat.lt_of_lt_of_le lt (Nat.le_add_right _ _))
  have e':∀n:Nat,l≠s1.heap.objs.size+n:=fun n=>ne (Nat.lt_of_lt_of_le ll (Nat.le_add_right _ _))
  refine⟨?_,?_,?_,?_,?_,?_,?_,?_,?_,?_,e 4,e 3,e 0,e 1,e' 4,e' 3,e' 0,e' 1⟩<;>first|exact Nat.ne_of_lt (by omega)|exact Nat.ne_of_gt (by omega)
 refine⟨s1.heap.objs.size+4,_,_,_,H1,rfl,I2,turn_zip D,st,fun c hc=>?_,q⟩
 have hle:s1.heap.objs.size<=c:=by
  simp only [List.mem_cons,List.not_mem_nil,or_false]at hc
  rcases hc with rfl|rfl|rfl|rfl|rfl
  ·exact Nat.le_add_right _ _
  ·exact Nat.le_add_right _ _
  ·exact Nat.le_add_right _ _
  ·exact Nat.le_refl _
  ·exact Nat.le_add_right _ _
 exact I1.fpOk hle (I1.hok.fresh hle)
end
theorem comp_zip {K:PySem.W.Frag} {a b D:Addr} {xs ys:List V} {ni nj:Nat} {te:TE} {Q:VK} {σ:St} {H:Hp} (hlen:xs.length=ys.length) (Pv:Nat->List V->St->Hp->Prop) (h0:Pv 0 [] σ H) (hl:∀i acc σ H,i<=xs.length->Pv i acc σ H->SqT K H a xs/\SqL K H b ys)
  (hs:∀i x y acc σ H p,i<xs.length->xs[i]? =some x->ys[i]? =some y->Pv i acc σ H->H p=none->te ((σ.set ni (some x)).set nj (some y)) (upd H p (.tup [x,y])) fun v H5=>CTurn xs.length D Pv i ((σ.set ni (some x)).set nj (some y)) v H5) (hd:∀acc σ H,Pv xs.length acc σ H->Q (.ref D) H):
  CompW (Itz K a b) D (gPair K ni nj) te Q σ H:=by
 refine⟨fun i m σ H=>m=xs.length-i/\i<=xs.length/\∃acc,Pv i acc σ H,⟨xs.length,by simp,Nat.zero_le _,[],h0⟩,?_⟩
 rintro i m σ H ⟨rfl,hi,acc,p⟩
 obtain⟨q1,q2⟩:=hl i acc σ H hi p
 by_cases hlt:i<xs.length
 ·refine .inr ⟨⟨xs,ys,xs[i],ys[i]'(by omega),q1,q2,by simp [hlt],by simp [show i<ys.length by omega]⟩,fun v H' yl=>?_⟩
  obtain⟨pp,x,y,hn,rfl,rfl,hx,hy⟩:=yl
  exact⟨pp,[x,y],rfl,SqT.of upd_same,rfl,_,_,rfl,_,_,rfl,rfl,hs i x y acc σ _ pp hlt (hx xs q1) (hy ys q2) p hn⟩
 ·have e:i=xs.length:=by omega
  subst e
  exact .inl ⟨⟨xs,q1,Nat.le_refl _⟩,hd acc σ H p⟩
section
variable {X:Cx}
theorem call_all:CallR X (.builtin "all") (fun xs H Q=>∃(p:Addr) (bs:List Bool),xs=[.ref p]/\SqL X.K H p (bs.map V.bl)/\X.calm=true/\Q (.bl (bs.all id)) H):=by
 intro pins s σ H xs us Q I r h
 obtain⟨p,bs,rfl,hq,hc,q⟩:=h
 obtain⟨u,rfl,ru⟩:=vals1 r
 cases ru
 obtain⟨its,rv,pl,hz⟩:=I.list hq
 have hl:=rv.length
 rw [List.length_map]at hl
 refine call_all_walk (wpAny_pyIter_list pl.isList ?_)
 have hlt:p<s.heap.objs.size:=by obtain⟨o,e,_⟩:=pl.isList;exact Heap.lt_size e
 have hne:p≠s.heap.objs.size:=Nat.ne_of_lt hlt
 have hd:X.A.in1.handled=none:=I.ok.hd hc
 refine⟨s.heap.objs.size,_,_,_,_,_,fun i=>bs.getD i true,rfl,Walks.list hd s.heap.objs.size p hne its.toArray,⟨⟨_,Heap.get?_push_size _ rfl,rfl,rfl⟩,pl.isList.push _⟩,fun i v s' Q' E' hv hQ=>?_,fun h' tk hk=>?_⟩
 ·have hv':its[i]? =some v:=by simpa using hv
  have hi:i<its.length:=(List.getElem?_eq_some_iff.mp hv').1
  have hi':i<bs.length:=by omega
  have e1:(bs.map V.bl)[i]? =some (V.bl bs[i]):=by simp [hi']
  obtain⟨u,hu,ru⟩:=rv.get e1
  rw [hv']at hu
  cases hu
  have ru':v=Value.bool bs[i]:=ru
  subst ru'
  have e2:bs.getD i true=bs[i]:=by simp [hi']
  have hQ':Q' (bs.getD i true) s':=hQ
  rw [e2]at hQ'
  exact wpAny_truthy_bool hQ'
 ·refine⟨.bl (bs.all id),H,?_,?_,q⟩
  ·exact I.kept (t':=tk) fun b o e=>hk b o (by simp;exact Nat.ne_of_lt (Heap.lt_size e)) (Heap.get?_push_of_some _ e)
  ·show Value.bool _=Value.bool _
   congr 1
   have e:its.toArray.size=bs.length:=by rw [List.size_toArray];omega
   rw [e]
   have:∀l:List Bool,(List.range l.length).all (fun i=>l.getD i true)=l.all id:=by
    intro l
    induction l with
    |nil=>rfl
    |cons b l ih=>
     rw [List.length_cons,all_range_succ,List.all_cons, <-ih]
     congr 1
   exact this bs
end
section
variable {X:Cx}
theorem valsOfInts:∀{us:List Value} {ns:List Int},IntsAre us ns->Vals (ns.map V.int) us
 |_,_,.nil=> .nil
 |_,_,.cons i t r=> .cons ⟨t,rfl⟩ (valsOfInts r)
theorem Paired.get2 {α β:Type} {F:α->β->Prop}:∀{l₁:List α} {l₂:List β},Paired F l₁ l₂->∀{i:Nat} {y:β},l₂[i]? =some y->∃x,l₁[i]? =some x/\F x y
 |_,_,.nil,i,_,h=>by simp at h
 |_,_,.cons h _,0,_,e=>by simp at e;subst e;exact⟨_,rfl,h⟩
 |_,_,.cons _ t,i+1,y,e=>by
  obtain⟨x,h1,h2⟩:=Paired.get2 t (i:=i) (y:=y) (by simpa using e)
  exact⟨x,by simpa using h1,h2⟩
theorem comp_range {lo:Int} {n:Nat} {D:Addr} {ni:Nat} {te:TE} {Q:VK} {σ:St} {H:Hp} (Pv:Nat->List V->St->Hp->Prop) (h0:Pv 0 [] σ H)
  (hs:∀i acc σ H,i<n->Pv i acc σ H->te (σ.set ni (some (.int (lo+i)))) H fun y H5=>CTurn n D Pv i (σ.set ni (some (.int (lo+i)))) y H5) (hd:∀acc σ H,Pv n acc σ H->Q (.ref D) H):
  CompW (Itr lo n) D (gName ni) te Q σ H:=by
 refine⟨fun i m σ H=>m=n-i/\i<=n/\∃acc,Pv i acc σ H,⟨n,by simp,Nat.zero_le _,[],h0⟩,?_⟩
 rintro i m σ H ⟨rfl,hi,acc,p⟩
 by_cases hlt:i<n
 ·refine .inr ⟨hlt,fun x H' y=>?_⟩
  obtain⟨e,y⟩:=y
  subst e y
  exact hs i acc σ _ hlt p
 ·have e:i=n:=by omega
  subst e
  exact .inl ⟨Nat.le_refl _,hd acc σ H p⟩
theorem comp_listG {K:PySem.W.Frag} {a D:Addr} {xs:List V} {g:TG} {te:TE} {Q:VK} {σ:St} {H:Hp} (Pv:Nat->List V->St->Hp->Prop) (h0:Pv 0 [] σ H) (hl:∀i acc σ H,i<=xs.length->Pv i acc σ H->SqL K H a xs)
  (hs:∀i x acc σ H,i<xs.length->xs[i]? =some x->Pv i acc σ H->g x σ H fun σ4 H4=>te σ4 H4 fun y H5=>CTurn xs.length D Pv i σ4 y H5) (hd:∀acc σ H,Pv xs.length acc σ H->Q (.ref D) H):
  CompW (Itl K a) D g te Q σ H:=by
 refine⟨fun i m σ H=>m=xs.length-i/\i<=xs.length/\∃acc,Pv i acc σ H,⟨xs.length,by simp,Nat.zero_le _,[],h0⟩,?_⟩
 rintro i m σ H ⟨rfl,hi,acc,p⟩
 have q:=hl i acc σ H hi p
 by_cases hlt:i<xs.length
 ·refine .inr ⟨⟨xs,xs[i],q,by simp [hlt]⟩,fun x H' y=>?_⟩
  obtain⟨e,y⟩:=y
  subst e
  exact hs i x acc σ _ hlt (y xs q) p
 ·have e:i=xs.length:=by omega
  subst e
  exact .inl ⟨⟨xs,q,Nat.le_refl _⟩,hd acc σ H p⟩
end
section
variable {X:Cx}
theorem preSum_sum (f:Nat->Int) (ns:List Int) (h:∀j,j<ns.length->f j=ns.getD j 0):∀n,n<=ns.length->preSum f n=(ns.take n).sum
 |0,_=>by simp [preSum]
 |n+1,hn=>by
  show preSum f n+f n=_
  rw [preSum_sum f ns h n (by omega),h n hn,List.take_succ]
  have e:ns[n]? =some (ns.getD n 0):=by simp [show n<ns.length from hn]
  rw [e,List.sum_append]
  simp
theorem take_sum_le:∀(ns:List Int) (b:Int),(∀n∈ns,0<=n/\n<=b)->0<=b->∀j,0<=(ns.take j).sum/\(ns.take j).sum<=ns.length*b
 | [],b,_,hb,j=>by simp
 |n::ns,b,h,hb,0=>by
  simp
  exact Int.mul_nonneg (by omega) hb
 |n::ns,b,h,hb,j+1=>by
  have ih:=take_sum_le ns b (fun m hm=>h m (List.mem_cons_of_mem _ hm)) hb j
  have hn:=h n List.mem_cons_self
  rw [List.take_succ_cons,List.sum_cons,List.length_cons]
  have:((ns.length+1:Nat):Int)*b=ns.length*b+b:=by rw [Int.natCast_add,Int.add_mul];simp
  rw [this]
  omega
def rSum (K:PySem.W.Frag):List V->Hp->VK->Prop:=fun xs H Q=>∃(p:Addr) (ns:List Int),xs=[.ref p]/\SqL K H p (ns.map V.int)/\ns.length<=1000/\(∀n∈ns,0<=n/\n<=1000)/\Q (.int ns.sum) H
theorem call_sum (hc:X.calm=true):CallR X (.builtin "sum") (rSum X.K):=by
 intro pins s σ H xs us Q I r h
 obtain⟨p,ns,rfl,hq,hln,hb,q⟩:=h
 obtain⟨u,rfl,ru⟩:=vals1 r
 cases ru
 obtain⟨its,rv,pl,hz⟩:=I.list hq
 have hi:IntsAre its ns:=intsAre_of rv
 obtain⟨ys,e⟩:=hi.allInts.items
 have hns:ns=ys.toList.map (·.1):=by
  rw [<-hi.numsOf, <-nums_intItems, <-e]
 have hsz:ys.size=ns.length:=by rw [hns,List.length_map,Array.length_toList]
 have hl:=pl.isList
 rw [e]at hl
 have hat:∀j,j<ns.length->numAt ys j=ns.getD j 0:=fun j hj=>by
  rw [numAt_eq,hns]
 have hps:∀n,n<=ns.length->preSum (numAt ys) n=(ns.take n).sum:=preSum_sum _ _ hat
 have hsum:=take_sum_le ns 1000 hb (by decide)
 have hbig:(ns.length:Int)*1000<=1000000:=by omega
 refine sum_intList (I.ok.hd hc) hl (fun j hj=>⟨?_,?_⟩) fun h' tk t' hk=>?_
 ·have hj':j<ns.length:=by omega
  rw [hat j hj']
  have:=hb (ns.getD j 0) (by simp [hj'])
  exact⟨by omega,by omega⟩
 ·rw [hps (j+1) (by omega)]
  have:=hsum (j+1)
  exact⟨by omega,by omega⟩
 ·refine⟨.int _,H,I.kept (t':=tk) hk,⟨t',rfl⟩,?_⟩
  rw [hsz,hps _ (Nat.le_refl _),List.take_length]
  exact q
end
section
variable {X:Cx}
end
section
variable {prog:Program} {w:World} {A:Around}
theorem args_maxD (x d:Value):argsOk "max" ⟨[x],[(Str.ofString "default",d)]⟩:=by
 unfold argsOk
 kernel_rfl
def TopX (num:Nat->Int) (P:Nat->Value->Prop) (j:Nat):Option (Nat×Value)->Prop
 |none=>j=0
 |some (i,v)=>i<j/\P i v/\∀t,t<j->num t<=num i
def heldOfX (o:Option (Nat×Value)):Array Value:=match o with
 |none=> #[]
 |some (_,v)=> #[v,v]
theorem maxD_turns {It Bx:Addr} {fp wr:List Addr} {n:Nat} {P:Nat->Value->Prop} {St:Nat->Heap->Prop} {R:Result->Shared->Prop} {d:Value} {num:Nat->Int} (W:Walks prog w A.in1 It fp wr n P St) (cm:CmpOf prog w A.in1 .Gt P (fun i j=>decide (num i>num j))) (apart:Bx∉fp):
  ∀(k j:Nat) (s:Shared) (o:Option (Nat×Value)) (c:Nat),n=j+k->St j s.heap->TopX num P j o->s.heap.get? Bx=some {cls:= .type "list",dict:=none,data:= .seq (heldOfX o) c,slots:= #[]}->
   (∀v h' tk,(n=0/\v=d∨∃o',o'=some v/\∃i,TopX num P n (some (i,v)))->(∀b ob,b∉wr->b≠Bx->s.heap.get? b=some ob->h'.get? b=some ob)->R (.ok (.ret v)) {s with heap:=h',toks:=tk})->
   codeAny (model prog w) A (.builtin "max.loop" ⟨[.ref It,.none,.ref Bx],[("default",d)]⟩) R s
 |0,j,s,o,c,en,at_,top,hS,fin=>by
  have outw:Bx∉wr:=fun z=>apart (W.sub _ z)
  cases en
  refine codeAny_builtin F.entry_max_loop ?_
  rw [Around.under_plainId F.plain_max_loop _]
  show wpAny _ A.in1 (seqItems? (.ref Bx)>>=_) _ _ s
  refine wpAny_bind (wpAny_seqItems hS rfl ?_)
  show wpAny _ A.in1 (tryCatch (pyNext (.ref It)) _>>=_) _ _ s
  refine wpAny_bind (wpAny_tryCatch (W.done s _ _ at_ fun h' tk kept=>?_))
  have hS2:=kept Bx _ outw hS
  cases o with
  |none=>
   have z:j=0:=top
   show wpAny _ A.in1 (rule _>>=_) _ _ _
   exact wpAny_bind (wpAny_rule (wpAny_pure (fin d h' tk (.inl ⟨z,rfl⟩) fun b ob h1 _ h3=>kept b ob h1 h3)))
  |some q=>
   show wpAny _ A.in1 (updateSeq Bx (fun _=> #[])>>=_) _ _ _
   refine wpAny_bind (wpAny_updateSeq (hz:=by show 2<=sizeLine;decide) hS2 rfl (wpAny_bind (wpAny_letGo (wpAny_pure (fin q.2 _ tk (.inr ⟨_,rfl,q.1,top⟩) fun b ob h1 h2 h3=>?_)))))
   exact(Heap.get?_update_other _ _ (Ne.symm h2)).trans (kept b ob h1 h3)
 |k+1,j,s,o,c,en,at_,top,hS,fin=>by
  have outw:Bx∉wr:=fun z=>apart (W.sub _ z)
  have more:j<n:=by omega
  have nm:(toString "max"++toString ".loop":String)="max.loop":=by decide
  refine codeAny_builtin F.entry_max_loop ?_
  rw [Around.under_plainId F.plain_max_loop _]
  show wpAny _ A.in1 (seqItems? (.ref Bx)>>=_) _ _ s
  refine wpAny_bind (wpAny_seqItems hS rfl ?_)
  show wpAny _ A.in1 (tryCatch (pyNext (.ref It)) _>>=_) _ _ s
  refine wpAny_bind (wpAny_tryCatch (W.item j s _ _ more at_ fun v h' tk pv at2 kept=>?_))
  have hS2:=kept Bx _ outw hS
  have step:∀(o2:Option (Nat×Value)) (c2:Nat) (h2:Heap) (t2:Nat),TopX num P (j+1) o2->h2.get? Bx=some {cls:= .type "list",dict:=none,data:= .seq (heldOfX o2) c2,slots:= #[]}->(∀b ob,b≠Bx->h'.get? b=some ob->h2.get? b=some ob)->
    codeAny (model prog w) A (.builtin "max.loop" ⟨[.ref It,.none,.ref Bx],[("default",d)]⟩) R {s with heap:=h2,toks:=t2}:=fun o2 c2 h2 t2 top2 hS3 k2=>by
   refine maxD_turns W cm apart k (j+1) {s with heap:=h2,toks:=t2} o2 c2 (by omega) (W.frame _ _ _ at2 fun b hb ob e=>k2 b ob (fun z=>apart (z▸hb)) e) top2 hS3 fun v3 h3 t3 r3 k3=>?_
   exact fin v3 h3 t3 r3 fun b ob a1 a2 a3=>k3 b ob a1 a2 (k2 b ob a2 (kept b ob a1 a3))
  cases o with
  |none=>
   have z:j=0:=top
   subst z
   show wpAny _ A.in1 (updateSeq Bx (fun _=> #[v,v])>>=_) _ _ _
   refine wpAny_bind (wpAny_updateSeq hS2 rfl ?_)
   rw [nm]
   refine wpAny_pure ⟨plainId_quiet F.plain_max_loop _,step (some (0,v)) _ _ _ ⟨Nat.one_pos,pv,fun t ht=>?_⟩ (Heap.get?_update_self _ hS2 rfl) fun b ob hb e=>(Heap.get?_update_other _ _ (Ne.symm hb)).trans e⟩
   have:t=0:=by omega
   subst this
   exact Int.le_refl _
  |some q=>
   obtain⟨i,vb⟩:=q
   obtain⟨hi,pb,best⟩:=top
   show wpAny _ A.in1 (tryCatch (holding [v,v] (richCompare .Gt v vb>>=_)) _>>=_) _ _ _
   refine wpAny_bind (wpAny_tryCatch (wpAny_holding (wpAny_bind (cm j i v vb _ _ _ pv pb ?_))))
   refine wpAny_bind (wpAny_holding (wpAny_truthy_bool (wpAny_bind (wpAny_letGo (wpAny_pure ?_)))))
   dsimp only
   by_cases hb:num j>num i
   ·rw [decide_eq_true hb,if_pos rfl]
    refine wpAny_bind (wpAny_updateSeq (hz:=by show 2<=sizeLine;decide) hS2 rfl (wpAny_bind (wpAny_letGo ?_)))
    rw [nm]
    refine wpAny_pure ⟨plainId_quiet F.plain_max_loop _,step (some (j,v)) _ _ _ ⟨Nat.lt_succ_self j,pv,fun t ht=>?_⟩ (Heap.get?_update_self _ hS2 rfl) fun b ob hb e=>(Heap.get?_update_other _ _ (Ne.symm hb)).trans e⟩
    by_cases ht2:t<j
    ·have:=best t ht2;omega
    ·have:t=j:=by omega
     subst this
     exact Int.le_refl _
   ·rw [decide_eq_false hb,if_neg Bool.false_ne_true]
    refine wpAny_bind (wpAny_letGo ?_)
    rw [nm]
    refine wpAny_pure ⟨plainId_quiet F.plain_max_loop _,step (some (i,vb)) _ _ _ ⟨by omega,pb,fun t ht=>?_⟩ hS2 fun b ob _ e=>e⟩
    by_cases ht2:t<j
    ·exact best t ht2
    ·have:t=j:=by omega
     subst this
     omega
end
section
variable {prog:Program} {w:World} {A:Around}
end
def CallRK (X:Cx) (f:Value) (ks:List Str) (r:List V->List V->Hp->VK->Prop):Prop:=
 ∀(pins:List (Addr×Obj)) (s:Shared) (σ:St) (H:Hp) (xs ys:List V) (us ws:List Value) (Q:VK),Inv X pins σ H s->Vals xs us->Vals ys ws->r xs ys H Q->wpAny (model X.prog X.w) X.A (call f us (ks.zip ws)) (EP X pins σ Q) X.xe s
def tCBK (r:List V->List V->Hp->VK->Prop) (t tk:TA):TE:=fun σ H Q=>t σ H fun xs H1=>tk σ H1 fun ys H2=>r xs ys H2 Q
theorem pe_callBK {X:Cx} {x:Str} {id:String} {ks:List Str} {r:List V->List V->Hp->VK->Prop} {e:Expr} {es:List Expr} {kws:List Keyword} {t tk:TA} {p pos:Pos} (hc:CallRK X (.builtin id) ks r) (hg:Gl X x) (hm:X.mg x=none) (hv:bootBuiltins x=some (.builtin id)) (ha:PA X (e::es) t) (hkw:PK X kws tk)
  (hall:(backToKw pos (keywordEach kws X.env)).all (·.1.isSome)=true:=by rfl) (hks:(backToKw pos (keywordEach kws X.env)).filterMap (·.1)=ks:=by rfl) (hn:x≠"__name__":=by decide) (hdb:(x==("__debug__":Str))=false:=by decide)
  (he:starEach (e::es) X.env=(false,eval e X.env)::starEach es X.env:=by rfl) (hpl:(backTo pos (starEach (e::es) X.env)).any (·.1)=false:=by rfl) (hpk:(backToKw pos (keywordEach kws X.env)).any (·.1.isNone)=false:=by rfl):PE X (.Call (.Name x p) (e::es) kws pos) (tCBK r t tk):=by
 intro pins s σ H Q I h
 refine wpAny_Call_Name_kw (ld_blt I hg hm hv ?_ hn hdb)
 refine PyProof.Rows.callWith_kw (thn (ha pos pins s σ H _ I h) fun us s1 ⟨vs,H1,I1,r1,q1⟩=>?_) (by rw [he];rfl) hpl hall hpk
 refine thn (hkw pos pins s1 σ H1 _ I1 q1) fun ws s2 ⟨zs,H2,I2,rz,q2⟩=>?_
 rw [hks]
 exact hc pins s2 σ H2 vs zs us ws Q I2 r1 rz q2
def rMaxD (K:PySem.W.Frag):List V->List V->Hp->VK->Prop:=fun xs ys H Q=>∃p ns d,xs=[.ref p]/\ys=[d]/\SqL K H p (ns.map V.int)/\(ns=[]->Q d H)/\∀m:Int,m∈ns->(∀a∈ns,a<=m)->Q (.int m) H
theorem call_maxD {X:Cx} (hc:X.calm=true):CallRK X (.builtin "max") ["default"] (rMaxD X.K):=by
 intro pins s σ H xs ys us ws Q I r rk h
 obtain⟨p,ns,d,rfl,rfl,hq,q0,q1⟩:=h
 obtain⟨u,rfl,ru⟩:=vals1 r
 obtain⟨dv,rfl,rd⟩:=vals1 rk
 cases ru
 obtain⟨its,rv,pl,hz⟩:=I.list hq
 have hi:IntsAre its ns:=intsAre_of rv
 obtain⟨ys,e⟩:=hi.allInts.items
 have hns:ns=ys.toList.map (·.1):=by rw [<-hi.numsOf, <-nums_intItems, <-e]
 have hl:=pl.isList
 rw [e]at hl
 have nm:(toString "max"++toString ".loop":String)="max.loop":=by decide
 refine kmb_tree F.kind_max F.plain_max F.entry_max (args_maxD _ _) ?_
 show wpAny _ X.A.in1 (Builtin.Builtins.bindParams "max" ["key","default"] 0 ⟨[],[(Str.ofString "default",dv)]⟩>>=_) _ _ s
 refine wpAny_bind (wpAny_of_eq (show Builtin.Builtins.bindParams "max" ["key","default"] 0 ⟨[],[(Str.ofString "default",dv)]⟩=pure [none,some dv] by rfl) (wpAny_bind (wpAny_pure ?_)))
 refine wpAny_bind (iter_intList hl fun s₂ es st hfp hlI=>?_)
 refine wpAny_bind (wpAny_newObj_type ?_)
 have apart:s₂.heap.objs.size∉[s.heap.objs.size,p]:=fun z=>Nat.lt_irrefl _ (hfp _ z)
 rw [nm]
 have W:=Walks.list (prog:=X.prog) (w:=X.w) (A:=X.A.in1) (I.ok.hd hc) s.heap.objs.size p hlI (intItems ys)
 refine wpAny_pure ⟨plainId_quiet F.plain_max_loop _,maxD_turns W (CmpOf.ints_gt (numAt ys) (fun _ _=>intItems_at)) apart _ 0 _ none _ (by rw [Nat.zero_add]) (W.frame _ _ _ st fun b _ o eb=>Heap.get?_push_of_some _ eb) rfl (Heap.get?_push_size _ rfl) fun v h' tk res kept=>?_⟩
 subst es
 have old:∀b o,s.heap.get? b=some o->h'.get? b=some o:=fun b o eb=>by
  have lt:=Heap.lt_size eb
  refine kept b o (fun z=>?_) (fun z=>?_) (Heap.get?_push_of_some _ (Heap.get?_push_of_some _ eb))
  ·have z':=List.mem_singleton.mp z
   exact absurd lt (by rw [z'];exact Nat.lt_irrefl _)
  ·rw [Heap.size_push]at z
   exact absurd lt (by rw [z];exact Nat.not_lt.mpr (Nat.le_succ _))
 rcases res with ⟨n0,rfl⟩|⟨_,_,i,hin,pv,best⟩
 ·refine⟨d,H,I.kept (t':=tk) old,rd,q0 ?_⟩
  rw [hns]
  have:ys.size=0:=by simpa [intItems]using n0
  rw [List.map_eq_nil_iff, <-Array.length_toList]at*
  exact List.eq_nil_of_length_eq_zero (by rw [Array.length_toList];exact this)
 ·obtain⟨t,rfl⟩:=intItems_at (by simpa [intItems]using pv)
  have hin':i<ys.size:=by simpa [intItems]using hin
  refine⟨.int _,H,I.kept (t':=tk) old,⟨t,rfl⟩,q1 _ ?_ fun a ha=>?_⟩
  ·rw [hns,numAt_eq]
   exact getD_mem (by rw [List.length_map,Array.length_toList];omega)
  ·rw [hns]at ha
   obtain⟨j,hj,rfl⟩:=mem_getD ha
   rw [List.length_map,Array.length_toList]at hj
   have:=best j (by simpa [intItems]using hj)
   rw [<-numAt_eq]
   exact this
inductive D where
 |fl (x:V)
 |tp (l:List D)
 |ls (l:List D)
mutual
def Den (K:PySem.W.Frag) (H:Hp):D->V->Prop
 | .fl x,v=>v=x/\flatV x=true
 | .tp l,v=>∃a xs,v= .ref a/\SqT K H a xs/\Dens K H l xs
 | .ls l,v=>∃a xs,v= .ref a/\SqL K H a xs/\Dens K H l xs
def Dens (K:PySem.W.Frag) (H:Hp):List D->List V->Prop
 | [],xs=>xs=[]
 |d::l,xs=>∃x r,xs=x::r/\Den K H d x/\Dens K H l r
end
mutual
def D.eq:D->D->Bool
 | .fl x,.fl y=>eqV x y
 | .tp l,.tp m=>D.eqs l m
 | .ls l,.ls m=>D.eqs l m
 |_,_=>false
def D.eqs:List D->List D->Bool
 | [],[]=>true
 |x::l,y::m=>D.eq x y && D.eqs l m
 |_,_=>false
end
mutual
def D.dep:D->Nat
 | .fl _=>0
 | .tp l=>D.deps l+1
 | .ls l=>D.deps l+1
def D.deps:List D->Nat
 | []=>0
 |x::l=>max (D.dep x) (D.deps l)
end
section
variable {X:Cx} {pins:List (Addr×Obj)} {σ:St} {H:Hp} {s:Shared}
theorem Inv.not_both {a:Addr} {xs ys:List V} (I:Inv X pins σ H s) (h:SqL X.K H a xs) (h':SqT X.K H a ys):False:=by
 obtain⟨its,r1,p1,_⟩:=I.list h
 obtain⟨its2,r2,p2,_⟩:=I.tuple h'
 obtain⟨o,ho,hc,_⟩:=p1.isList
 obtain⟨o2,ho2,hc2,_⟩:=p2
 rw [ho]at ho2
 cases ho2
 rw [hc]at hc2
 simp at hc2
mutual
theorem eqD_self (I:Inv X pins σ H s):∀(d e:D) {v:V},Den X.K H d v->Den X.K H e v->d.eq e=true
 | .fl x,.fl y,v,h,h'=>by
  obtain⟨rfl,f⟩:=h
  obtain⟨rfl,_⟩:=h'
  rw [D.eq]
  exact eqV_refl f
 | .fl x,.tp m,v,h,h'=>by
  obtain⟨rfl,f⟩:=h
  obtain⟨a,xs,rfl,_⟩:=h'
  exact absurd (show false=true from f) Bool.false_ne_true
 | .fl x,.ls m,v,h,h'=>by
  obtain⟨rfl,f⟩:=h
  obtain⟨a,xs,rfl,_⟩:=h'
  exact absurd (show false=true from f) Bool.false_ne_true
 | .tp l,.fl x,v,h',h=>by
  obtain⟨rfl,f⟩:=h
  obtain⟨a,xs,rfl,_⟩:=h'
  exact absurd (show false=true from f) Bool.false_ne_true
 | .ls l,.fl x,v,h',h=>by
  obtain⟨rfl,f⟩:=h
  obtain⟨a,xs,rfl,_⟩:=h'
  exact absurd (show false=true from f) Bool.false_ne_true
 | .tp l,.tp m,v,h,h'=>by
  obtain⟨a,xs,rfl,h1,h2⟩:=h
  obtain⟨b,ys,e,h3,h4⟩:=h'
  cases e
  rw [I.tuple_inj h3 h1]at h4
  rw [D.eq]
  exact eqsD_self I l m h2 h4
 | .ls l,.ls m,v,h,h'=>by
  obtain⟨a,xs,rfl,h1,h2⟩:=h
  obtain⟨b,ys,e,h3,h4⟩:=h'
  cases e
  rw [I.list_inj h3 h1]at h4
  rw [D.eq]
  exact eqsD_self I l m h2 h4
 | .tp l,.ls m,v,h,h'=>by
  obtain⟨a,xs,rfl,h1,h2⟩:=h
  obtain⟨b,ys,e,h3,h4⟩:=h'
  cases e
  exact(I.not_both h3 h1).elim
 | .ls l,.tp m,v,h,h'=>by
  obtain⟨a,xs,rfl,h1,h2⟩:=h
  obtain⟨b,ys,e,h3,h4⟩:=h'
  cases e
  exact(I.not_both h1 h3).elim
theorem eqsD_self (I:Inv X pins σ H s):∀(l m:List D) {xs:List V},Dens X.K H l xs->Dens X.K H m xs->D.eqs l m=true
 | [],[],xs,h,h'=>by rw [D.eqs]
 | [],_::_,xs,h,h'=>by
  obtain⟨x,r,rfl,_⟩:=h'
  cases (show(x::r)=[]from h)
 |_::_,[],xs,h',h=>by
  obtain⟨x,r,rfl,_⟩:=h'
  cases (show(x::r)=[]from h)
 |d::l,e::m,xs,h,h'=>by
  obtain⟨x,r,rfl,h1,h2⟩:=h
  obtain⟨y,r',q,h3,h4⟩:=h'
  cases q
  rw [D.eqs,eqD_self I d e h1 h3,eqsD_self I l m h2 h4]
  rfl
end
mutual
theorem eqAt_D (I:Inv X pins σ H s):∀(d e:D) {v v':V} {u u':Value} {A:Around},RelV v u->RelV v' u'->Den X.K H d v->Den X.K H e v'->A.units+d.dep+e.dep<cLine->SeqAt.EqAt A s u u' (d.eq e)
 | .fl x,.fl y,v,v',u,u',A,r,r',h,h',hu=>by
  obtain⟨rfl,f⟩:=h
  obtain⟨rfl,f'⟩:=h'
  rw [D.eq]
  exact eqAt_V r r' f f'
 | .fl x,.tp m,v,v',u,u',A,r,r',h,h',hu=>by
  obtain⟨rfl,f⟩:=h
  obtain⟨a,xs,rfl,hb,_⟩:=h'
  cases r'
  obtain⟨its2,r2,p2,_⟩:=I.tuple hb
  rw [show D.eq (.fl v) (.tp m)=false by simp [D.eq]]
  have hu':A.units<cLine:=by omega
  cases v with
  |non=>cases r;exact SeqAt.EqAt.none_tuple p2 hu'
  |bl c=>cases r;exact SeqAt.EqAt.bool_tuple c p2 hu'
  |int c=>obtain⟨t,rfl⟩:=r;exact SeqAt.EqAt.int_tuple c t p2 hu'
  |str c=>obtain⟨t,rfl⟩:=r;exact SeqAt.EqAt.str_tuple c t p2 hu'
  |_=>exact absurd (show false=true from f) Bool.false_ne_true
 | .fl x,.ls m,v,v',u,u',A,r,r',h,h',hu=>by
  obtain⟨rfl,f⟩:=h
  obtain⟨a,xs,rfl,hb,_⟩:=h'
  cases r'
  obtain⟨its2,r2,p2,_⟩:=I.list hb
  rw [show D.eq (.fl v) (.ls m)=false by simp [D.eq]]
  have hu':A.units<cLine:=by omega
  cases v with
  |non=>cases r;exact SeqAt.EqAt.none_list p2.isList hu'
  |bl c=>cases r;exact SeqAt.EqAt.bool_list c p2.isList hu'
  |int c=>obtain⟨t,rfl⟩:=r;exact SeqAt.EqAt.int_list c t p2.isList hu'
  |str c=>obtain⟨t,rfl⟩:=r;exact SeqAt.EqAt.str_list c t p2.isList hu'
  |_=>exact absurd (show false=true from f) Bool.false_ne_true
 | .tp l,.fl x,v',v,u',u,A,r',r,h',h,hu=>by
  obtain⟨rfl,f⟩:=h
  obtain⟨a,xs,rfl,hb,_⟩:=h'
  cases r'
  obtain⟨its2,r2,p2,_⟩:=I.tuple hb
  rw [show D.eq (.tp l) (.fl v)=false by simp [D.eq]]
  have hu':A.units<cLine:=by omega
  cases v with
  |non=>cases r;exact SeqAt.EqAt.tuple_none p2 hu'
  |bl c=>cases r;exact SeqAt.EqAt.tuple_bool c p2 hu'
  |int c=>obtain⟨t,rfl⟩:=r;exact SeqAt.EqAt.tuple_int c t p2 hu'
  |str c=>obtain⟨t,rfl⟩:=r;exact SeqAt.EqAt.tuple_str c t p2 hu'
  |_=>exact absurd (show false=true from f) Bool.false_ne_true
 | .ls l,.fl x,v',v,u',u,A,r',r,h',h,hu=>by
  obtain⟨rfl,f⟩:=h
  obtain⟨a,xs,rfl,hb,_⟩:=h'
  cases r'
  obtain⟨its2,r2,p2,_⟩:=I.list hb
  rw [show D.eq (.ls l) (.fl v)=false by simp [D.eq]]
  have hu':A.units<cLine:=by omega
  cases v with
  |non=>cases r;exact SeqAt.EqAt.list_none p2.isList hu'
  |bl c=>cases r;exact SeqAt.EqAt.list_bool c p2.isList hu'
  |int c=>obtain⟨t,rfl⟩:=r;exact SeqAt.EqAt.list_int c t p2.isList hu'
  |str c=>obtain⟨t,rfl⟩:=r;exact SeqAt.EqAt.list_str c t p2.isList hu'
  |_=>exact absurd (show false=true from f) Bool.false_ne_true
 | .tp l,.ls m,v,v',u,u',A,r,r',h,h',hu=>by
  obtain⟨a,xs,rfl,h1,_⟩:=h
  obtain⟨b,ys,rfl,h3,_⟩:=h'
  cases r
  cases r'
  obtain⟨its,r1,p1,_⟩:=I.tuple h1
  obtain⟨its2,r2,p2,_⟩:=I.list h3
  rw [show D.eq (.tp l) (.ls m)=false by simp [D.eq]]
  exact SeqAt.EqAt.tuple_list p1 p2.isList (by omega)
 | .ls l,.tp m,v,v',u,u',A,r,r',h,h',hu=>by
  obtain⟨a,xs,rfl,h1,_⟩:=h
  obtain⟨b,ys,rfl,h3,_⟩:=h'
  cases r
  cases r'
  obtain⟨its,r1,p1,_⟩:=I.list h1
  obtain⟨its2,r2,p2,_⟩:=I.tuple h3
  rw [show D.eq (.ls l) (.tp m)=false by simp [D.eq]]
  exact SeqAt.EqAt.list_tuple p1.isList p2 (by omega)
 | .tp l,.tp m,v,v',u,u',A,r,r',h,h',hu=>by
  by_cases hab:v=v'
  ·subst hab
   rw [eqD_self I _ _ h h']
   rw [show u'=u from by obtain⟨a,xs,rfl,_⟩:=h;cases r;cases r';rfl]
   exact SeqAt.EqAt.same _
  ·obtain⟨a,xs,rfl,h1,h2⟩:=h
   obtain⟨b,ys,rfl,h3,h4⟩:=h'
   cases r
   cases r'
   obtain⟨its,r1,p1,_⟩:=I.tuple h1
   obtain⟨its2,r2,p2,_⟩:=I.tuple h3
   rw [D.dep,D.dep]at hu
   obtain⟨e,he,ee⟩:=eqsAt_D (A:=A.in1) I l m r1 r2 h2 h4 (by show A.units+1+_+_<_;omega)
   have key:=SeqAt.RcAt.tuples (A:=A) (s:=s) (l:=a) (b:=b) (items:=its.toArray) (items2:=its2.toArray) (e:=e) p1 p2 (by omega) (fun j g1 g2=>by
    have:=he j (by simpa using g1) (by simpa using g2)
    simpa using this)
   rw [List.size_toArray,List.size_toArray,ee]at key
   rw [D.eq]
   exact SeqAt.EqAt.of_refs (fun z=>hab (by rw [z])) key
 | .ls l,.ls m,v,v',u,u',A,r,r',h,h',hu=>by
  by_cases hab:v=v'
  ·subst hab
   rw [eqD_self I _ _ h h']
   rw [show u'=u from by obtain⟨a,xs,rfl,_⟩:=h;cases r;cases r';rfl]
   exact SeqAt.EqAt.same _
  ·obtain⟨a,xs,rfl,h1,h2⟩:=h
   obtain⟨b,ys,rfl,h3,h4⟩:=h'
   cases r
   cases r'
   obtain⟨its,r1,p1,_⟩:=I.list h1
   obtain⟨its2,r2,p2,_⟩:=I.list h3
   rw [D.dep,D.dep]at hu
   obtain⟨e,he,ee⟩:=eqsAt_D (A:=A.in1) I l m r1 r2 h2 h4 (by show A.units+1+_+_<_;omega)
   rw [D.eq]
   refine SeqAt.EqAt.of_refs (fun z=>hab (by rw [z])) ?_
   by_cases hz:its.toArray.size=its2.toArray.size
   ·have key:=SeqAt.RcAt.lists (A:=A) (s:=s) (l:=a) (b:=b) (items:=its.toArray) (items2:=its2.toArray) (e:=e) p1.isList p2.isList hz (by omega) (fun j g1 g2=>by
     have:=he j (by simpa using g1) (by simpa using g2)
     simpa using this)
    rw [List.size_toArray,List.size_toArray]at hz
    rw [<-hz,Nat.min_self,beq_self_eq_true,Bool.and_true]at ee
    rw [List.size_toArray,ee]at key
    exact key
   ·have hb':(its.length==its2.length)=false:=by simpa using hz
    rw [hb',Bool.and_false]at ee
    rw [<-ee]
    exact SeqAt.RcAt.lists_lengths p1.isList p2.isList (by simpa using hz) (by omega)
theorem eqsAt_D (I:Inv X pins σ H s) {A:Around}:∀(l m:List D) {xs ys:List V} {us ws:List Value},Vals xs us->Vals ys ws->Dens X.K H l xs->Dens X.K H m ys->A.units+D.deps l+D.deps m<cLine->
  ∃e:Nat->Bool,(∀j (h1:j<us.length) (h2:j<ws.length),SeqAt.EqAt A s us[j] ws[j] (e j))/\((List.range (min us.length ws.length)).all e && us.length==ws.length)=D.eqs l m
 | [],m,xs,ys,us,ws,r,r',h,h',hu=>by
  cases (show xs=[]from h)
  cases r
  refine⟨fun _=>true,fun j h1 _=>absurd h1 (Nat.not_lt_zero j),?_⟩
  cases m with
  |nil=>cases (show ys=[]from h');cases r';rw [D.eqs];rfl
  |cons e m=>
   obtain⟨y,t,rfl,_⟩:=h'
   cases r'
   simp [D.eqs]
 |d::l,[],xs,ys,us,ws,r,r',h,h',hu=>by
  obtain⟨x,t,rfl,_⟩:=h
  cases (show ys=[]from h')
  cases r
  cases r'
  exact⟨fun _=>true,fun j _ h1=>absurd h1 (Nat.not_lt_zero j),by simp [D.eqs]⟩
 |d::l,e::m,xs,ys,us,ws,r,r',h,h',hu=>by
  obtain⟨x,t,rfl,h1,h2⟩:=h
  obtain⟨y,t',rfl,h3,h4⟩:=h'
  cases r with
  |@cons _ u0 _ us0 ru rus=>
  cases r' with
  |@cons _ w0 _ ws0 rw0 rws=>
  have hu1:A.units+d.dep+e.dep<cLine:=by
   rw [D.deps,D.deps]at hu
   have:=Nat.le_max_left d.dep (D.deps l)
   have:=Nat.le_max_left e.dep (D.deps m)
   omega
  have hu2:A.units+D.deps l+D.deps m<cLine:=by
   rw [D.deps,D.deps]at hu
   have:=Nat.le_max_right d.dep (D.deps l)
   have:=Nat.le_max_right e.dep (D.deps m)
   omega
  have E0:=eqAt_D I d e (A:=A) ru rw0 h1 h3 hu1
  obtain⟨e',he,ee⟩:=eqsAt_D I l m rus rws h2 h4 hu2
  refine⟨fun j=>match j with|0=>d.eq e|j+1=>e' j,fun j g1 g2=>?_,?_⟩
  ·cases j with
   |zero=>exact E0
   |succ j=>exact he j (by simpa using g1) (by simpa using g2)
  ·have hmin:min (u0::us0).length (w0::ws0).length=min us0.length ws0.length+1:=by
    rw [List.length_cons,List.length_cons]
    omega
   rw [hmin,all_range_succ,D.eqs, <-ee]
   show(d.eq e && (List.range (min us0.length ws0.length)).all e' && _)=_
   rw [Bool.and_assoc]
   congr 2
   rw [Bool.eq_iff_iff]
   simp
end
end
theorem rcAt_V {A:Around} {s:Shared} {y x:V} {u v:Value} (ry:RelV y u) (rx:RelV x v) (fy:flatV y=true) (fx:flatV x=true):SeqAt.RcAt A s u v (eqV y x)/\SeqAt.RcNeAt A s u v (!eqV y x):=by
 cases y<;>first|exact absurd (show false=true from fy) Bool.false_ne_true|(cases x<;>first|exact absurd (show false=true from fx) Bool.false_ne_true|skip)
 all_goals first|obtain⟨t1,rfl⟩:=ry|cases ry
 all_goals first|obtain⟨t2,rfl⟩:=rx|cases rx
 ·exact⟨.none_none,.none_none⟩
 ·exact⟨.none_bool _,.none_bool _⟩
 ·exact⟨.none_int _ _,.none_int _ _⟩
 ·exact⟨.none_str _ _,.none_str _ _⟩
 ·exact⟨.bool_none _,.bool_none _⟩
 ·exact⟨.bool_bool _ _,.bool_bool _ _⟩
 ·exact⟨.bool_int _ _ _,.bool_int _ _ _⟩
 ·exact⟨.bool_str _ _ _,.bool_str _ _ _⟩
 ·exact⟨.int_none _ _,.int_none _ _⟩
 ·exact⟨.int_bool _ _ _,.int_bool _ _ _⟩
 ·exact⟨.int_int _ _ _ _,.int_int _ _ _ _⟩
 ·exact⟨.int_str _ _ _ _,.int_str _ _ _ _⟩
 ·exact⟨.str_none _ _,.str_none _ _⟩
 ·exact⟨.str_bool _ _ _,.str_bool _ _ _⟩
 ·exact⟨.str_int _ _ _ _,.str_int _ _ _ _⟩
 ·exact⟨.str_str _ _ _ _,.str_str _ _ _ _⟩
section
variable {X:Cx} {pins:List (Addr×Obj)} {σ:St} {H:Hp} {s:Shared}
theorem rcAt_D (I:Inv X pins σ H s) (d e:D) {v v':V} {u u':Value} {A:Around} (r:RelV v u) (r':RelV v' u') (h:Den X.K H d v) (h':Den X.K H e v') (hu:A.units+d.dep+e.dep<cLine):
  SeqAt.RcAt A s u u' (d.eq e)/\SeqAt.RcNeAt A s u u' (!d.eq e):=by
 have hu':A.units<cLine:=by omega
 match d,e,h,h',hu with
 | .fl x,.fl y,h,h',hu=>
  obtain⟨rfl,f⟩:=h
  obtain⟨rfl,f'⟩:=h'
  rw [D.eq]
  exact rcAt_V r r' f f'
 | .fl x,.tp m,h,h',hu=>
  obtain⟨rfl,f⟩:=h
  obtain⟨a,xs,rfl,hb,_⟩:=h'
  cases r'
  obtain⟨its2,r2,p2,_⟩:=I.tuple hb
  rw [show D.eq (.fl v) (.tp m)=false by simp [D.eq]]
  cases v with
  |non=>cases r;exact⟨.none_tuple p2 hu',.none_tuple p2 hu'⟩
  |bl c=>cases r;exact⟨.bool_tuple c p2 hu',.bool_tuple c p2 hu'⟩
  |int c=>obtain⟨t,rfl⟩:=r;exact⟨.int_tuple c t p2 hu',.int_tuple c t p2 hu'⟩
  |str c=>obtain⟨t,rfl⟩:=r;exact⟨.str_tuple c t p2 hu',.str_tuple c t p2 hu'⟩
  |_=>exact absurd (show false=true from f) Bool.false_ne_true
 | .fl x,.ls m,h,h',hu=>
  obtain⟨rfl,f⟩:=h
  obtain⟨a,xs,rfl,hb,_⟩:=h'
  cases r'
  obtain⟨its2,r2,p2,_⟩:=I.list hb
  rw [show D.eq (.fl v) (.ls m)=false by simp [D.eq]]
  have p2:=p2.isList
  cases v with
  |non=>cases r;exact⟨.none_list p2 hu',.none_list p2 hu'⟩
  |bl c=>cases r;exact⟨.bool_list c p2 hu',.bool_list c p2 hu'⟩
  |int c=>obtain⟨t,rfl⟩:=r;exact⟨.int_list c t p2 hu',.int_list c t p2 hu'⟩
  |str c=>obtain⟨t,rfl⟩:=r;exact⟨.str_list c t p2 hu',.str_list c t p2 hu'⟩
  |_=>exact absurd (show false=true from f) Bool.false_ne_true
 | .tp m,.fl x,h',h,hu=>
  obtain⟨rfl,f⟩:=h
  obtain⟨a,xs,rfl,hb,_⟩:=h'
  cases r
  obtain⟨its2,r2,p2,_⟩:=I.tuple hb
  rw [show D.eq (.tp m) (.fl v')=false by simp [D.eq]]
  cases v' with
  |non=>cases r';exact⟨.tuple_none p2 hu',.tuple_none p2 hu'⟩
  |bl c=>cases r';exact⟨.tuple_bool c p2 hu',.tuple_bool c p2 hu'⟩
  |int c=>obtain⟨t,rfl⟩:=r';exact⟨.tuple_int c t p2 hu',.tuple_int c t p2 hu'⟩
  |str c=>obtain⟨t,rfl⟩:=r';exact⟨.tuple_str c t p2 hu',.tuple_str c t p2 hu'⟩
  |_=>exact absurd (show false=true from f) Bool.false_ne_true
 | .ls m,.fl x,h',h,hu=>
  obtain⟨rfl,f⟩:=h
  obtain⟨a,xs,rfl,hb,_⟩:=h'
  cases r
  obtain⟨its2,r2,p2,_⟩:=I.list hb
  rw [show D.eq (.ls m) (.fl v')=false by simp [D.eq]]
  have p2:=p2.isList
  cases v' with
  |non=>cases r';exact⟨.list_none p2 hu',.list_none p2 hu'⟩
  |bl c=>cases r';exact⟨.list_bool c p2 hu',.list_bool c p2 hu'⟩
  |int c=>obtain⟨t,rfl⟩:=r';exact⟨.list_int c t p2 hu',.list_int c t p2 hu'⟩
  |str c=>obtain⟨t,rfl⟩:=r';exact⟨.list_str c t p2 hu',.list_str c t p2 hu'⟩
  |_=>exact absurd (show false=true from f) Bool.false_ne_true
 | .tp l,.ls m,h,h',hu=>
  obtain⟨a,xs,rfl,h1,_⟩:=h
  obtain⟨b,ys,rfl,h3,_⟩:=h'
  cases r
  cases r'
  obtain⟨its,r1,p1,_⟩:=I.tuple h1
  obtain⟨its2,r2,p2,_⟩:=I.list h3
  rw [show D.eq (.tp l) (.ls m)=false by simp [D.eq]]
  exact⟨.tuple_list p1 p2.isList hu',.tuple_list p1 p2.isList hu'⟩
 | .ls l,.tp m,h,h',hu=>
  obtain⟨a,xs,rfl,h1,_⟩:=h
  obtain⟨b,ys,rfl,h3,_⟩:=h'
  cases r
  cases r'
  obtain⟨its,r1,p1,_⟩:=I.list h1
  obtain⟨its2,r2,p2,_⟩:=I.tuple h3
  rw [show D.eq (.ls l) (.tp m)=false by simp [D.eq]]
  exact⟨.list_tuple p1.isList p2 hu',.list_tuple p1.isList p2 hu'⟩
 | .tp l,.tp m,h,h',hu=>
  obtain⟨a,xs,rfl,h1,h2⟩:=h
  obtain⟨b,ys,rfl,h3,h4⟩:=h'
  cases r
  cases r'
  obtain⟨its,r1,p1,_⟩:=I.tuple h1
  obtain⟨its2,r2,p2,_⟩:=I.tuple h3
  rw [D.dep,D.dep]at hu
  obtain⟨e,he,ee⟩:=eqsAt_D (A:=A.in1) I l m r1 r2 h2 h4 (by show A.units+1+_+_<_;omega)
  have hj:∀j (g1:j<its.toArray.size) (g2:j<its2.toArray.size),SeqAt.EqAt A.in1 s its.toArray[j] its2.toArray[j] (e j):=fun j g1 g2=>by
   have:=he j (by simpa using g1) (by simpa using g2)
   simpa using this
  have k1:=SeqAt.RcAt.tuples p1 p2 hu' hj
  have k2:=SeqAt.RcNeAt.tuples p1 p2 hu' hj
  rw [List.size_toArray,List.size_toArray,ee]at k1 k2
  rw [D.eq]
  exact⟨k1,k2⟩
 | .ls l,.ls m,h,h',hu=>
  obtain⟨a,xs,rfl,h1,h2⟩:=h
  obtain⟨b,ys,rfl,h3,h4⟩:=h'
  cases r
  cases r'
  obtain⟨its,r1,p1,_⟩:=I.list h1
  obtain⟨its2,r2,p2,_⟩:=I.list h3
  rw [D.dep,D.dep]at hu
  obtain⟨e,he,ee⟩:=eqsAt_D (A:=A.in1) I l m r1 r2 h2 h4 (by show A.units+1+_+_<_;omega)
  have hj:∀j (g1:j<its.toArray.size) (g2:j<its2.toArray.size),SeqAt.EqAt A.in1 s its.toArray[j] its2.toArray[j] (e j):=fun j g1 g2=>by
   have:=he j (by simpa using g1) (by simpa using g2)
   simpa using this
  rw [D.eq]
  by_cases hz:its.toArray.size=its2.toArray.size
  ·have k1:=SeqAt.RcAt.lists p1.isList p2.isList hz hu' hj
   have k2:=SeqAt.RcNeAt.lists p1.isList p2.isList hz hu' hj
   rw [List.size_toArray,List.size_toArray]at hz
   rw [<-hz,Nat.min_self,beq_self_eq_true,Bool.and_true]at ee
   rw [List.size_toArray,ee]at k1 k2
   exact⟨k1,k2⟩
  ·have hb':(its.length==its2.length)=false:=by simpa using hz
   rw [hb',Bool.and_false]at ee
   rw [<-ee]
   exact⟨.lists_lengths p1.isList p2.isList (by simpa using hz) hu',.lists_lengths p1.isList p2.isList (by simpa using hz) hu'⟩
def rEqD (K:PySem.W.Frag) (neg:Bool):R2:=fun x y H Q=>∃d e,Den K H d x/\Den K H e y/\d.dep+e.dep<=100/\Q (.bl (if neg then !d.eq e else d.eq e)) H
theorem op_eqD (hu:X.A.units+101<cLine):OpR X (compareOp .Eq) (rEqD X.K false):=by
 intro pins s σ H x y v u Q I rx ry h
 obtain⟨d,e,h1,h2,hd,q⟩:=h
 exact(rcAt_D (A:=X.A) I d e rx ry h1 h2 (by omega)).1 _ _ _ _ ⟨.bl _,H,I,rfl,q⟩
theorem op_neD (hu:X.A.units+101<cLine):OpR X (compareOp .NotEq) (rEqD X.K true):=by
 intro pins s σ H x y v u Q I rx ry h
 obtain⟨d,e,h1,h2,hd,q⟩:=h
 exact(rcAt_D (A:=X.A) I d e rx ry h1 h2 (by omega)).2 _ _ _ _ ⟨.bl _,H,I,rfl,q⟩
end
mutual
def DenN (Av:Addr->Prop) (H:Hp):D->V->Prop
 | .fl x,v=>v=x/\flatV x=true
 | .tp l,v=>∃p xs,v= .ref p/\H p=some (.tup xs)/\DensN Av H l xs
 | .ls l,v=>∃p xs,v= .ref p/\¬Av p/\H p=some (.lst xs)/\DensN Av H l xs
def DensN (Av:Addr->Prop) (H:Hp):List D->List V->Prop
 | [],xs=>xs=[]
 |d::l,xs=>∃x r,xs=x::r/\DenN Av H d x/\DensN Av H l r
end
section
variable {Av:Addr->Prop} {H H':Hp}
mutual
theorem DenN.mono (k1:∀b xs,H b=some (.tup xs)->H' b=some (.tup xs)) (k2:∀b xs,¬Av b->H b=some (.lst xs)->H' b=some (.lst xs)):∀(d:D) {v:V},DenN Av H d v->DenN Av H' d v
 | .fl x,v,h=>h
 | .tp l,v,h=>by
  obtain⟨p,xs,e,hp,t⟩:=h
  exact⟨p,xs,e,k1 _ _ hp,DensN.mono k1 k2 l t⟩
 | .ls l,v,h=>by
  obtain⟨p,xs,e,n,hp,t⟩:=h
  exact⟨p,xs,e,n,k2 _ _ n hp,DensN.mono k1 k2 l t⟩
theorem DensN.mono (k1:∀b xs,H b=some (.tup xs)->H' b=some (.tup xs)) (k2:∀b xs,¬Av b->H b=some (.lst xs)->H' b=some (.lst xs)):∀(l:List D) {xs:List V},DensN Av H l xs->DensN Av H' l xs
 | [],xs,h=>h
 |d::l,xs,h=>by
  obtain⟨x,r,e,h1,h2⟩:=h
  exact⟨x,r,e,DenN.mono k1 k2 d h1,DensN.mono k1 k2 l h2⟩
end
mutual
theorem DenN.den (K:PySem.W.Frag):∀(d:D) {v:V},DenN Av H d v->Den K H d v
 | .fl x,v,h=>h
 | .tp l,v,h=>by
  obtain⟨p,xs,e,hp,t⟩:=h
  exact⟨p,xs,e,SqT.of hp,DensN.dens K l t⟩
 | .ls l,v,h=>by
  obtain⟨p,xs,e,n,hp,t⟩:=h
  exact⟨p,xs,e,SqL.of hp,DensN.dens K l t⟩
theorem DensN.dens (K:PySem.W.Frag):∀(l:List D) {xs:List V},DensN Av H l xs->Dens K H l xs
 | [],xs,h=>h
 |d::l,xs,h=>by
  obtain⟨x,r,e,h1,h2⟩:=h
  exact⟨x,r,e,DenN.den K d h1,DensN.dens K l h2⟩
end
mutual
theorem DenN.weak {Bv:Addr->Prop} (k:∀b,Bv b->Av b):∀(d:D) {v:V},DenN Av H d v->DenN Bv H d v
 | .fl x,v,h=>h
 | .tp l,v,h=>by
  obtain⟨p,xs,e,hp,t⟩:=h
  exact⟨p,xs,e,hp,DensN.weak k l t⟩
 | .ls l,v,h=>by
  obtain⟨p,xs,e,n,hp,t⟩:=h
  exact⟨p,xs,e,fun z=>n (k p z),hp,DensN.weak k l t⟩
theorem DensN.weak {Bv:Addr->Prop} (k:∀b,Bv b->Av b):∀(l:List D) {xs:List V},DensN Av H l xs->DensN Bv H l xs
 | [],xs,h=>h
 |d::l,xs,h=>by
  obtain⟨x,r,e,h1,h2⟩:=h
  exact⟨x,r,e,DenN.weak k d h1,DensN.weak k l h2⟩
end
theorem DenN.fl {x:V} (h:flatV x=true:=by rfl):DenN Av H (.fl x) x:=⟨rfl,h⟩
theorem DensN.cons {d:D} {x:V} {l:List D} {xs:List V} (h:DenN Av H d x) (t:DensN Av H l xs):DensN Av H (d::l) (x::xs):=⟨x,xs,rfl,h,t⟩
theorem DensN.nil:DensN Av H [] []:=rfl
mutual
theorem DenN.refl:∀(d:D) {v:V},DenN Av H d v->d.eq d=true
 | .fl x,v,h=>by
  rw [D.eq]
  exact eqV_refl h.2
 | .tp l,v,h=>by
  obtain⟨p,xs,e,hp,t⟩:=h
  rw [D.eq]
  exact DensN.refl l t
 | .ls l,v,h=>by
  obtain⟨p,xs,e,n,hp,t⟩:=h
  rw [D.eq]
  exact DensN.refl l t
theorem DensN.refl:∀(l:List D) {xs:List V},DensN Av H l xs->D.eqs l l=true
 | [],xs,h=>by rw [D.eqs]
 |d::l,xs,h=>by
  obtain⟨x,r,e,h1,h2⟩:=h
  rw [D.eqs,DenN.refl d h1,DensN.refl l h2]
  rfl
end
end
theorem new_of {H H1:Hp} {p:Addr} {o:HO} (h:H p=none) (e:upd H p o=H1):Same H H1/\H1 p=some o:=by
 subst e
 refine⟨fun b u q=>?_,upd_same⟩
 rw [upd_ne (ne_of_none q h)]
 exact q
theorem pe_weak {X:Cx} {e:Expr} {t t':TE} (h:PE X e t) (k:∀σ H Q,t' σ H Q->t σ H Q):PE X e t':=fun pins s σ H Q I w=>h pins s σ H Q I (k σ H Q w)
theorem pa_weak {X:Cx} {es:List Expr} {t t':TA} (h:PA X es t) (k:∀σ H Q,t' σ H Q->t σ H Q):PA X es t':=fun pos pins s σ H Q I w=>h pos pins s σ H Q I (k σ H Q w)
section
variable {X:Cx} {Av:Addr->Prop}
end
structure Cal (P:Program) (w:World) (K:PySem.W.Frag) (mg:Str->Option Value) (base:Heap) (CX:CXT) (k:Nat) (x:Str) (ps:List Str) (sp:Sp):Prop where
 ex:∃f fd,FnOk P w K mg base CX k f fd ps sp/\mg x=some (.ref f)/\PySem.W.keepIn K (.ref f)=true/\Binds K fd ps []
theorem pe_c {X:Cx} {CX:CXT} {k:Nat} {x:Str} {ps:List Str} {sp:Sp} {E:XK} {e:Expr} {es:List Expr} {t:TA} {p pos:Pos} (C:Cal X.prog X.w X.K X.mg X.base CX k x ps sp) (hr:Room k X.A) (hg:Gl X x) (hx:Passes CX X E)
  (ha:PA X (e::es) t) (hdb:(x==("__debug__":Str))=false:=by decide) (he:starEach (e::es) X.env=(false,eval e X.env)::starEach es X.env:=by rfl) (hpl:(backTo pos (starEach es X.env)).any (·.1)=false:=by rfl):
  PE X (.Call (.Name x p) (e::es) [] pos) (tCall sp [] E t):=by
 obtain⟨f,fd,F,hm,hk,hb⟩:=C.ex
 exact pe_call F hr hg hm hk hb .nil hx ha hdb he hpl
abbrev CompOk (scope sc0:Scope) (cap:List (Str×Nat)) (N:List Str):Prop:=scope.kind= .function/\(∀y∈scope.names,y.2≠ .cell)/\(∀y∈scope.names,y.2= .local->scope.names.lookup y.1=some .local)/\
 (∀y∈scope.names,y.2= .free->sc0.names.lookup y.1=some .cell)/\(∀p∈cap,N[p.2]? =some p.1/\scope.names.lookup p.1=some .free/\sc0.names.lookup p.1=some .cell)
section
variable {X:Cx}
theorem cs_of {scope:Scope} {cap:List (Str×Nat)} {sc0:Scope} {N0:List Str} (hs:X.env.scope=sc0) (hN:X.N=N0) (hcell:∀x,X.env.scope.names.lookup x=some .cell->∃c,X.env.cells.lookup x=some c) (ok:CompOk scope sc0 cap N0):∃cl,CompScope X scope cap cl:=by
 subst hs hN
 exact comp_scope hcell ok.1 ok.2.1 ok.2.2.1 ok.2.2.2.1 ok.2.2.2.2
theorem pe_cp {elt iter tg:Expr} {scope:Scope} {own:List Str} {cap:List (Str×Nat)} {pos:Pos} {wi:TI} {g:TG} {te:TE} (sc0:Scope) (N0:List Str) (hsc:X.env.scope=sc0) (hN:X.N=N0) (hcell:∀x,X.env.scope.names.lookup x=some .cell->∃c,X.env.cells.lookup x=some c)
  (ok:CompOk scope sc0 cap N0) (hc:X.calm=true) (hi:PI X tg iter wi)
  (hg:∀cl C s2 H2 fp,PG (cxComp X (capN own cap) scope cl C s2 H2 fp) tg g) (he:∀cl C s2 H2 fp,PE (cxComp X (capN own cap) scope cl C s2 H2 fp) elt te)
  (hs:∀x,foldedSetIterable iter X.env x=pure x:=by intro _;rfl):PE X (.ListComp elt [⟨tg,iter,[],0⟩] scope pos) (tComp own.length cap wi g te):=by
 obtain⟨cl,S⟩:=cs_of hsc hN hcell ok
 exact pe_comp S hc hi (hg cl) (he cl) hs
theorem ps_cp {i:Nat} {x:Str} {elt iter tg:Expr} {scope:Scope} {own:List Str} {cap:List (Str×Nat)} {pos spos py:Pos} {wi:TI} {g:TG} {te:TE} (hnd:X.N.Nodup) (hi':X.N[i]? =some x) (hx:Loc X.env.scope x)
  (sc0:Scope) (N0:List Str) (hsc:X.env.scope=sc0) (hN:X.N=N0) (hcell:∀x,X.env.scope.names.lookup x=some .cell->∃c,X.env.cells.lookup x=some c)
  (ok:CompOk scope sc0 cap N0) (hc:X.calm=true) (hi:PI X tg iter wi)
  (hg:∀cl C s2 H2 fp,PG (cxComp X (capN own cap) scope cl C s2 H2 fp) tg g) (he:∀cl C s2 H2 fp,PE (cxComp X (capN own cap) scope cl C s2 H2 fp) elt te)
  (hsw:swapsWith (.ListComp elt [⟨tg,iter,[],0⟩] scope pos) (some (.Name x py)) spos.line X.env=pure true:=by rfl)
  (hs:∀x,foldedSetIterable iter X.env x=pure x:=by intro _;rfl) (hf:X.fn x=true∨X.env.scope.names.lookup x=some .local:=by first|exact .inl rfl|exact .inr rfl|assumption):
  PS X (.Assign [.Name x py] (.ListComp elt [⟨tg,iter,[],0⟩] scope pos) spos) (tAsg (tComp own.length cap wi g te) (gName i)):=by
 obtain⟨cl,S⟩:=cs_of hsc hN hcell ok
 exact ps_setComp hnd hi' hx S hc hi (hg cl) (he cl) hsw hs hf
end
structure CompScopeC (X:Cx) (scope:Scope) (cap:List (Str×Nat)) (cl:List (Str×Addr)):Prop where
 clos:closureFor scope X.env=pure cl
 kind:scope.kind= .function
 names:∀y∈scope.names,y.2= .local->scope.names.lookup y.1=some .local
 sub:∀x c,cl.lookup x=some c->X.env.cells.lookup x=some c
 has:∀x,scope.names.lookup x=some .free->∃c,cl.lookup x=some c
 capn:∀p∈cap,¬(p.1,NameKind.cell)∈scope.names
 cap:∀p∈cap,X.N[p.2]? =some p.1/\scope.names.lookup p.1=some .free/\X.env.scope.names.lookup p.1=some .cell
def CellsFor (X:Cx) (scope:Scope) (cs:List (Str×Addr)):Prop:=∀x,(scope.names.lookup x=some .cell∨(scope.names.lookup x=some .free/\X.env.scope.names.lookup x=some .cell))->∃c,cs.lookup x=some c
abbrev cxCompC (X:Cx) (Nc:List Str) (scope:Scope) (cs:List (Str×Addr)) (C:Addr) (s2:Shared) (H2:Hp) (fp:List Addr):Cx:=
 {prog:=X.prog,w:=X.w,K:=X.K,mg:=X.mg,base:=X.base,A:=X.A,N:=Nc,s₀:=s2,H₀:=H2,env:={compEnvC scope [] C X.env with cells:=cs},outer:=X.stack,stack:=X.stack,ex:=fp,fn:=fun x=>decide (scope.names.lookup x=some .cell),calm:=X.calm,pn:=[],xe:=fun _ _=>False}
theorem cellsFrom_app:∀(names:List (Str×NameKind)) (n:Nat) (acc:List (Str×Addr)),cellsFrom n names acc=cellsFrom n names []++acc
 | [],_,_=>rfl
 |(y,k)::r,n,acc=>by
  unfold cellsFrom
  split
  ·rw [cellsFrom_app r (n+1) ((y,n)::acc),cellsFrom_app r (n+1) [(y,n)],List.append_assoc]
   rfl
  ·exact cellsFrom_app r n acc
theorem cellsFrom_mem':∀(names:List (Str×NameKind)) (n:Nat) (acc:List (Str×Addr)) {x:Str} {c:Addr},(x,c)∈cellsFrom n names acc->(x,NameKind.cell)∈names∨(x,c)∈acc
 | [],_,_,_,_,h=> .inr h
 |(y,k)::r,n,acc,x,c,h=>by
  unfold cellsFrom at h
  split at h
  ·rename_i hk
   rcases cellsFrom_mem' r _ _ h with z|z
   ·exact .inl (List.mem_cons_of_mem _ z)
   ·rcases List.mem_cons.mp z with e|z
    ·cases e
     rw [show k= .cell from eq_of_beq hk]
     exact .inl List.mem_cons_self
    ·exact .inr z
  ·rcases cellsFrom_mem' r _ _ h with z|z
   ·exact .inl (List.mem_cons_of_mem _ z)
   ·exact .inr z
theorem cellsFrom_mem {names:List (Str×NameKind)} {n:Nat} {x:Str} {c:Addr} (h:(x,c)∈cellsFrom n names []):(x,NameKind.cell)∈names:=(cellsFrom_mem' names n [] h).elim id fun z=>nomatch z
section
variable {α:Type} {A B:List (Str×α)} {x:Str} {c:α}
theorem lookup_app_eq:(A++B).lookup x=(A.lookup x).or (B.lookup x):=List.lookup_append ..
theorem lookup_app (h:(A++B).lookup x=some c):A.lookup x=some c∨(A.lookup x=none/\B.lookup x=some c):=by
 rw [lookup_app_eq]at h
 cases q:A.lookup x with
 |none=>rw [q]at h;exact .inr ⟨rfl,h⟩
 |some d=>rw [q]at h;exact .inl h
theorem lookup_app_l (h:A.lookup x=some c):(A++B).lookup x=some c:=by rw [lookup_app_eq,h];rfl
theorem lookup_app_n (h:A.lookup x=none) (h':B.lookup x=some c):(A++B).lookup x=some c:=by rw [lookup_app_eq,h];exact h'
theorem lookup_app_r (h:B.lookup x=some c):∃d,(A++B).lookup x=some d:=by
 cases q:A.lookup x with
 |none=>exact⟨c,lookup_app_n q h⟩
 |some d=>exact⟨d,lookup_app_l q⟩
end
theorem newCompEnv {M:Model} {A:Around} {E:Value->Shared->Prop} {s:Shared} {scope:Scope} {globals:Addr} {cl:List (Str×Addr)} {qual:Str} {env0:Env} {Q:Env->Shared->Prop} (_hk:scope.kind= .function)
  (h:Q {scope:=scope,locals:=s.heap.objs.size,globals:=globals,cells:=cellsFrom (s.heap.objs.size+1) scope.names cl,qual:=qual,func:=none,code:=env0.code,frame:=env0.frame,builtins:=env0.builtins}
   {s with heap:=pushCells (s.heap.push {cls:= .type "dict",data:= .dict #[]}) scope.names}):
  wpAny M A (newFunctionEnv scope globals cl [] qual none .none (some env0)) Q E s:=by
 simp only [newFunctionEnv,Option.isSome_some,if_true]
 refine wpAny_bind (wpAny_alloc (wpAny_bind (wpAny_layCells _ (fun nm kd cs=>by cases hq:kd==NameKind.cell<;>simp [hq]) _ _ _ _ ?_)))
 have e:({s with heap:=s.heap.push {cls:= .type "dict",data:= .dict #[]}}:Shared).heap.objs.size=s.heap.objs.size+1:=Heap.size_push ..
 rw [e]
 exact wpAny_bind (wpAny_pure (wpAny_pure h))
section
variable {prog:Program} {w:World} {A:Around} {R:Result->Shared->Prop} {s:Shared}
def PTs (X:Cx) (cis:List Expr) (t:TT):Prop:=
 ∀(pins:List (Addr×Obj)) (s:Shared) (σ:St) (H:Hp) (Q:Bool->Hp->Prop),Inv X pins σ H s->t σ H Q->wpAny (model X.prog X.w) X.A (forIn cis true fun c r=>if r=true then do let ok<-isTrue c X.env (eval c X.env);pure (ForInStep.yield ok)else pure (ForInStep.yield r)) (TP X pins σ Q) X.xe s
def tYes:TT:=fun _ H Q=>Q true H
theorem pts_nil {X:Cx}:PTs X [] tYes:=fun pins s σ H Q I q=>wpAny_tests_nil ⟨H,I,q⟩
theorem compLoopG_any {elt target iter:Expr} {cis:List Expr} {scope:Scope} {pos:Pos} {it acc:Value} {env:Env} (I:Nat->Shared->Prop)
  (turn:∀n s,I n s->wpAny (model prog w) A (pyNext it) (fun r s₁=>match r with
   |none=>R (.ok .next) s₁
   |some v=>wpAny (model prog w) A (letOwnedTupleGo target it v) (fun _ s₁'=>wpAny (model prog w) A (assign target env v) (fun _ s₂=>wpAny (model prog w) A (forIn cis true fun c r=>if r=true then do let ok<-isTrue c env (eval c env);pure (ForInStep.yield ok)else pure (ForInStep.yield r)) (fun ok s₂'=>if ok=true then wpAny (model prog w) A (eval elt env) (fun x s₃=>
     wpAny (model prog w) A (call (.builtin "list.append") [acc,x]) (fun _ s₄=>∃m,m<n/\I m s₄) (fun _ _=>False) s₃) (fun _ _=>False) s₂' else∃m,m<n/\I m s₂') (fun _ _=>False) s₂) (fun _ _=>False) s₁') (fun _ _=>False) s₁) (fun _ _=>False) s)
  (n:Nat) (h:I n s):
  codeAny (model prog w) A (.compLoop (.ListComp elt [⟨target,iter,cis,0⟩] scope pos) 0 it acc env) R s:=by
 refine codeAny_loop rfl I (fun n s hI=>?_) n h
 show wpAny _ _ ((compTurn (.ListComp elt [⟨target,iter,cis,0⟩] scope pos) 0 it acc env).onRaise (fun x=>do noteFrame x env;theTreesLotGoes x)) _ _ s
 refine wpAny_noted ?_
 rw [compTurn_list]
 refine wpAny_bind (wpAny_standAt (wpAny_bind (wpAny_mono (turn n s hI) (fun r s₁ h₁=>?_) fun _ _ h'=>h'.elim)))
 cases r with
 |none=>exact wpAny_pure h₁
 |some v=>
  refine wpAny_bind (wpAny_mono h₁ (fun _ s₁' h₁'=>?_) fun _ _ h'=>h'.elim)
  refine wpAny_bind (wpAny_mono h₁' (fun _ s₂ h₂=>?_) fun _ _ h'=>h'.elim)
  refine wpAny_bind (wpAny_mono h₂ (fun okb s₃ h₃=>?_) fun _ _ h'=>h'.elim)
  cases okb with
  |false=>exact wpAny_pure ⟨rfl,h₃⟩
  |true=>exact wpAny_bind (wpAny_bind (wpAny_mono h₃ (fun x s₄ h₄=>wpAny_bind (wpAny_mono h₄ (fun _ s₅ h₅=>wpAny_pure (wpAny_pure ⟨rfl,h₅⟩)) fun _ _ h'=>h'.elim)) fun _ _ h'=>h'.elim))
end
section
variable {X:Cx} {pins:List (Addr×Obj)} {σ:St} {s2:Shared} {H2:Hp}
theorem comp_blockG {elt iter tg:Expr} {cis:List Expr} {scope:Scope} {own:List Str} {cap:List (Str×Nat)} {cl:List (Str×Addr)} {pos:Pos} {J:It} {fp:List Addr} {it:Addr} {tn:Nat->Heap->Prop} {g:TG} {tc:TT} {te:TE} {Q:VK}
  (S:CompScopeC X scope cap cl) (hc:X.calm=true) (I:Inv X pins σ H2 s2) (T:Turn X.prog X.w X.K tg J fp it tn) (st:tn 0 s2.heap) (hf:∀b∈fp,FpOk X pins H2 b)
  (hg:∀cs,CellsFor X scope cs->∀C s2 H2 fp,PG (cxCompC X (capN own cap) scope cs C s2 H2 fp) tg g) (htc:∀cs,CellsFor X scope cs->∀C s2 H2 fp,PTs (cxCompC X (capN own cap) scope cs C s2 H2 fp) cis tc) (he:∀cs,CellsFor X scope cs->∀C s2 H2 fp,PE (cxCompC X (capN own cap) scope cs C s2 H2 fp) elt te)
  (W:Nat->Nat->St->Hp->Prop) (w0:∃m,W 0 m (capSt own.length cap σ) (upd H2 s2.heap.objs.size (.lst [])))
  (turn:∀i m σc H3,W i m σc H3->(J.stop i H3/\Q (.ref s2.heap.objs.size) H3)∨(J.go i H3/\∀x H4,J.yld i H3 x H4->g x σc H4 fun σ5 H5=>tc σ5 H5 fun ok H5'=>if ok=true then te σ5 H5' fun y H6=>∃ys,H6 s2.heap.objs.size=some (.lst ys)/\ys.length<sizeLine/\∃m',m'<m/\W (i+1) m' σ5 (upd H6 s2.heap.objs.size (.lst (ys++[y])))else∃m',m'<m/\W (i+1) m' σ5 H5'))
  {RR:Value->Addr->Result->Shared->Prop}
  (hRR:∀C H' s' m,s2.heap.objs.size<=C->s'.heap.Ns C m->H' C=none->Inv X pins σ H' s'->(∀h',Heap.SameBut C s'.heap h'->Inv X pins σ H' {s' with heap:=h'})->Q (.ref s2.heap.objs.size) H'->RR (.ref s2.heap.objs.size) C (.ok .next) s')
  {E:Value->Shared->Prop}:
  wpAny (model X.prog X.w) X.A (newList []) (fun acc s₃=>wpAny (model X.prog X.w) X.A (newFunctionEnv scope X.env.globals cl [] X.env.qual none .none (some X.env)) (fun cenv s₄=>
   codeAny (model X.prog X.w) X.A (.compStart (.ListComp elt [⟨tg,iter,cis,0⟩] scope pos) 0 (.ref it) acc {cenv with scope:=relabel scope X.env}) (RR acc cenv.locals) s₄) E s₃) E s2:=by
 refine wpAny_newObj_type (newCompEnv S.kind ?_)
 dsimp only
 generalize hH2:s2.heap.push {cls:= .type "list",dict:=none,data:= .seq ([]:List Value).toArray}=G2
 have hC:G2.objs.size=s2.heap.objs.size+1:=by rw [<-hH2,Heap.size_push]
 have hDC:s2.heap.objs.size≠G2.objs.size:=by rw [hC];exact Nat.ne_of_lt (Nat.lt_succ_self _)
 have hCle:s2.heap.objs.size<=G2.objs.size:=by rw [hC];exact Nat.le_succ _
 have below:∀b,b<s2.heap.objs.size->b≠G2.objs.size/\b≠s2.heap.objs.size:=fun b hb=>⟨by rw [hC];exact Nat.ne_of_lt (Nat.lt_succ_of_lt hb),Nat.ne_of_lt hb⟩
 have hG1:(G2.push {cls:= .type "dict",data:= .dict #[]}).objs.size=G2.objs.size+1:=Heap.size_push ..
 have okA:=cellsFrom_ok scope.names (G2.push {cls:= .type "dict",data:= .dict #[]}) (G2.objs.size+1) [] ⟨fun _ _ z=>(nomatch z),List.Pairwise.nil⟩ (by rw [hG1];exact Nat.le_refl _)
 rw [hG1]at okA
 have app:cellsFrom (G2.objs.size+1) scope.names cl=cellsFrom (G2.objs.size+1) scope.names []++cl:=cellsFrom_app _ _ _
 have kept:∀b o,G2.get? b=some o->(pushCells (G2.push {cls:= .type "dict",data:= .dict #[]}) scope.names).get? b=some o:=fun b o e=>pushCells_keeps _ _ b o (Heap.get?_push_of_some _ e)
 have hns₁:(pushCells (G2.push {cls:= .type "dict",data:= .dict #[]}) scope.names).Ns G2.objs.size (fun _=>none):=(Heap.Ns.new G2 (.type "dict")).keeps (pushCells_keeps _ _)
 have old:∀b o,s2.heap.get? b=some o->(pushCells (G2.push {cls:= .type "dict",data:= .dict #[]}) scope.names).get? b=some o:=fun b o e=>kept b o (hH2▸Heap.get?_push_of_some _ e)
 have hacc:(pushCells (G2.push {cls:= .type "dict",data:= .dict #[]}) scope.names).get? s2.heap.objs.size=some {cls:= .type "list",dict:=none,data:= .seq ([]:List Value).toArray}:=kept _ _ (hH2▸Heap.get?_push_size _ rfl)
 have newc:∀x c,(cellsFrom (G2.objs.size+1) scope.names []).lookup x=some c->(pushCells (G2.push {cls:= .type "dict",data:= .dict #[]}) scope.names).IsCell c none/\G2.objs.size+1<=c:=fun x c e=>okA.empty x c (PySem.mem_of_lookup e)
 have newinj:∀x y c,(cellsFrom (G2.objs.size+1) scope.names []).lookup x=some c->(cellsFrom (G2.objs.size+1) scope.names []).lookup y=some c->x=y:=fun x y c e1 e2=>name_of_addr okA.apart (PySem.mem_of_lookup e1) (PySem.mem_of_lookup e2)
 have ownc:∀x,scope.names.lookup x=some .cell->∃c,(cellsFrom (G2.objs.size+1) scope.names []).lookup x=some c:=fun x hx=>Option.isSome_iff_exists.mp (PySem.W.cellsFrom_some scope.names _ [] (.inl hx))
 generalize hh₁:pushCells (G2.push {cls:= .type "dict",data:= .dict #[]}) scope.names=h₁ at hns₁ old hacc newc⊢
 generalize hcA:cellsFrom (G2.objs.size+1) scope.names []=cA at app newc newinj ownc
 generalize hcs:cellsFrom (G2.objs.size+1) scope.names cl=cs at app⊢
 subst app
 have both:∀x c,(cA++cl).lookup x=some c->(cA.lookup x=some c∨(cA.lookup x=none/\cl.lookup x=some c)):=fun x c e=>lookup_app e
 have hfps:∀b∈fp,b<s2.heap.objs.size:=fun b hb=>by
  obtain⟨o,e,_⟩:=T.obj _ _ st b hb
  exact Heap.lt_size e
 have hfree:∀b,s2.heap.objs.size<=b->H2 b=none:=fun b hb=>I.hok.fresh hb
 have old2:∀x c,cl.lookup x=some c->c<s2.heap.objs.size:=fun x c e=>by
  obtain⟨v,o,ho,_⟩:=I.cell x c (S.sub x c e)
  exact Heap.lt_size ho
 have clash:∀c,G2.objs.size+1<=c->c<s2.heap.objs.size->False:=fun c h1 h2=>Nat.lt_irrefl _ (Nat.lt_of_lt_of_le h2 (Nat.le_trans hCle (Nat.le_of_succ_le h1)))
 have cfor:CellsFor X scope (cA++cl):=fun x hx=>by
  rcases hx with h|⟨h,_⟩
  ·obtain⟨c,e⟩:=ownc x h
   exact⟨c,lookup_app_l e⟩
  ·obtain⟨c,e⟩:=S.has x h
   exact lookup_app_r e
 generalize hX:cxCompC X (capN own cap) scope (cA++cl) G2.objs.size s2 H2 fp=X'
 have hOk:X'.Ok:=by
  subst hX
  refine⟨I.ok.mod,S.kind,I.ok.glob,I.ok.blt,hCle,fun x y c e1 e2=>?_,fun x hx=>?_,fun x c z e=>?_,I.ok.hd,I.ok.frames,.inl rfl,
   fun b hb=>⟨(below b (hfps b hb)).1,fun x c e=>?_⟩,I.bs,Nat.le_trans I.ok.bsz I.sz,fun b o e hb=>?_,fun b hb z=>?_,I.stack,I.stkFree⟩
  ·rcases both x c e1 with a1|⟨_,a1⟩
   ·rcases both y c e2 with a2|⟨_,a2⟩
    ·exact newinj x y c a1 a2
    ·exact(clash c (newc x c a1).2 (old2 y c a2)).elim
   ·rcases both y c e2 with a2|⟨_,a2⟩
    ·exact(clash c (newc y c a2).2 (old2 x c a1)).elim
    ·exact I.ok.inj x y c (S.sub x c a1) (S.sub y c a2)
  ·rcases lookup_relabel_inv (env:=X.env) (names:=scope.names) (x:=x) hx with h|h
   ·obtain⟨c,e⟩:=S.has x h
    exact lookup_app_r e
   ·obtain⟨c,e⟩:=ownc x h
    exact⟨c,lookup_app_l e⟩
  ·obtain⟨c',e'⟩:=ownc x (of_decide_eq_true z)
   have q:(cA++cl).lookup x=some c':=lookup_app_l e'
   have q2:some c'=some c:=q.symm.trans e
   cases q2
   exact Nat.le_trans hCle (Nat.le_trans (Nat.le_succ _) (newc x c e').2)
  ·rcases both x c e with a1|⟨_,a1⟩
   ·exact fun z=>clash c (newc x c a1).2 (z.symm▸hfps b hb)
   ·exact(hf b hb).2.2.2.2.1 x c (S.sub x c a1)
  ·rcases (hf b hb).2.2.2.1 with z|z
   ·exact I.ok.noex b o e z
   ·exact absurd (Nat.lt_of_lt_of_le (Heap.lt_size e) (Nat.le_trans I.ok.bsz z)) (Nat.lt_irrefl _)
  ·rcases List.mem_cons.mp (I.stkSub b z)with z|z
   ·exact(hf b hb).2.1 z
   ·exact(hf b hb).2.2.1 z
 have hI0:Inv X' [] (capSt own.length cap σ) (upd H2 s2.heap.objs.size (.lst [])) {s2 with heap:=h₁}:=by
  subst hX
  refine⟨hOk,rfl,I.bare,Un.laid old (Nat.le_refl _) (hfree _ (Nat.le_refl _)),⟨_,hns₁,fun i x v e1 e2 e3=>?_⟩,fun x c e=>?_,?_,fun x c e=>?_,fun p hp=>absurd (show p∈([]:List (Addr×Obj))from hp) (by simp),?_,?_⟩
  ·obtain⟨p,hp,rfl,hσ⟩:=capSt_get rfl e1 e2
   obtain⟨c1,c2,c3⟩:=S.cap p hp
   obtain⟨m,hn,hl⟩:=I.loc
   obtain⟨u,r,l⟩:=hl p.2 p.1 v c1 hσ (.inr (.inl c3))
   refine⟨u,r,.inr ⟨.inl (lookup_relabel_free I.ok.kind c2 c3),?_⟩⟩
   obtain⟨c,hcl⟩:=S.has _ c2
   have nA:cA.lookup p.1=none:=by
    cases q:cA.lookup p.1 with
    |none=>rfl
    |some c0=>
     have z:=PySem.mem_of_lookup q
     rw [<-hcA]at z
     exact absurd (cellsFrom_mem z) (S.capn p hp)
   refine⟨c,lookup_app_n nA hcl,?_⟩
   rcases l with ⟨k,_⟩|⟨_,c',e,z⟩
   ·have k':X.env.scope.names.lookup p.1=some .local:=k
    rw [c3]at k';cases k'
   ·have:=S.sub _ _ hcl
    rw [e]at this;cases this
    obtain⟨o,ho,hd⟩:=z
    exact⟨o,old _ _ ho,hd⟩
  ·rcases both x c e with a1|⟨_,a1⟩
   ·exact⟨none,(newc x c a1).1⟩
   ·obtain⟨v,o,ho,hd⟩:=I.cell x c (S.sub x c a1)
    exact⟨v,o,old _ _ ho,hd⟩
  ·show upd H2 s2.heap.objs.size (.lst []) G2.objs.size=none
   rw [upd_ne (Ne.symm hDC)]
   exact hfree _ hCle
  ·rcases both x c e with a1|⟨_,a1⟩
   ·have h1:=(newc x c a1).2
    have h2:s2.heap.objs.size<=c:=Nat.le_trans hCle (Nat.le_of_succ_le h1)
    have h3:c≠s2.heap.objs.size:=fun z=>by
     rw [z]at h1
     exact hDC (Nat.le_antisymm hCle (Nat.le_of_succ_le h1))
    rw [upd_ne h3]
    exact hfree c h2
   ·have e':=S.sub x c a1
    obtain⟨v,o,ho,hd⟩:=I.cell x c e'
    rw [upd_ne (below c (Heap.lt_size ho)).2]
    exact I.freeC x c e'
  ·exact I.hok.laid old (Nat.le_refl _) ⟨Nat.zero_le _,[],_,.nil,hacc⟩
  ·show(capSt own.length cap σ).length=(capN own cap).length
   unfold capSt capN
   simp
 have hP:X'.prog=X.prog:=by subst hX;rfl
 have hw:X'.w=X.w:=by subst hX;rfl
 have hK:X'.K=X.K:=by subst hX;rfl
 have hA:X'.A=X.A:=by subst hX;rfl
 have hcalm:X'.calm=true:=by subst hX;exact hc
 have hxe:X'.xe=fun _ _=>False:=by subst hX;rfl
 have henv:X'.env={compEnvC scope cl G2.objs.size X.env with cells:=cA++cl}:=by subst hX;rfl
 have hbase:∀{σ' H' s'},Inv X' [] σ' H' s'->Un (frs X.stack) fp H2 H' s2.heap s'.heap/\s'.os=s2.os:=fun{σ' H' s'} J=>by subst hX;exact⟨J.base,J.os⟩
 have hg':PG X' tg g:=by subst hX;exact hg _ cfor _ _ _ _
 have he':PE X' elt te:=by subst hX;exact he _ cfor _ _ _ _
 have htc':PTs X' cis tc:=by subst hX;exact htc _ cfor _ _ _ _
 have stat:∀{H':Hp},(∀b∈fp,H' b=none)->∀b∈fp,FpOk X' [] H' b:=fun{H'} hn b hb=>by
  subst hX
  refine⟨hn b hb,(below b (hfps b hb)).1,fun z=>?_,.inl hb,fun x c e=>?_,fun p hp=>absurd (show p∈([]:List (Addr×Obj))from hp) (by simp)⟩
  rcases List.mem_cons.mp (I.stkSub b z)with z|z
  ·exact(hf b hb).2.1 z
  ·exact(hf b hb).2.2.1 z
  rcases both x c e with a1|⟨_,a1⟩
  ·exact fun z=>clash c (newc x c a1).2 (z.symm▸hfps b hb)
  ·exact(hf b hb).2.2.2.2.1 x c (S.sub x c a1)
 have back:∀{σ' H' s'},Inv X' [] σ' H' s'->Q (.ref s2.heap.objs.size) H'->RR (.ref s2.heap.objs.size) G2.objs.size (.ok .next) s':=fun{σ' H' s'} J q=>by
  obtain⟨u,ho⟩:=hbase J
  have hcf:∀b∈fp,(b∈X.ex∨X.s₀.heap.objs.size<=b)/\b≠X.env.locals/\(∀x c,X.env.cells.lookup x=some c->c≠b)/\∀p∈X.pn++pins,p.1≠b:=fun b hb=>by
   obtain⟨f0,f1,f2,f3,f4,f5⟩:=hf b hb
   exact⟨f3,f1,f4,f5⟩
  have hCn:H' G2.objs.size=none:=by have:=J.free;rw [henv]at this;exact this
  have hok':HOk X.prog X.w H' s'.heap:=by have:=J.hok;rw [hP,hw]at this;exact this
  obtain⟨m,hm,_⟩:=J.loc
  rw [henv]at hm
  refine hRR _ H' s' m hCle hm hCn (I.call' ho u hok' J.bare hcf) (fun h' hs=>?_) q
  have kn:∀b o,s2.heap.get? b=some o->h'.get? b=s'.heap.get? b:=fun b o e=>hs.2 b (below b (Heap.lt_size e)).1
  refine I.call' (s':={s' with heap:=h'}) ho ⟨fun b o e n hb hx=>(kn b o e).trans (u.keep b o e n hb hx),fun b o e n hb hx=>?_,u.free,fun b o e hx=>?_,u.tups,u.frzs,u.tbls⟩ (fun b ob e=>?_) J.bare hcf
  ·obtain⟨sl,e1⟩:=u.slot b o e n hb hx
   exact⟨sl,(kn b o e).trans e1⟩
  ·obtain⟨o',e1⟩:=u.there b o e hx
   exact⟨o',(kn b o e).trans e1⟩
  ·refine(hok' b ob e).stay (fun c w' hc q=>(hs.2 c ?_).trans q) (fun _ q=>q) fun _ _ q=>q
   rintro rfl
   rcases hc with rfl|hc
   ·rw [hCn]at e;cases e
   ·rw [hCn]at hc;cases hc
 have loop:∀s₃:Shared,s₃={s2 with heap:=h₁}->
   codeAny (model X.prog X.w) X.A (.compLoop (.ListComp elt [⟨tg,iter,cis,0⟩] scope pos) 0 (.ref it) (.ref s2.heap.objs.size) {compEnvC scope cl G2.objs.size X.env with cells:=cA++cl})
    (RR (.ref s2.heap.objs.size) G2.objs.size) s₃:=by
  rintro s₃ rfl
  obtain⟨m0,w0⟩:=w0
  refine compLoopG_any (fun n s'=>∃i σ' H',Inv X' [] σ' H' s'/\tn i s'.heap/\(∀b∈fp,H' b=none)/\W i n σ' H') ?_ m0
   ⟨0,_,_,hI0,T.keep _ _ _ st fun b hb o e=>old b o e,fun b hb=>?_,w0⟩
  ·rintro n s3 ⟨i,σ3,H3,I3,st3,fr3,w3⟩
   rcases turn i n σ3 H3 w3 with ⟨stop,qn⟩|⟨go,step⟩
   ·have d:=T.done X' hP hw hK hcalm i [] s3 σ3 H3 (fun _ _=>False) I3 (stat fr3) st3 stop
    rw [hA]at d
    refine thn d fun r s4 ⟨hr,I4⟩=>?_
    subst hr
    exact back I4 qn
   ·have d:=T.item X' hP hw hK hcalm i [] s3 σ3 H3 (fun _ _=>False) I3 (stat fr3) st3 go
    rw [hA]at d
    refine thn d fun r s4 ⟨u,hr,h4⟩=>?_
    subst hr
    refine thn h4 fun _ s5 ⟨x,H5,I5,r5,y5,st5,fr5⟩=>?_
    have I5':=I5.pinned (stat fr5) (T.obj _ _ st5)
    have d2:=hg' _ s5 σ3 H5 x u _ I5' r5 (step x H5 y5)
    rw [hP,hw,hA,hxe,henv]at d2
    refine thn d2 fun _ s6 ⟨σ6,H6,I6,q6⟩=>?_
    have dt:=htc' _ s6 σ6 H6 _ I6 q6
    rw [hP,hw,hA,hxe,henv]at dt
    refine thn dt fun okb s6' ⟨H6',I6',q6'⟩=>?_
    cases okb with
    |false=>
     obtain⟨m',hm,w7⟩:=q6'
     refine⟨m',hm,i+1,σ6,H6',I6'.unpinned,T.keep _ _ _ st5 fun b hb o e=>(I6'.pin (b,o) (List.mem_append_right _ (List.mem_append_right _ (mem_pinsAt hb e)))).1,fun b hb=>?_,w7⟩
     obtain⟨o,e,d⟩:=T.obj _ _ st5 b hb
     exact(I6'.pin (b,o) (List.mem_append_right _ (List.mem_append_right _ (mem_pinsAt hb e)))).2.1
    |true=>
    have d3:=he' _ s6' σ6 H6' _ I6' q6'
    rw [hP,hw,hA,hxe,henv]at d3
    refine thn d3 fun y7 s7 ⟨v7,H7,I7,r7,ys,e7,l7,m',hm,w7⟩=>?_
    have d4:=mt_append (X:=X') _ s7 σ6 H7 (.ref s2.heap.objs.size) [v7] (.ref s2.heap.objs.size) [y7] (fun _ H8=>W (i+1) m' σ6 H8) I7 rfl (.cons r7 .nil) ⟨_,ys,v7,rfl,rfl,e7,l7,w7⟩
    rw [hP,hw,hA,hxe]at d4
    refine thn d4 fun _ s8 ⟨v8,H8,I8,_,w8⟩=>?_
    refine⟨m',hm,i+1,σ6,H8,I8.unpinned,T.keep _ _ _ st5 fun b hb o e=>(I8.pin (b,o) (List.mem_append_right _ (List.mem_append_right _ (mem_pinsAt hb e)))).1,fun b hb=>?_,w8⟩
    obtain⟨o,e,d⟩:=T.obj _ _ st5 b hb
    exact(I8.pin (b,o) (List.mem_append_right _ (List.mem_append_right _ (mem_pinsAt hb e)))).2.1
  ·rw [upd_ne (below b (hfps b hb)).2]
   exact(hf b hb).1
 exact codeAny_compStart_list (loop _ rfl) (T.self _ 0 _ _ _ (T.keep _ _ _ st fun b hb o e=>old b o e) (loop _ rfl))
end
abbrev CompOkC (scope sc0:Scope) (cap:List (Str×Nat)) (N:List Str):Prop:=scope.kind= .function/\(∀y∈scope.names,y.2= .local->scope.names.lookup y.1=some .local)/\
 (∀y∈scope.names,y.2= .free->sc0.names.lookup y.1=some .cell)/\(∀p∈cap,¬(p.1,NameKind.cell)∈scope.names)/\(∀p∈cap,N[p.2]? =some p.1/\scope.names.lookup p.1=some .free/\sc0.names.lookup p.1=some .cell)
abbrev OutC (scope fsc:Scope) (x:Str):Prop:=scope.names.lookup x=some .cell∨(scope.names.lookup x=some .free/\fsc.names.lookup x=some .cell)
abbrev NestOk (isc scope fsc:Scope) (icap:List (Str×Nat)) (N:List Str):Prop:=isc.kind= .function/\(∀y∈isc.names,y.2≠ .cell)/\(∀y∈isc.names,y.2= .local->isc.names.lookup y.1=some .local)/\
 (∀y∈isc.names,y.2= .free->OutC scope fsc y.1)/\(∀p∈icap,N[p.2]? =some p.1/\isc.names.lookup p.1=some .free/\OutC scope fsc p.1)
theorem relabel_cell {env:Env}:∀{names:List (Str×NameKind)} {x:Str},names.lookup x=some .cell->
  (names.map fun(n,k)=>if(k==NameKind.free && env.scope.kind== .function && env.kindOf n==some .cell)then(n,NameKind.cell)else(n,k)).lookup x=some .cell
 | [],_,h=>by simp at h
 |(n,k)::r,x,h=>by
  have ih:=@relabel_cell env r x
  show List.lookup x ((if(k==NameKind.free && env.scope.kind== .function && env.kindOf n==some .cell)=true then(n,NameKind.cell)else(n,k))::_)=_
  cases hx:x==n with
  |true=>
   simp only [List.lookup_cons,hx]at h
   cases h
   rw [if_neg (by simp)]
   simp [List.lookup_cons,hx]
  |false=>
   simp only [List.lookup_cons,hx]at h
   by_cases hcc:(k==NameKind.free && env.scope.kind== .function && env.kindOf n==some .cell)=true
   ·rw [if_pos hcc];simp only [List.lookup_cons,hx];exact ih h
   ·rw [if_neg hcc];simp only [List.lookup_cons,hx];exact ih h
section
variable {X:Cx}
theorem cs_ofC {scope:Scope} {cap:List (Str×Nat)} {sc0:Scope} {N0:List Str} (hs:X.env.scope=sc0) (hN:X.N=N0) (hcell:∀x,X.env.scope.names.lookup x=some .cell->∃c,X.env.cells.lookup x=some c) (ok:CompOkC scope sc0 cap N0):∃cl,CompScopeC X scope cap cl:=by
 subst hs hN
 obtain⟨k,nm,fr,cn,cp⟩:=ok
 obtain⟨cl,e,a,b⟩:=clos_loop X.env scope.names [] (fun y hy hf=>hcell _ (fr y hy hf)) (fun x c h=>by simp at h)
 refine⟨cl,?_,k,nm,a,fun x hx=>b x (.inr (PySem.mem_of_lookup hx)),cn,cp⟩
 unfold closureFor
 refine Eq.trans ?_ e
 simp only [bind_pure]
theorem cs_nest {Nc:List Str} {scope isc fsc:Scope} {cs:List (Str×Addr)} {C:Addr} {s2:Shared} {H2:Hp} {fp:List Addr} {icap:List (Str×Nat)} (cf:CellsFor X scope cs) (hfs:X.env.scope=fsc) (hk:fsc.kind= .function) (ok:NestOk isc scope fsc icap Nc):
  ∃cl,CompScope (cxCompC X Nc scope cs C s2 H2 fp) isc icap cl:=by
 subst hfs
 obtain⟨k,nc,nm,fr,cp⟩:=ok
 have up:∀x,OutC scope X.env.scope x->(relabel scope X.env).names.lookup x=some .cell:=fun x h=>by
  rcases h with h|⟨h,h'⟩
  ·exact relabel_cell h
  ·exact lookup_relabel_free hk h h'
 obtain⟨cl,e,a,b⟩:=clos_loop (cxCompC X Nc scope cs C s2 H2 fp).env isc.names [] (fun y hy hf=>cf _ (fr y hy hf)) (fun x c h=>by simp at h)
 refine⟨cl,?_,k,nc,nm,a,fun x hx=>b x (.inr (PySem.mem_of_lookup hx)),fun p hp=>⟨(cp p hp).1,(cp p hp).2.1,up _ (cp p hp).2.2⟩⟩
 unfold closureFor
 refine Eq.trans ?_ e
 simp only [bind_pure]
end
section
variable {X:Cx}
end
section
variable {X:Cx} {B:St->Hp->Prop} {R:Hp->V->Prop}
end
def rListK (K:PySem.W.Frag):List V->Hp->VK->Prop:=fun xs H Q=>∃p ys,xs=[.ref p]/\(SqL K H p ys∨SqT K H p ys)/\∀l,H l=none->Q (.ref l) (upd H l (.lst ys))
theorem call_listK {X:Cx} {K:PySem.W.Frag} (h:X.K=K):CallR X (.type "list") (rListK K):=by
 subst h
 exact call_list_of
section
variable {X:Cx}
def CDivM (_ j:Int):Prop:=0<j/\j<2 ^ 62
theorem op_fdivM:OpR X (binaryOp .FloorDiv) (rI CDivM fun i j=> .int (i / j)):=opI fun i j _ _ _ _ _ hc q=>by
 have h1:(0:Int)<j:=hc.1
 have h2:j<2 ^ 62:=hc.2
 refine floordiv_int (by omega) (by rw [Int.fdiv_eq_ediv_of_nonneg i (by omega)];exact q) (.inl (PyProof.noPylong_of_log2 ?_))
 have h3:j.natAbs<2 ^ 62:=by omega
 have:=(Nat.log2_lt (by omega)).mpr h3
 omega
end
section
variable {X:Cx} {K:PySem.W.Frag}
end
section
variable {X:Cx}
theorem pe_cpN {elt iter tg:Expr} {Nc:List Str} {scope isc:Scope} {cs:List (Str×Addr)} {C:Addr} {s2:Shared} {H2:Hp} {fp:List Addr} {own:List Str} {icap:List (Str×Nat)} {pos:Pos} {wi:TI} {g:TG} {te:TE} (fsc:Scope) (cf:CellsFor X scope cs) (hfs:X.env.scope=fsc) (hk:fsc.kind= .function)
  (ok:NestOk isc scope fsc icap Nc) (hc:X.calm=true) (hi:PI (cxCompC X Nc scope cs C s2 H2 fp) tg iter wi)
  (hg:∀cl C' s3 H3 fp',PG (cxComp (cxCompC X Nc scope cs C s2 H2 fp) (capN own icap) isc cl C' s3 H3 fp') tg g) (he:∀cl C' s3 H3 fp',PE (cxComp (cxCompC X Nc scope cs C s2 H2 fp) (capN own icap) isc cl C' s3 H3 fp') elt te)
  (hs:∀x,foldedSetIterable iter (cxCompC X Nc scope cs C s2 H2 fp).env x=pure x:=by intro _;rfl):PE (cxCompC X Nc scope cs C s2 H2 fp) (.ListComp elt [⟨tg,iter,[],0⟩] isc pos) (tComp own.length icap wi g te):=by
 obtain⟨cl,S⟩:=cs_nest (C:=C) (s2:=s2) (H2:=H2) (fp:=fp) cf hfs hk ok
 exact pe_comp S hc hi (hg cl) (he cl) hs
theorem ps_setCompC {i:Nat} {x:Str} {elt iter tg:Expr} {scope:Scope} {own:List Str} {cap:List (Str×Nat)} {cl:List (Str×Addr)} {pos spos py:Pos} {wi:TI} {g:TG} {te:TE}
  (hN:X.N.Nodup) (hi':X.N[i]? =some x) (hx:Loc X.env.scope x) (S:CompScopeC X scope cap cl) (hc:X.calm=true) (hi:PI X tg iter wi) (gm:∀x σ H (Q Q':St->Hp->Prop),(∀σ H,Q σ H->Q' σ H)->g x σ H Q->g x σ H Q')
  (hg:∀cs,CellsFor X scope cs->∀C s2 H2 fp,PG (cxCompC X (capN own cap) scope cs C s2 H2 fp) tg g) (he:∀cs,CellsFor X scope cs->∀C s2 H2 fp,PE (cxCompC X (capN own cap) scope cs C s2 H2 fp) elt te)
  (hsw:swapsWith (.ListComp elt [⟨tg,iter,[],0⟩] scope pos) (some (.Name x py)) spos.line X.env=pure true:=by rfl)
  (hs:∀x,foldedSetIterable iter X.env x=pure x:=by intro _;rfl) (hf:X.fn x=true∨X.env.scope.names.lookup x=some .local:=by first|exact .inl rfl|exact .inr rfl|assumption):
  PS X (.Assign [.Name x py] (.ListComp elt [⟨tg,iter,[],0⟩] scope pos) spos) (tAsg (tComp own.length cap wi g te) (gName i)):=by
 intro pins s σ H D I h
 rw [exec_Assign_Name_used _ _ _ _ hsw]
 refine wpAny_bind (wpAny_standAt (wpAny_bind ?_))
 show wpAny _ X.A (do let _<-comprehension (.ListComp elt [⟨tg,iter,[],0⟩] scope pos) scope X.env _ (newList []) false (eval iter X.env) (some (assign (.Name x py) X.env))) _ _ s
 refine wpAny_bind (wpAny_mono (wpAny_comprehension_free (use:=some (assign (.Name x py) X.env)) (Q:=fun _ s'=>SP X pins D .next s') rfl hs S.clos S.kind S.names
  (thn (hi pins s σ H _ I h) fun v s1 h1=>thn h1 fun itv s2 h2=>?_)) (fun _ s' hq=>wpAny_pure (wpAny_pure hq)) fun _ _ e=>e)
 obtain⟨it,fp,tn,J,H2,e,I2,T,st2,f2,rd⟩:=h2
 subst e
 obtain⟨W,w0,turn⟩:=rd _ (I2.hok.fresh (Nat.le_refl _))
 refine comp_blockG (Q:=fun x H1=>gName i x σ H1 D.nx) (RR:=fun acc C=>compPost (model X.prog X.w) X.A X.xe (some (assign (.Name x py) X.env)) (fun _ s'=>SP X pins D .next s') acc C) S hc I2 T st2 f2 hg (fun _ _ _ _ _ _=>pts_nil) he W w0 (fun i m σc H3 h3=>(turn i m σc H3 h3).imp id fun⟨go,step⟩=>⟨go,fun x H4 y=>gm _ _ _ _ _ (fun σ5 H5 q=>by unfold tYes;dsimp only;rw [if_pos rfl];exact q) (step x H4 y)⟩)
  fun C H' s' m hCle hm hCn I' hback q=>?_
 refine wpAny_assign_Name (store_ok2 (v:= .ref s2.heap.objs.size) I' hN hi' hx rfl (fun s'' I'' ⟨a,hsa,ha⟩=>?_) hf)
 have hCa:C≠a:=by
  rcases ha with z|z
  ·rw [z]
   exact Ne.symm (lt_le_ne I2.lt hCle)
  ·obtain⟨v,q'⟩:=I2.cell x a z
   exact Ne.symm (lt_le_ne q'.lt hCle)
 refine⟨m,hm.sameBut hsa hCa,fun h' hs'=>⟨_,H',?_,q⟩⟩
 have hC0:X.s₀.heap.objs.size<=C:=Nat.le_trans I2.sz hCle
 have hnp:∀p∈X.pn++pins,p.1≠C:=fun p hp=>lt_le_ne (Heap.lt_size (I2.pin p hp).1) hCle
 have hcl:∀y c,X.env.cells.lookup y=some c->c≠C:=fun y c e=>by
  obtain⟨v,q'⟩:=I2.cell y c e
  exact lt_le_ne q'.lt hCle
 have hL:C≠X.env.locals:=Ne.symm (lt_le_ne I2.lt hCle)
 exact I''.turned (t':=s''.toks) (it:=C) (fun b o hb e=>(hs'.2 b hb).trans e) hCn hL (.inr hC0) hcl hnp
theorem ps_cpC {i:Nat} {x:Str} {elt iter tg:Expr} {scope:Scope} {own:List Str} {cap:List (Str×Nat)} {pos spos py:Pos} {wi:TI} {n:Nat} {te:TE} (hNd:X.N.Nodup) (hi':X.N[i]? =some x) (hx:Loc X.env.scope x) (sc0:Scope) (N0:List Str) (hsc:X.env.scope=sc0) (hN:X.N=N0) (hcell:∀x,X.env.scope.names.lookup x=some .cell->∃c,X.env.cells.lookup x=some c)
  (ok:CompOkC scope sc0 cap N0) (hc:X.calm=true) (hi:PI X tg iter wi)
  (hg:∀cs,CellsFor X scope cs->∀C s2 H2 fp,PG (cxCompC X (capN own cap) scope cs C s2 H2 fp) tg (gName n)) (he:∀cs,CellsFor X scope cs->∀C s2 H2 fp,PE (cxCompC X (capN own cap) scope cs C s2 H2 fp) elt te)
  (hsw:swapsWith (.ListComp elt [⟨tg,iter,[],0⟩] scope pos) (some (.Name x py)) spos.line X.env=pure true:=by rfl)
  (hs:∀x,foldedSetIterable iter X.env x=pure x:=by intro _;rfl) (hf:X.fn x=true∨X.env.scope.names.lookup x=some .local:=by first|exact .inl rfl|exact .inr rfl|assumption):
  PS X (.Assign [.Name x py] (.ListComp elt [⟨tg,iter,[],0⟩] scope pos) spos) (tAsg (tComp own.length cap wi (gName n) te) (gName i)):=by
 obtain⟨cl,S⟩:=cs_ofC hsc hN hcell ok
 exact ps_setCompC hNd hi' hx S hc hi (fun _ _ _ _ _ m h=>m _ _ h) hg he hsw hs hf
end
def SObjP (P:Program) (w:World) (a:Addr) (xs:List ((Int×List Int)×Addr)) (h:Heap):Prop:=∃o es ep t,h.get? a=some o/\o.ExactSet/\o.data= .set es ep t/\es.toList=xs.map (fun x=>((pairKind (intKind P w)).hash x.1,Value.ref x.2))/\t.Good/\t.place.size=es.size/\(xs.map (·.1)).Nodup/\
 (∀(i j:Nat) (x:(Int×List Int)×Addr),t.place[i]? =some j->xs[i]? =some x->SetTable.OnWay t ((pairKind (intKind P w)).hash x.1) j)/\t.Small/\t.plain=true/\t.led= !w.params.followText "set-order"
def TKy (H:Hp) (x:List Int×Addr):Prop:=H x.2=some (.tup (x.1.map V.int))
def PKy (H:Hp) (x:(Int×List Int)×Addr):Prop:=∃q,H x.2=some (.tup [.int x.1.1,.ref q])/\TKy H (x.1.2,q)
section
variable {P:Program} {w:World} {H:Hp} {h:Heap} {a:Addr} {s:Shared} {xs:List ((Int×List Int)×Addr)}
theorem SObjP.stay (h1 h2:Heap) (p:SObjP P w a xs h1) (k:∀o,h1.get? a=some o->h2.get? a=some o):SObjP P w a xs h2:=let⟨o,es,ep,t,e,c⟩:=p;⟨o,es,ep,t,k _ e,c⟩
theorem SObjP.of (I:SetIs (pairKind (intKind P w)) s a (!w.params.followText "set-order") xs):SObjP P w a xs s.heap:=by
 obtain⟨o,es,ep,t,S,r1,r2,r3⟩:=I
 exact⟨o,es,ep,t,S.ho,S.hex,S.hd,S.he,S.good,S.size,S.nd,S.way,r1,r2,r3⟩
theorem SObjP.is (I:SObjP P w a xs s.heap) (keys:∀x∈xs,IsPairKey (intKind P w) s.heap x.1 x.2):SetIs (pairKind (intKind P w)) s a (!w.params.followText "set-order") xs:=by
 obtain⟨o,es,ep,t,a1,a2,a3,a4,a5,a6,a7,a8,r1,r2,r3⟩:=I
 exact⟨o,es,ep,t,⟨a1,a2,a3,a4,a5,a6,keys,a7,a8⟩,r1,r2,r3⟩
theorem titems_of {ns:List Int}:∀{us:List Value},Vals (ns.map V.int) us->ItemsAre (intKind P w) ns us:=by
 induction ns with
 |nil=>intro us r;rw [List.map_nil]at r;cases r;exact .nil
 |cons n ns ih=>
  intro us r
  rw [List.map_cons]at r
  cases r with
  |@cons _ v _ _ r1 t=>
   obtain⟨tk,rfl⟩:=r1
   exact .cons (by show Value.isInt n (.int n tk)=true;simp [Value.isInt]) (ih t)
theorem tkey_of {x:List Int×Addr} (ok:HOk P w H h) (e:TKy H x):IsTupleKey (intKind P w) h x.1 x.2:=by
 obtain⟨_,its,r,o,h1,h2,n,h3⟩:=(show ObjOk P w H h x.2 (.tup (x.1.map V.int))from ok _ _ e)
 exact⟨o,its.toArray,n,h1,h2,h3,titems_of r⟩
theorem pkey_of {x:(Int×List Int)×Addr} (ok:HOk P w H h) (e:PKy H x):IsPairKey (intKind P w) h x.1 x.2:=by
 obtain⟨q,e1,e2⟩:=e
 obtain⟨_,its,r,o,h1,h2,n,h3⟩:=(show ObjOk P w H h x.2 (.tup [.int x.1.1,.ref q])from ok _ _ e1)
 obtain⟨u,v,rfl,ru,rv⟩:=vals2 r
 obtain⟨tk,rfl⟩:=ru
 obtain rfl:v=Value.ref q:=rv
 exact⟨o,_,q,n,h1,h2,h3,(by show Value.isInt _ (.int _ tk)=true;simp [Value.isInt]),tkey_of ok e2⟩
end
theorem tvals_refs:∀{ps:List ((Int×List Int)×Addr)} {us:List Value},Vals (ps.map fun x=>V.ref x.2) us->us=ps.map fun x=>Value.ref x.2
 | [],_,.nil=>rfl
 |_::_,_,.cons (r1:_=Value.ref _) t=>by subst r1;rw [List.map_cons,tvals_refs t]
theorem trefs_vals:∀{ps:List ((Int×List Int)×Addr)},Vals (ps.map fun x=>V.ref x.2) (ps.map fun x=>Value.ref x.2)
 | []=> .nil
 |_::_=> .cons rfl trefs_vals
def rSetP (P:Program) (w:World) (K:PySem.W.Frag):List V->Hp->VK->Prop:=fun xs H Q=>∃(p:Addr) (ps:List ((Int×List Int)×Addr)),xs=[.ref p]/\SqL K H p (ps.map fun x=>V.ref x.2)/\(∀x∈ps,PKy H x)/\ps.length<=1000/\(∃ks:List (Int×List Int),ks.length<18/\∀x∈ps,x.1∈ks)/\
 ∀(l:Addr) (zs:List ((Int×List Int)×Addr)),H l=none->(zs.map (·.1)).Nodup->(∀x∈zs,x∈ps)->(∀x∈ps,∃z∈zs,z.1=x.1)->zs.length<=ps.length->Q (.ref l) (upd H l (.ext (SObjP P w l zs)))
def rSortedP (P:Program) (w:World):List V->Hp->VK->Prop:=fun xs H Q=>∃(p:Addr) (ps:List ((Int×List Int)×Addr)),xs=[.ref p]/\H p=some (.ext (SObjP P w p ps))/\(∀x∈ps,PKy H x)/\ps.length<64/\
 ∀(l:Addr) (ys:List ((Int×List Int)×Addr)),H l=none->ys.Perm ps->ys.Pairwise (fun x y=>lexP x.1 y.1=true)->Q (.ref l) (upd H l (.lst (ys.map fun x=>V.ref x.2)))
section
variable {X:Cx}
theorem call_setP (hu:X.A.units+20<cLine) (hc:X.calm=true):CallR X (.type "set") (rSetP X.prog X.w X.K):=by
 intro pins s σ H xs us Q I r h
 obtain⟨p,ps,rfl,hq,hk,hln,⟨ks,kl,km⟩,q⟩:=h
 obtain⟨u,rfl,ru⟩:=vals1 r
 cases ru
 obtain⟨its,rv,pl,hz⟩:=I.list hq
 have ei:=tvals_refs rv
 have hlen:its.length=ps.length:=by rw [ei,List.length_map]
 have at_:∀i,i<ps.length->ps.getD i ((0,[]),0)∈ps:=fun i hi=>by simp [List.getD,hi]
 refine call_set_listH (knd:=pairKind (intKind X.prog X.w)) (items:=its.toArray) (val:=fun i=>(ps.getD i ((0,[]),0)).1) (adr:=fun i=>(ps.getD i ((0,[]),0)).2) (pairKd fun k v hv=>?_) (fun A' hA=>?_) (I.ok.hd hc) pl.isList (fun i v hv=>?_) (fun j hj=>?_) (fun i xs hi M nd=>?_) fun h' tk zs S M hk'=>?_
 ·obtain⟨t,rfl⟩:=Value.isInt_shape hv
  exact⟨_,_,rfl⟩
 ·show A'.units+1<cLine
  omega
 ·have hi:i<its.toArray.size:=(Array.getElem?_eq_some_iff.mp hv).1
  rw [List.size_toArray,hlen]at hi
  rw [List.getElem?_toArray,ei]at hv
  simp [hi]at hv
  rw [<-hv]
  simp [List.getD,hi]
 ·rw [List.size_toArray,hlen]at hj
  exact pkey_of I.hok (hk _ (at_ j hj))
 ·rw [List.size_toArray,hlen]at hi
  have:=nd.length_le_of_subset (l₂:=ks) fun k hk=>by
   obtain⟨x,hx,rfl⟩:=List.mem_map.mp hk
   obtain⟨j,hj,e⟩:=M.from' x hx
   rw [e]
   exact km _ (at_ j (by omega))
  rw [List.length_map]at this
  omega
 ·have kp:∀b o,s.heap.get? b=some o->h'.get? b=some o:=fun b o e=>hk' b o (Heap.lt_size e) e
  have so:=SObjP.of S
  have nd:(zs.map (·.1)).Nodup:=by obtain⟨_,_,_,_,S,_⟩:=S;exact S.nd
  refine⟨.ref s.heap.objs.size,_,I.laid (t':=tk) (o:= .ext (SObjP X.prog X.w s.heap.objs.size zs)) kp (Nat.le_refl _) ⟨so,?_,fun h1 h2 p k=>SObjP.stay h1 h2 p k⟩,rfl,q _ zs (I.hok.fresh (Nat.le_refl _)) nd (fun x hx=>?_) (fun x hx=>?_) ?_⟩
  ·obtain⟨o,_,_,_,e,_⟩:=so
   exact⟨o,e⟩
  ·obtain⟨j,hj,e⟩:=M.from' x hx
   rw [List.size_toArray,hlen]at hj
   rw [e]
   exact at_ j hj
  ·obtain⟨j,hj,e⟩:=List.getElem_of_mem hx
   obtain⟨z,hz,ez⟩:=M.all j (by rw [List.size_toArray,hlen];exact hj)
   refine⟨z,hz,?_⟩
   rw [ez, <-e]
   simp [List.getD,hj]
  ·have:=M.len
   rw [List.size_toArray,hlen]at this
   exact this
theorem call_sortedP (hu:X.A.units+40<cLine) (hc:X.calm=true):CallR X (.builtin "sorted") (rSortedP X.prog X.w):=by
 intro pins s σ H xs us Q I r h
 obtain⟨p,ps,rfl,hp,hk,h64,q⟩:=h
 obtain⟨u,rfl,ru⟩:=vals1 r
 cases ru
 obtain⟨so,_,_⟩:=(show ObjOk X.prog X.w H s.heap p (.ext (SObjP X.prog X.w p ps))from I.hok p _ hp)
 refine sorted_set (pairOrd fun k v hv=>by obtain⟨t,rfl⟩:=Value.isInt_shape hv;exact⟨_,_,rfl⟩) (by omega) (I.ok.hd hc) (so.is fun x hx=>pkey_of I.hok (hk x hx)) (fun _ _=>trivial) h64 fun h' tk l e ys py hy hl hg kp=>?_
 refine⟨.ref l,_,I.laid (t':=tk) (o:= .lst (ys.map fun x=>V.ref x.2)) kp hl ⟨?_,_,e,trefs_vals,hg⟩,rfl,q l ys (I.hok.fresh hl) py hy⟩
 rw [List.length_map,py.length_eq,sizeLine_eq]
 omega
end
def SObj3 (w:World) (a:Addr) (zs:List Nat) (h:Heap):Prop:=∃o ep tk,h.get? a=some o/\o.ExactSet/\o.data= .set (ents3 zs tk) ep (tab3 (!w.params.followText "set-order") zs)/\zs∈subs3
def natVs (l:List Nat):List V:=l.map fun k:Nat=> .int (k:Int)
def rSet3 (w:World) (K:PySem.W.Frag):List V->Hp->VK->Prop:=fun xs H Q=>∃(p:Addr) (ns:List Nat),xs=[.ref p]/\SqL K H p (natVs ns)/\(∀n∈ns,n∈[1,2,3])/\
 ∀(l:Addr) (zs:List Nat),H l=none->zs∈subs3->(∀z,z∈zs↔z∈ns)->Q (.ref l) (upd H l (.ext (SObj3 w l zs)))
def rSorted3 (w:World):List V->Hp->VK->Prop:=fun xs H Q=>∃(p:Addr) (zs:List Nat),xs=[.ref p]/\H p=some (.ext (SObj3 w p zs))/\∀l,H l=none->Q (.ref l) (upd H l (.lst (natVs zs)))
theorem vals_nats:∀{ns:List Nat} {us:List Value},Vals (natVs ns) us->∀(i:Nat) (v:Value),us[i]? =some v->∃t,v= .int (ns.getD i 0:Nat) t
 | [],_,.nil,i,v,h=>by simp at h
 |n::ns,u::us,.cons r t,0,v,h=>by
  obtain⟨tk,e⟩:=r
  have:u=v:=by simpa using h
  exact⟨tk,by rw [<-this,e];rfl⟩
 |n::ns,u::us,.cons r t,i+1,v,h=>by
  have:=vals_nats t i v (by simpa using h)
  simpa [List.getD]using this
theorem perm_map_of {α β:Type} {f:α->β} {l:List β} {xs:List α} (hp:l.Perm (xs.map f)):∃zs:List α,zs.Perm xs/\l=zs.map f:=by
 generalize hm:xs.map f=m at hp
 induction hp generalizing xs with
 |nil=>exact⟨xs,List.Perm.refl _,hm.symm⟩
 |cons a p ih=>
  match xs,hm with
  |x::xs,hm=>
   obtain⟨e1,e2⟩:=List.cons.inj hm
   obtain⟨zs,z1,z2⟩:=ih e2
   exact⟨x::zs,z1.cons x,by rw [z2, <-e1];rfl⟩
 |swap a b l=>
  match xs,hm with
  |x::y::xs,hm=>
   obtain⟨e1,e2⟩:=List.cons.inj hm
   obtain⟨e2,e3⟩:=List.cons.inj e2
   exact⟨y::x::xs,List.Perm.swap _ _ _,by rw [<-e1, <-e2, <-e3];rfl⟩
 |trans p1 p2 ih1 ih2=>
  obtain⟨zs,z1,z2⟩:=ih2 hm
  obtain⟨ys,y1,y2⟩:=ih1 z2.symm
  exact⟨ys,y1.trans z1,y2⟩
theorem sorted_uniq:∀{l m:List Int},l.Perm m->l.Pairwise (·<=·)->m.Pairwise (·<=·)->l=m
 | [],m,h,_,_=>h.nil_eq
 |a::l,[],h,_,_=>absurd h.length_eq (by simp)
 |a::l,b::m,h,h1,h2=>by
  have ha:=(List.pairwise_cons.mp h1)
  have hb:=(List.pairwise_cons.mp h2)
  have e:a=b:=by
   have m1:a∈b::m:=h.mem_iff.mp List.mem_cons_self
   have m2:b∈a::l:=h.mem_iff.mpr List.mem_cons_self
   rcases List.mem_cons.mp m1 with z|z
   ·exact z
   ·rcases List.mem_cons.mp m2 with y|y
    ·exact y.symm
    ·have:=ha.1 b y
     have:=hb.1 a z
     omega
  subst e
  rw [sorted_uniq ((List.perm_cons a).mp h) ha.2 hb.2]
section
variable {X:Cx}
theorem call_set3 (hc:X.calm=true):CallR X (.type "set") (rSet3 X.w X.K):=by
 intro pins s σ H xs us Q I r h
 obtain⟨p,ns,rfl,hq,h3,q⟩:=h
 obtain⟨u,rfl,ru⟩:=vals1 r
 cases ru
 obtain⟨its,rv,pl,hz⟩:=I.list hq
 have hlen:its.length=ns.length:=by rw [<-Vals.length rv];unfold natVs;rw [List.length_map]
 have v3:∀j,j<its.toArray.size->ns.getD j 0∈[1,2,3]:=fun j hj=>by
  rw [List.size_toArray,hlen]at hj
  have:ns.getD j 0=ns[j]:=by simp [List.getD,hj]
  rw [this]
  exact h3 _ (List.getElem_mem hj)
 refine call_set_list3 (items:=its.toArray) (val:=fun i=>ns.getD i 0) (I.ok.hd hc) pl.isList (fun i v hv=>vals_nats rv i v (by simpa using hv)) v3 fun h' tk S kp'=>?_
 have kp:∀b o,s.heap.get? b=some o->h'.get? b=some o:=fun b o e=>kp' b o (Heap.lt_size e) e
 have so:SObj3 X.w s.heap.objs.size (met3 (fun i=>ns.getD i 0) its.toArray.size) h':=S
 refine⟨.ref s.heap.objs.size,_,I.laid (t':=tk) (o:= .ext (SObj3 X.w s.heap.objs.size _)) kp (Nat.le_refl _) ⟨so,?_,fun h1 h2 p k=>?_⟩,rfl,q _ _ (I.hok.fresh (Nat.le_refl _)) (met3_sub _ _) fun z=>?_⟩
 ·obtain⟨o,_,_,e,_⟩:=so
  exact⟨o,e⟩
 ·obtain⟨o,ep,tk,e,c⟩:=p
  exact⟨o,ep,tk,k _ e,c⟩
 ·rw [met3_mem v3 _ (Nat.le_refl _) z,List.size_toArray,hlen]
  constructor
  ·rintro⟨j,hj,rfl⟩
   have:ns.getD j 0=ns[j]:=by simp [List.getD,hj]
   show ns.getD j 0∈ns
   rw [this]
   exact List.getElem_mem hj
  ·intro hz
   obtain⟨j,hj,e⟩:=List.getElem_of_mem hz
   exact⟨j,hj,by show ns.getD j 0=z;rw [<-e];simp [List.getD,hj]⟩
theorem call_sorted3 (hc:X.calm=true):CallR X (.builtin "sorted") (rSorted3 X.w):=by
 intro pins s σ H xs us Q I r h
 obtain⟨p,zs,rfl,hp,q⟩:=h
 obtain⟨u,rfl,ru⟩:=vals1 r
 cases ru
 obtain⟨so,_,_⟩:=(show ObjOk X.prog X.w H s.heap p (.ext (SObj3 X.w p zs))from I.hok p _ hp)
 obtain⟨o,ep,tk,ho,hex,hd,hz⟩:=so
 have l3:=len3 zs hz
 refine Calls.call_function_entry kind_sorted plain_sorted entry_sorted (args_sorted1 _) ?_
 unfold Builtin.«sorted»
 refine wpAny_bind (m:=checkCount "sorted" 1 1 _) (wpAny_pure ?_)
 have rise:SetTable.Rise (tab3 (!X.w.params.followText "set-order") zs).place:=by
  simp only [subs3,List.mem_cons,List.not_mem_nil,or_false]at hz
  rcases hz with rfl|rfl|rfl|rfl|rfl|rfl|rfl|rfl<;>intro i j h1 h2<;>simp [tab3]at h1 h2<;>(obtain rfl|rfl|rfl:j=0∨j=1∨j=2:=by omega)<;>(obtain rfl|rfl|rfl:i=0∨i=1∨i=2:=by omega)<;>first|(exfalso;omega)|(show(_:Nat)<_;simp [tab3])
 refine wpAny_bind (wpAny_collect_set (by simpa using I.ok.hd hc) ho hex hd (fits3 hz) rise rfl rfl (by rw [size3,sizeLine_eq];omega) fun h' tk' s1 hk=>?_)
 obtain⟨ys,py,ey⟩:=perm_map_of (f:=fun z:Nat=>Value.int (z:Int) (tk z)) (l:=setOrd X.w p (ents3 zs tk) ep) (xs:=zs) (by
  have:=setOrd_perm X.w p (ents3 zs tk) ep
  have e:(ents3 zs tk).toList.map (·.2)=zs.map fun z:Nat=>Value.int (z:Int) (tk z):=by simp [ents3]
  rw [e]at this
  exact this)
 rw [ey]
 have hi:IntsAre (ys.map fun z:Nat=>Value.int (z:Int) (tk z)) (ys.map fun z:Nat=>(z:Int)):=by
  clear py ey
  induction ys with
  |nil=>exact .nil
  |cons a l ih=>exact .cons _ _ ih
 generalize (ys.map fun z:Nat=>Value.int (z:Int) (tk z))=vs at hi
 have hal:vs.length=ys.length:=by rw [hi.length,List.length_map]
 have yl:=py.length_eq
 refine wpAny_bind (wpAny_newList ?_ (by rw [sizeLine_eq];omega))
 have hoL:(h'.push (seqObj "list" vs.toArray 0)).get? h'.objs.size=some (seqObj "list" vs.toArray 0):=Heap.get?_push_size _ rfl
 refine wpAny_bind (wpAny_holding (wpAny_call_entry slot_list_sort ⟨_,hoL,rfl⟩ entry_list_sort (list_sort_tree hoL hi (by omega) fun out ms a1 a2 a3=>⟨_,rfl,?_⟩) (args_list_sort _)))
 refine wpAny_pure ⟨_,rfl,?_⟩
 obtain⟨e,he⟩:=sortedHeap_at (vs:=vs) (out:=out) hoL
 have hsz:h'.objs.size<(h'.push (seqObj "list" vs.toArray 0)).objs.size:=by rw [Heap.size_push];exact Nat.lt_succ_self _
 have keep:∀b o,s.heap.get? b=some o->(sortedHeap (h'.push (seqObj "list" vs.toArray 0)) h'.objs.size vs out).get? b=some o:=fun b o eb=>by
  have e1:=hk b o eb
  have hlt:=Heap.lt_size e1
  rw [sortedHeap_old (Nat.ne_of_lt hlt) (Nat.lt_trans hlt hsz)]
  exact Heap.get?_push_of_some _ e1
 have hge:s.heap.objs.size<=h'.objs.size:=Nat.le_of_lt s1
 have es:ms=zs.map fun z:Nat=>(z:Int):=sorted_uniq (a2.trans (py.map _)) a3 (by
  simp only [subs3,List.mem_cons,List.not_mem_nil,or_false]at hz
  rcases hz with rfl|rfl|rfl|rfl|rfl|rfl|rfl|rfl<;>decide)
 have en:ms.map V.int=natVs zs:=by rw [es,List.map_map];rfl
 refine⟨.ref h'.objs.size,_,I.laid (t':=tk') (o:= .lst (ms.map V.int)) keep hge ⟨?_,out.toList,e,valsOfInts a1,by simpa using he⟩,rfl,by rw [en];exact q _ (I.hok.fresh hge)⟩
 rw [List.length_map,a2.length_eq,List.length_map,sizeLine_eq]
 omega
end
structure Dis (P:Program) (w:World) (K:PySem.W.Frag) (mg:Str->Option Value) (base:Heap) (CX:CXT) (k:Nat) (Cs:Addr->Prop) (m:Str) (ps:List Str) (sp:Addr->Sp):Prop where
 ex:∀C,Cs C->Cls K C/\∃f fd,Meth K C m f/\FnOk P w K mg base CX k f fd ps (sp C)/\Binds K fd ps []
def tMethD (Cs:Addr->Prop) (m:Str) (sp:Addr->Sp) (E:XK) (ta:TE) (t:TA):TE:=fun σ H Q=>ta σ H fun x H1=>∃a C dx fs,x= .ref a/\H1 a=some (.ins C dx fs)/\Cs C/\fs.lookup m=none/\t σ H1 fun vs H2=>sp C (.ref a::vs) H2 Q E
section
variable {X:Cx} {CX:CXT} {k:Nat} {Cs:Addr->Prop} {m:Str} {ps:List Str} {sp:Addr->Sp} {E:XK} {o e:Expr} {es:List Expr} {ta:TE} {t:TA} {apos pos:Pos}
theorem pe_methD {pl:Sem Bool} (he:PE X o ta) (D:Dis X.prog X.w X.K X.mg X.base CX k Cs m ps sp) (hr:Room k X.A) (hx:Passes CX X E) (ha:PA X (e::es) t)
  (hst:starEach (e::es) X.env=(false,eval e X.env)::starEach es X.env:=by rfl) (hpl:(backTo pos (starEach es X.env)).any (·.1)=false:=by rfl)
  (ht:eval (.Call (.Attribute o m apos) (e::es) [] pos) X.env=(do
   let ov<-eval o X.env
   standAt apos.atName
   let(f,first)<-holding [ov] (getMethod ov m pl)
   callWith pos f first (backTo pos (starEach (e::es) X.env)) (backToKw pos (keywordEach [] X.env))):=by rfl):
  PE X (.Call (.Attribute o m apos) (e::es) [] pos) (tMethD Cs m sp E ta t):=by
 intro pins s σ H Q I h
 refine PySem.W.methodCall_KW (pl:=pl) (thn (he pins s σ H _ I h) fun u s1 ⟨x,H1,I1,rx,a,C,dx,fs,ex,ea,hC,l,q⟩=>?_) ht
 subst ex
 obtain rfl:u=Value.ref a:=rx
 obtain⟨c,f,fd,hm,F,hb⟩:=D.ex C hC
 refine getmeth_ok I1 ea c hm l ?_
 refine PySem.W.callWith_K (first:=[.ref a]) (h₀:=X.base) I.ok.mod.kin hm.kp (thn (ha pos pins s1 σ H1 _ I1 q) fun us s2 ⟨vs,H2,I2,r,q2⟩=>⟨I2.kIn,?_⟩) hst hpl
 exact run_fn (us:= .ref a::us) (vs:= .ref a::vs) F hr hb .nil hx I2 (.cons rfl r) (by rw [List.append_nil];exact q2)
theorem pe_methD0 {pl:Sem Bool} (he:PE X o ta) (D:Dis X.prog X.w X.K X.mg X.base CX k Cs m ps sp) (hr:Room k X.A) (hx:Passes CX X E)
  (ht:eval (.Call (.Attribute o m apos) [] [] pos) X.env=(do
   let ov<-eval o X.env
   standAt apos.atName
   let(f,first)<-holding [ov] (getMethod ov m pl)
   callWith pos f first (backTo pos (starEach [] X.env)) (backToKw pos (keywordEach [] X.env))):=by rfl):
  PE X (.Call (.Attribute o m apos) [] [] pos) (tMethD Cs m sp E ta tNil):=by
 intro pins s σ H Q I h
 refine PySem.W.methodCall_KW (pl:=pl) (thn (he pins s σ H _ I h) fun u s1 ⟨x,H1,I1,rx,a,C,dx,fs,ex,ea,hC,l,q⟩=>?_) ht
 subst ex
 obtain rfl:u=Value.ref a:=rx
 obtain⟨c,f,fd,hm,F,hb⟩:=D.ex C hC
 refine getmeth_ok I1 ea c hm l ?_
 exact PySem.W.callWith_K0 (first:=[.ref a]) I1.kIn hm.kp (run_fn (us:=[.ref a]) (vs:=[.ref a]) F hr hb .nil hx I1 (.cons rfl .nil) q)
end
def constV:Expr->Option V
 | .Constant (.int i) _ _=>some (.int i)
 | .Constant (.bool b) _ _=>some (.bl b)
 | .Constant (.str x) _ _=>some (.str x)
 | .Constant .none _ _=>some .non
 | .UnaryOp .USub (.Constant (.int i) _ _) _=>some (.int (-i))
 |_=>none
def constVs:List Expr->Option (List V)
 | []=>some []
 |e::es=>match constV e with
  |none=>none
  |some v=>match constVs es with
   |none=>none
   |some vs=>some (v::vs)
def tKL (vs:List V):TE:=fun _ H Q=>vs.length<=sizeLine/\∀p,H p=none->Q (.ref p) (upd H p (.lst vs))
section
variable {X:Cx}
theorem const_ok {e:Expr} {v:V} (h:constV e=some v):PE X e (tC v)/\∀es,starEach (e::es) X.env=(false,eval e X.env)::starEach es X.env:=by
 unfold constV at h
 split at h
 ·cases h;exact⟨pe_int,fun _=>rfl⟩
 ·cases h;exact⟨pe_bl,fun _=>rfl⟩
 ·cases h;exact⟨pe_str,fun _=>rfl⟩
 ·cases h;exact⟨pe_non,fun _=>rfl⟩
 ·cases h
  refine⟨fun pins s σ H Q I q=>pe_un un_neg pe_int pins s σ H Q I ⟨_,rfl,q⟩,fun _=>rfl⟩
 ·cases h
theorem pa_consts:∀{es:List Expr} {vs:List V},constVs es=some vs->PA X es (fun _ H Q=>Q vs H)
 | [],vs,h=>by
  cases h
  exact pa_nil
 |e::es,vs,h=>by
  unfold constVs at h
  cases g:constV e with
  |none=>rw [g]at h;cases h
  |some v=>
   cases g2:constVs es with
   |none=>rw [g,g2]at h;cases h
   |some us=>
    rw [g,g2]at h
    cases h
    obtain⟨h1,h2⟩:=const_ok (X:=X) g
    exact pa_cons h1 (pa_consts g2) (h2 es)
theorem pe_clst {es:List Expr} {vs:List V} {pos:Pos} (h:constVs es=some vs):PE X (.List es pos) (tKL vs):=pe_lst (pa_consts h)
end
def tDUpd (td te:TE):TE:=fun σ H Q=>td σ H fun x H1=>∃a,x= .ref a/\IsD H1 a/\te σ H1 fun y H2=>∃b kvs more,y= .ref b/\H2 a=some (.dK kvs)/\H2 b=some (.dK more)/\a≠b/\kvs.length+more.length<=1000/\Q .non (upd H2 a (.dK (mergeK kvs more)))
section
variable {X:Cx} {o e:Expr} {apos cpos:Pos} {td ty:TE}
theorem pe_dupd (ho:PE X o td) (he:PE X e ty) (m:M1 X o "update" apos e cpos):PE X (.Call (.Attribute o "update" apos) [e] [] cpos) (tDUpd td ty):=by
 intro pins s σ H Q I h
 refine wpAny_Call_method m.base m.few m.line PySem.F.plainAttrs_dict PySem.F.slot_dict_update PySem.F.type_dict_update (thn (ho pins s σ H _ I h) fun u s1 ⟨x,H1,I1,rx,a,ex,d,q1⟩=>?_)
 subst ex
 obtain rfl:u=Value.ref a:=rx
 obtain⟨t1,t2,_⟩:=isD_at I1 d
 refine⟨t1,t2,?_⟩
 rw [m.trees]
 refine Calls.callWith_builtin rfl (Calls.evalArgs_plain (Calls.spliced_cons (thn (he pins s1 σ H1 _ I1 q1) fun iv s2 ⟨y,H2,I2,ry,b,kvs,more,ey,ea,eb,ne,hl,q2⟩=>Calls.spliced_nil ?_)))
 subst ey
 obtain rfl:iv=Value.ref b:=ry
 obtain⟨z,hd,vs,rel,dd⟩:=dk_of I2.hok ea
 obtain⟨z',hd',vs',rel',dd'⟩:=dk_of I2.hok eb
 have hz:kvs.length+more.length<=sizeLine:=Nat.le_trans hl (by decide)
 refine call_meetsIn PySem.F.slot_dict_update dd.typeIs PySem.F.entry_dict_update (PySem.F.args_dict_update_2 _ _) (meets_dict_update (mixKind X.prog X.w) a b ne hd') ⟨vs,vs',dd,dd',by rw [<-rel.length, <-rel'.length];exact hz,fun h' dn _ hs=>?_⟩
 have hx:∃q,h'.get? a=some q:=let⟨q,_,_,hq,_⟩:=dn;⟨q,hq⟩
 exact⟨.non,_,d_write (t':=s2.toks) I2 (by rw [ea];exact True.intro) hs hx (dk_new (Nat.le_trans (length_mergeK more kvs) hz) hd (rel'.merge rel) dn),rfl,q2⟩
end
section
variable {X:Cx}
end
end L2
namespace G3
inductive Rim where
 |fixed (v:Int)|mirror|round
 deriving DecidableEq
def OkSize (n:Int):Prop:=1<=n/\n<=9
end G3
namespace G3
def wl (ps:List (List Int)) (n:Int):List (List Int):=ps.flatMap fun p=>(List.range n.toNat).map fun k=>p++[((k:Nat):Int)]
def places (ns:List Int):List (List Int):=ns.foldl wl [[]]
theorem wl_length (ps:List (List Int)) (n:Int):(wl ps n).length=ps.length*n.toNat:=by
 unfold wl
 induction ps with
 |nil=>simp
 |cons p ps ih=>rw [List.flatMap_cons,List.length_append,ih,List.length_cons,Nat.succ_mul];simp;omega
theorem wl_append (ps:List (List Int)) (p:List Int) (n:Int):wl (ps++[p]) n=wl ps n++(List.range n.toNat).map fun k=>p++[((k:Nat):Int)]:=by
 unfold wl
 simp
theorem range_snoc (p:List Int) (k:Nat):((List.range (k+1)).map fun k=>p++[((k:Nat):Int)])=((List.range k).map fun k=>p++[((k:Nat):Int)])++[p++[((k:Nat):Int)]]:=by
 rw [List.range_succ]
 simp
def prodL (ns:List Int):Int:=ns.foldl (fun a n=>a*n) 1
theorem prodL_snoc (ns:List Int) (n:Int):prodL (ns++[n])=prodL ns*n:=by unfold prodL;simp
structure GoodSizes (ns:List Int):Prop where
 one:1<=ns.length
 few:ns.length<=3
 ok:∀n∈ns,OkSize n
 many:prodL ns<=40
structure Drawing (ns:List Int) (left:Int):Prop where
 ok:∀n∈ns,OkSize n
 pos:1<=prodL ns
 lp:1<=left
 le:prodL ns*left<=40
theorem Drawing.start:Drawing [] 40:=⟨fun _ h=>(by cases h),by decide,by decide,by decide⟩
theorem Drawing.step {ns:List Int} {left n:Int} (h:Drawing ns left) (h1:1<=n) (h9:n<=9) (hl:n<=left):Drawing (ns++[n]) (left / n):=by
 have hq:n*(left / n)<=left:=Int.mul_ediv_self_le (by omega)
 have hp:=h.pos
 refine⟨fun m hm=>?_,?_,?_,?_⟩
 ·rcases List.mem_append.mp hm with z|z
  ·exact h.ok m z
  ·have:m=n:=by simpa using z
   subst this
   exact⟨h1,h9⟩
 ·rw [prodL_snoc]
  have:=Int.mul_le_mul hp h1 (by omega) (by omega)
  simpa using this
 ·exact(Int.le_ediv_iff_mul_le (by omega)).mpr (by omega)
 ·rw [prodL_snoc,Int.mul_assoc]
  exact Int.le_trans (Int.mul_le_mul_of_nonneg_left hq (by omega)) h.le
theorem Drawing.good {ns:List Int} {left:Int} (h:Drawing ns left) (h1:1<=ns.length) (h3:ns.length<=3):GoodSizes ns:=by
 refine⟨h1,h3,h.ok,?_⟩
 have hp:=h.pos
 have:=Int.mul_le_mul_of_nonneg_left h.lp (show 0<=prodL ns by omega)
 have:=h.le
 omega
end G3
namespace KG
open PySem PyProof.Rows L2 G3
def top (i:Nat):Stmt:=PySem.Challenge.pw_slanttiles_k22_spots_of_a_job.main.body.getD i (.Pass ⟨0,0,0,0⟩)
abbrev sWhole:Stmt:=top 7
abbrev sWithin:Stmt:=top 8
abbrev sIsRim:Stmt:=top 42
abbrev sCheck:Stmt:=top 50
abbrev sProd:Stmt:=top 51
abbrev sWl:Stmt:=top 52
abbrev sDraw:Stmt:=top 56
abbrev sSizes:Stmt:=top 57
abbrev sRim:Stmt:=top 58
abbrev sInit:Stmt:=inClass (top 49) 0
abbrev sLines:Stmt:=inClass (top 49) 1
abbrev sMany:Stmt:=inClass (top 49) 2
abbrev sAll:Stmt:=inClass (top 49) 3
abbrev sHas:Stmt:=inClass (top 49) 4
theorem Paired.get {α β:Type} {F:α->β->Prop}:∀{l₁:List α} {l₂:List β},Paired F l₁ l₂->∀{i:Nat} {x:α},l₁[i]? =some x->∃y,l₂[i]? =some y/\F x y
 |_,_,.nil,i,_,h=>by simp at h
 |_,_,.cons h _,0,_,e=>by simp at e;subst e;exact⟨_,rfl,h⟩
 |_,_,.cons _ t,i+1,x,e=>by
  obtain⟨y,h1,h2⟩:=Paired.get t (i:=i) (x:=x) (by simpa using e)
  exact⟨y,by simpa using h1,h2⟩
theorem Paired.snoc' {α β:Type} {F:α->β->Prop}:∀{l₁:List α} {l₂:List β} {x:α} {y:β},Paired F l₁ l₂->F x y->Paired F (l₁++[x]) (l₂++[y])
 |_,_,_,_,.nil,h=> .cons h .nil
 |_,_,_,_,.cons a t,h=> .cons a (Paired.snoc' t h)
def rimV:Rim->List V
 | .fixed v=>[.str "fixed",.int v]
 | .mirror=>[.str "mirror"]
 | .round=>[.str "round"]
def OkRim:Rim->Prop
 | .fixed v=>0<=v/\v<=1000000000
 |_=>True
def RimAt (H:Hp) (v:V) (r:Rim):Prop:=∃a,v= .ref a/\H a=some (.tup (rimV r))/\OkRim r
abbrev RimsAt (H:Hp):List V->List Rim->Prop:=Paired (RimAt H)
def WellAt (H:Hp) (a:Addr):Prop:=∃x y z:Int,H a=some (.lst [.int x,.int y,.int z])
def Kp (a:Addr) (H H':Hp):Prop:=∀b o,H b=some o->b≠a->H' b=some o
theorem Kp.trans {a:Addr} {H H1 H2:Hp} (x:Kp a H H1) (y:Kp a H1 H2):Kp a H H2:=fun b o h n=>y b o (x b o h n) n
theorem Kp.same {a:Addr} {H H1 H2:Hp} (x:Kp a H H1) (y:Same H1 H2):Kp a H H2:=fun b o h n=>y b o (x b o h n)
theorem Kp.of {a:Addr} {H H':Hp} (x:Same H H'):Kp a H H':=fun b o h _=>x b o h
theorem Same.new {H:Hp} {p:Addr} {o:HO} (h:H p=none):Same H (upd H p o):=fun b u e=>by
 rw [upd_ne (ne_of_none e h)]
 exact e
theorem Kp.upd {H:Hp} {p:Addr} {o:HO}:Kp p H (upd H p o):=fun b u e n=>by
 rw [upd_ne n]
 exact e
theorem RimsAt.mono {H H':Hp} (k:∀b xs,H b=some (.tup xs)->H' b=some (.tup xs)) {xs:List V} {rs:List Rim} (h:RimsAt H xs rs):RimsAt H' xs rs:=
 Paired.mapP h fun _ _ ⟨a,e,q,o⟩=>⟨a,e,k _ _ q,o⟩
theorem ab:¬(("sizes":Str)="rims"):=by decide+kernel
def flds (p q:Addr):List (Str×V):=putF "rims" (.ref q) (putF "sizes" (.ref p) [])
theorem flds_sizes (p q:Addr):(flds p q).lookup ("sizes":Str)=some (.ref p):=by
 unfold flds
 rw [lookup_putF,if_neg ab,lookup_putF,if_pos rfl]
theorem flds_no (p q:Addr) {m:Str} (h1:¬m="rims") (h2:¬m="sizes"):(flds p q).lookup m=none:=by
 unfold flds
 rw [lookup_putF,if_neg h1,lookup_putF,if_neg h2]
 all_goals rfl
structure GridAt (C:Addr) (H:Hp) (g:Addr) (ns:List Int) (xs:List V) (rs:List Rim):Prop where
 ob:∃dx p q,H g=some (.ins C dx (flds p q))/\H p=some (.lst (ns.map V.int))/\H q=some (.lst xs)
 rims:RimsAt H xs rs
 len:rs.length=ns.length
 good:GoodSizes ns
def PtsT (H:Hp):List V->List (List Int)->Prop:=Paired fun v l=>∃a,v= .ref a/\H a=some (.tup (l.map V.int))
def spWhole:Sp:=fun vs H Q _=>∃n:Int,vs=[.int n]/\Q (.bl true) H
def spWithin:Sp:=fun vs H Q _=>∃n lo hi:Int,vs=[.int n,.int lo,.int hi]/\Q (.bl (decide (lo<=n/\n<=hi))) H
def spIsRim:Sp:=fun vs H Q _=>∃(a:Addr) (r:Rim),vs=[.ref a]/\H a=some (.tup (rimV r))/\OkRim r/\∀H',Same H H'->Q (.bl true) H'
def spProd:Sp:=fun vs H Q _=>∃(a:Addr) (ns:List Int),vs=[.ref a]/\H a=some (.lst (ns.map V.int))/\(∀n∈ns,OkSize n)/\Q (.int (prodL ns)) H
def spDraw:Sp:=fun vs H Q _=>∃(a:Addr) (m:Int),vs=[.ref a,.int m]/\WellAt H a/\0<m/\m<1073741824/\∀(n:Int) (H':Hp),0<=n->n<m->Kp a H H'->WellAt H' a->Q (.int n) H'
theorem pe_ty {X:Cx} {x:Str} {n:String} {pos:Pos} (hg:Gl X x) (hm:X.mg x=none) (hv:bootBuiltins x=some (.type n)) (hn:x≠"__name__":=by decide) (hd:(x==("__debug__":Str))=false:=by decide):PE X (.Name x pos) (tC (.ty n)):=pe_bltn (v:= .ty n) hg hm hv rfl hn hd
theorem pe_gint {X:Cx} {x:Str} {i:Int} {t:Tok} {pos:Pos} (hg:Gl X x) (hm:X.mg x=some (.int i t)) (hd:(x==("__debug__":Str))=false:=by decide):PE X (.Name x pos) (tC (.int i)):=pe_glob (v:= .int i) hg hm ⟨_,rfl⟩ hd
structure Txt (K:W.Frag) (mg:Str->Option Value):Prop where
 isinstance:mg "isinstance"=none
 int:mg "int"=none
 bool:mg "bool"=none
 str:mg "str"=none
 tuple:mg "tuple"=none
 list:mg "list"=none
 len:mg "len"=none
 range:mg "range"=none
 enumerate:mg "enumerate"=none
 min:mg "min"=none
 zip:mg "zip"=none
 all:mg "all"=none
 gf:∃t,mg "GREATEST_FIXED"=some (.int 1000000000 t)
 ml:∃t,mg "MOST_LINES"=some (.int 3 t)
 gs:∃t,mg "GREATEST_SIZE"=some (.int 9 t)
 mp:∃t,mg "MOST_PLACES"=some (.int 40 t)
section
variable {P:Program} {w:World} {K:W.Frag} {mg:Str->Option Value} {base:Heap}
theorem scWhole:FnScope ["thing"] ["thing"] (defScope sWhole):=⟨rfl,rfl,rfl,by decide+kernel,rfl,by decide+kernel,by decide+kernel⟩
theorem ok_whole {f:Addr} {fd:FuncData} (F:Fun K "is_whole" "is_whole" sWhole f fd) (T:Txt K mg):FnOk P w K mg base CX0 1 f fd ["thing"] spWhole:=by
 refine F.ok scWhole (fun vs H Q E h=>?_) (fun cdv A outer s H vs Q E hr h=>?_)
 ·obtain⟨n,rfl,_⟩:=h
  rfl
 ·obtain⟨n,rfl,k⟩:=h
  refine⟨_,pss_one (ps_ret (pe_and (pe_callB call_isinst rfl T.isinstance boot_isinstance (pa_cons (pv 0) (pa_cons (pe_ty rfl T.int boot_int) pa_nil)))
   (pe_one (pe_not (pe_callB call_isinst rfl T.isinstance boot_isinstance (pa_cons (pv 0) (pa_cons (pe_ty rfl T.bool boot_bool) pa_nil))))))),?_⟩
  refine⟨_,rfl,_,_,_,true,rfl,.int n,rfl,_,rfl,iteT ?_⟩
  exact⟨_,rfl,_,_,_,false,rfl,.int n,rfl,_,rfl,k⟩
theorem scWithin:FnScope ["thing","least","most"] ["thing","least","most"] (defScope sWithin):=⟨rfl,rfl,rfl,by decide+kernel,rfl,by decide+kernel,by decide+kernel⟩
theorem ok_within {f f1:Addr} {fd fd1:FuncData} (F:Fun K "is_within" "is_within" sWithin f fd) (F1:Fun K "is_whole" "is_whole" sWhole f1 fd1) (m1:mg "is_whole"=some (.ref f1)) (b1:Binds K fd1 ["thing"] []) (T:Txt K mg):
  FnOk P w K mg base CX0 2 f fd ["thing","least","most"] spWithin:=by
 have G1:FnOk P w K mg base CX0 1 f1 fd1 ["thing"] spWhole:=ok_whole F1 T
 refine F.ok scWithin (fun vs H Q E h=>?_) (fun cdv A outer s H vs Q E hr h=>?_)
 ·obtain⟨n,lo,hi,rfl,_⟩:=h
  rfl
 ·obtain⟨n,lo,hi,rfl,k⟩:=h
  refine⟨_,pss_one (ps_ret (pe_and (pe_call G1 hr rfl m1 F1.kp b1 .nil pass0 (pa_cons (pv 0) pa_nil)) (pe_one (pe_chain op_le op_le (pv 1) (pv 0) (pv 2))))),?_⟩
  refine⟨_,rfl,n,rfl,_,rfl,iteT ?_⟩
  refine⟨_,rfl,_,rfl,_,_,rfl,rfl,_,rfl,?_⟩
  by_cases h1:lo<=n
  ·rw [decide_eq_true h1]
   refine iteT ⟨_,rfl,_,_,rfl,rfl,?_⟩
   have e:decide (n<=hi)=decide (lo<=n/\n<=hi):=by simp [h1]
   show Q (.bl (decide (n<=hi))) H
   rw [e]
   exact k
  ·rw [decide_eq_false h1]
   refine iteF ?_
   have e:false=decide (lo<=n/\n<=hi):=by simp [h1]
   show Q (.bl false) H
   rw [e]
   exact k
end
end KG
namespace KG
open PySem PyProof.Rows L2 G3
section
variable {P:Program} {w:World} {K:W.Frag} {mg:Str->Option Value} {base:Heap}
theorem scIsRim:FnScope ["thing"] ["thing"] (defScope sIsRim):=⟨rfl,rfl,rfl,by decide+kernel,rfl,by decide+kernel,by decide+kernel⟩
theorem ok_isRim {f f1:Addr} {fd fd1:FuncData} (F:Fun K "is_rim" "is_rim" sIsRim f fd) (F1:Fun K "is_within" "is_within" sWithin f1 fd1) (m1:mg "is_within"=some (.ref f1)) (b1:Binds K fd1 ["thing","least","most"] []) (T:Txt K mg)
  (G1:FnOk P w K mg base CX0 2 f1 fd1 ["thing","least","most"] spWithin):FnOk P w K mg base CX0 3 f fd ["thing"] spIsRim:=by
 refine F.ok scIsRim (fun vs H Q E h=>?_) (fun cdv A outer s H vs Q E hr h=>?_)
 ·obtain⟨a,r,rfl,_⟩:=h
  rfl
 ·obtain⟨a,r,rfl,ha,ok,k⟩:=h
  obtain⟨tf,gf⟩:=T.gf
  refine⟨_,pss_cons (ps_if (PW.pt (pw_or (pt_not (pt_val (pe_callB call_isinst rfl T.isinstance boot_isinstance (pa_cons (pv 0) (pa_cons (pe_ty rfl T.tuple boot_tuple) pa_nil)))))
    (pw_or1 (pt_cmpR op_eq (pe_callB call_len_seq (by rfl) T.len PySem.boot_len (pa_cons (pv 0) pa_nil)) pe_int (nomark _))))) (pss_one (ps_ret pe_bl)) pss_nil)
   (pss_cons (ps_if (pt_not (pt_val (pe_callB call_isinst rfl T.isinstance boot_isinstance (pa_cons (pe_ix ix_tup (pv 0) pe_int (fun _ _=>rfl)) (pa_cons (pe_ty rfl T.str boot_str) pa_nil))))) (pss_one (ps_ret pe_bl)) pss_nil)
   (pss_cons (ps_if (pt_cmpR op_eq (pe_ix ix_tup (pv 0) pe_int (fun _ _=>rfl)) pe_str (nomark _))
    (pss_one (ps_ret (pe_and (pe_cmpR op_eq (pe_callB call_len_seq (by rfl) T.len PySem.boot_len (pa_cons (pv 0) pa_nil)) pe_int (nomark _))
     (pe_one (pe_call G1 hr rfl m1 F1.kp b1 .nil pass0 (pa_cons (pe_ix ix_tup (pv 0) pe_int (fun _ _=>rfl)) (pa_cons pe_int (pa_cons (pe_gint rfl gf) pa_nil)))))))) pss_nil)
   (pss_one (ps_ret (pe_and (pe_cmpR op_eq (pe_callB call_len_seq (by rfl) T.len PySem.boot_len (pa_cons (pv 0) pa_nil)) pe_int (nomark _))
    (pe_one (pe_cmpR op_in_seq (pe_ix ix_tup (pv 0) pe_int (fun _ _=>rfl)) (pe_tup (pa_cons pe_str (pa_cons pe_str pa_nil))) rfl))))))),?_⟩
  cases r with
  |fixed v=>
   refine⟨_,rfl,_,_,_,true,rfl,.tup ha,rfl,_,rfl,iteF ?_⟩
   refine⟨_,rfl,a,_,rfl,.inr (SqT.of ha),rfl,_,rfl,iteF ?_⟩
   refine⟨_,rfl,a,_,_,_,rfl,rfl,SqT.of ha,rfl,_,_,_,true,rfl,.str _,rfl,_,rfl,iteF ?_⟩
   refine⟨_,rfl,a,_,_,_,rfl,rfl,SqT.of ha,rfl,rfl,_,rfl,?_⟩
   refine iteT ?_
   refine⟨_,rfl,a,_,rfl,.inr (SqT.of ha),rfl,_,rfl,iteT ?_⟩
   refine⟨_,rfl,a,_,_,_,rfl,rfl,SqT.of ha,rfl,v,0,1000000000,rfl,?_⟩
   rw [decide_eq_true (show(0:Int)<=v/\v<=1000000000 from ok)]
   exact k H (Same.refl H)
  |mirror=>
   refine⟨_,rfl,_,_,_,true,rfl,.tup ha,rfl,_,rfl,iteF ?_⟩
   refine⟨_,rfl,a,_,rfl,.inr (SqT.of ha),rfl,_,rfl,iteF ?_⟩
   refine⟨_,rfl,a,_,_,_,rfl,rfl,SqT.of ha,rfl,_,_,_,true,rfl,.str _,rfl,_,rfl,iteF ?_⟩
   refine⟨_,rfl,a,_,_,_,rfl,rfl,SqT.of ha,rfl,rfl,_,rfl,?_⟩
   refine iteF ?_
   refine⟨_,rfl,a,_,rfl,.inr (SqT.of ha),rfl,_,rfl,iteT ?_⟩
   refine⟨_,rfl,a,_,_,_,rfl,rfl,SqT.of ha,rfl,(by show 2<=sizeLine;decide),fun t ht=>⟨t,_,rfl,.inr (SqT.of upd_same),rfl,rfl,?_⟩⟩
   exact k _ (Same.new ht)
  |round=>
   refine⟨_,rfl,_,_,_,true,rfl,.tup ha,rfl,_,rfl,iteF ?_⟩
   refine⟨_,rfl,a,_,rfl,.inr (SqT.of ha),rfl,_,rfl,iteF ?_⟩
   refine⟨_,rfl,a,_,_,_,rfl,rfl,SqT.of ha,rfl,_,_,_,true,rfl,.str _,rfl,_,rfl,iteF ?_⟩
   refine⟨_,rfl,a,_,_,_,rfl,rfl,SqT.of ha,rfl,rfl,_,rfl,?_⟩
   refine iteF ?_
   refine⟨_,rfl,a,_,rfl,.inr (SqT.of ha),rfl,_,rfl,iteT ?_⟩
   refine⟨_,rfl,a,_,_,_,rfl,rfl,SqT.of ha,rfl,(by show 2<=sizeLine;decide),fun t ht=>⟨t,_,rfl,.inr (SqT.of upd_same),rfl,rfl,?_⟩⟩
   exact k _ (Same.new ht)
theorem scProd:FnScope ["sizes","many","size"] ["sizes"] (defScope sProd):=⟨rfl,rfl,rfl,by decide+kernel,rfl,by decide+kernel,by decide+kernel⟩
theorem get_map {ns:List Int} {i:Nat} {x:V} (h:(ns.map V.int)[i]? =some x):∃n,x=V.int n/\ns[i]? =some n:=by
 rw [List.getElem?_map]at h
 cases e:ns[i]? with
 |none=>rw [e]at h;cases h
 |some n=>rw [e]at h;exact⟨n,(Option.some.inj h).symm,rfl⟩
theorem take_snoc {ns:List Int} {i:Nat} {n:Int} (h:ns[i]? =some n):ns.take (i+1)=ns.take i++[n]:=by
 rw [List.take_succ,h]
 rfl
theorem ok_prod {f:Addr} {fd:FuncData} (F:Fun K "product" "product" sProd f fd):FnOk P w K mg base CX0 1 f fd ["sizes"] spProd:=by
 refine F.ok scProd (fun vs H Q E h=>?_) (fun cdv A outer s H vs Q E hr h=>?_)
 ·obtain⟨a,ns,rfl,_⟩:=h
  rfl
 ·obtain⟨a,ns,rfl,ha,ok,k⟩:=h
  refine⟨_,pss_cons (ps_set (i:=1) scProd.nd rfl (Or.inl rfl) pe_int)
   (pss_cons (ps_for PassesOwn.never rfl (pi_list (pv 0)) (pg_name (i:=2) scProd.nd rfl (Or.inl rfl))
    (pss_one (ps_set (i:=1) scProd.nd rfl (Or.inl rfl) (pe_op op_mul (pv 1) (pv 2)))))
   (pss_one (ps_ret (pv 1)))),?_⟩
  refine⟨_,rfl,a,rfl,⟨_,SqL.of ha⟩,for_list (K:=K) (a:=a) (xs:=ns.map V.int) (fun i σ H2=>∃v:Option V,σ=[some (.ref a),some (.int (prodL (ns.take i))),v]/\H2=H)
   ⟨none,rfl,rfl⟩ (fun i σ H2 _ ⟨_,_,e⟩=>by rw [e];exact SqL.of ha) ?_ ?_⟩
  ·rintro i y σ H2 hi ⟨v,rfl,rfl⟩
   obtain⟨n,rfl,hn⟩:=get_map hi
   have okn:=ok n (List.mem_of_getElem? hn)
   refine⟨_,rfl,_,rfl,_,_,rfl,rfl,.inr ⟨?_,?_⟩,?_⟩
   ·have:=okn.1;omega
   ·have:=okn.2;omega
   ·refine⟨some (.int n),?_,rfl⟩
    rw [take_snoc hn,prodL_snoc]
    rfl
  ·rintro σ H2 ⟨v,rfl,rfl⟩
   rw [List.length_map,List.take_length]
   exact⟨_,rfl,k⟩
end
end KG
namespace KG
open PySem PyProof.Rows L2 G3
def spSizes:Sp:=fun vs H Q _=>∃a:Addr,vs=[.ref a]/\WellAt H a/\∀(p:Addr) (ns:List Int) (H':Hp),Kp a H H'->WellAt H' a->H p=none->H' p=some (.lst (ns.map V.int))->GoodSizes ns->Q (.ref p) H'
def spRim:Sp:=fun vs H Q _=>∃a:Addr,vs=[.ref a]/\WellAt H a/\∀(p:Addr) (r:Rim) (H':Hp),Kp a H H'->WellAt H' a->H' p=some (.tup (rimV r))->OkRim r->Q (.ref p) H'
section
variable {P:Program} {w:World} {K:W.Frag} {mg:Str->Option Value} {base:Heap}
theorem scDraw:FnScope ["_law_well_here","_law_most","_law_number_here"] ["_law_well_here","_law_most"] (defScope sDraw):=⟨rfl,rfl,rfl,by decide+kernel,rfl,by decide+kernel,by decide+kernel⟩
theorem modb (x:Int): -(2 ^ 64)<x % 2147483647/\x % 2147483647<2 ^ 64:=by
 have h1:=Int.emod_nonneg x (show(2147483647:Int)≠0 by decide)
 have h2:=Int.emod_lt_of_pos x (show(0:Int)<2147483647 by decide)
 omega
theorem modc (x:Int): -(2 ^ 64)<x % 2147483399/\x % 2147483399<2 ^ 64:=by
 have h1:=Int.emod_nonneg x (show(2147483399:Int)≠0 by decide)
 have h2:=Int.emod_lt_of_pos x (show(0:Int)<2147483399 by decide)
 omega
theorem ok_draw {f:Addr} {fd:FuncData} (F:Fun K "_law_draw" "_law_draw" sDraw f fd):FnOk P w K mg base CX0 1 f fd ["_law_well_here","_law_most"] spDraw:=by
 refine F.ok scDraw (fun vs H Q E h=>?_) (fun cdv A outer s H vs Q E hr h=>?_)
 ·obtain⟨a,m,rfl,_⟩:=h
  rfl
 ·obtain⟨a,m,rfl,⟨x,y,z,ha⟩,hm,hm2,k⟩:=h
  refine⟨_,pss_cons (ps_if (pt_cmpR op_gt (pe_ix ix_list (pv 0) pe_int (fun _ _=>rfl)) pe_int (nomark _))
    (pss_cons (ps_set (i:=2) scDraw.nd rfl (Or.inl rfl) (pe_op op_mod (pe_ix ix_list (pv 0) pe_int (fun _ _=>rfl)) (pv 1)))
    (pss_cons (ps_asg (pe_op op_fdiv (pe_ix ix_list (pv 0) pe_int (fun _ _=>rfl)) (pv 1)) (pg_sub (pv 0) pe_int set_list))
    (pss_one (ps_ret (pv 2))))) pss_nil)
   (pss_cons (ps_asg (pe_op op_add (pe_ix ix_list (pv 0) pe_int (fun _ _=>rfl)) pe_int) (pg_sub (pv 0) pe_int set_list))
   (pss_cons (ps_set (i:=2) scDraw.nd rfl (Or.inl rfl) (pe_op op_mod (pe_op op_mul (pe_op op_add (pe_op op_add (pe_ix ix_list (pv 0) pe_int (fun _ _=>rfl)) (pe_op op_mul pe_int (pe_ix ix_list (pv 0) pe_int (fun _ _=>rfl)))) pe_int) pe_int) pe_int))
   (pss_cons (ps_set (i:=2) scDraw.nd rfl (Or.inl rfl) (pe_op op_mod (pe_op op_mul (pv 2) (pe_op op_add (pe_op op_fdiv (pv 2) pe_int) pe_int)) pe_int))
   (pss_cons (ps_set (i:=2) scDraw.nd rfl (Or.inl rfl) (pe_op op_mod (pe_op op_mul (pv 2) (pe_op op_add (pe_op op_fdiv (pv 2) pe_int) pe_int)) pe_int))
   (pss_one (ps_ret (pe_op op_mod (pe_op op_add (pe_op op_mul (pv 2) pe_int) (pe_op op_fdiv (pv 2) pe_int)) (pv 1)))))))),?_⟩
  refine⟨_,rfl,a,_,_,_,rfl,rfl,SqL.of ha,rfl,_,_,rfl,rfl,_,rfl,?_⟩
  refine ite2 (fun _=>?_) (fun _=>?_)
  ·refine⟨_,rfl,a,_,_,_,rfl,rfl,SqL.of ha,rfl,_,rfl,_,_,rfl,rfl,hm,?_⟩
   refine⟨_,rfl,a,_,_,_,rfl,rfl,SqL.of ha,rfl,_,rfl,_,_,rfl,rfl,⟨hm,hm2⟩,?_⟩
   refine⟨_,rfl,a,_,_,1,rfl,rfl,ha,rfl,?_⟩
   exact⟨_,rfl,k _ _ (Int.emod_nonneg _ (by omega)) (Int.emod_lt_of_pos _ hm) Kp.upd ⟨_,_,_,upd_same⟩⟩
  ·refine⟨_,rfl,a,_,_,_,rfl,rfl,SqL.of ha,rfl,_,_,rfl,rfl,?_⟩
   refine⟨_,rfl,a,_,_,2,rfl,rfl,ha,rfl,?_⟩
   have hb:(upd H a (.lst ([V.int x,V.int y,V.int z].set 2 (.int (z+1))))) a=some (.lst [.int x,.int y,.int (z+1)]):=upd_same
   refine⟨_,rfl,a,_,_,_,rfl,rfl,SqL.of hb,rfl,_,rfl,a,_,_,_,rfl,rfl,SqL.of hb,rfl,_,_,rfl,rfl,.inl ⟨by decide,by decide⟩,_,_,rfl,rfl,_,_,rfl,rfl,_,_,rfl,rfl,.inr ⟨by decide,by decide⟩,_,_,rfl,rfl,(by show(0:Int)<2147483647;decide),?_⟩
   refine⟨_,rfl,_,rfl,_,_,rfl,rfl,⟨by decide,by decide⟩,_,_,rfl,rfl,_,_,rfl,rfl,.inl (modb _),_,_,rfl,rfl,(by show(0:Int)<2147483647;decide),?_⟩
   refine⟨_,rfl,_,rfl,_,_,rfl,rfl,⟨by decide,by decide⟩,_,_,rfl,rfl,_,_,rfl,rfl,.inl (modb _),_,_,rfl,rfl,(by show(0:Int)<2147483399;decide),?_⟩
   refine⟨_,rfl,_,_,rfl,rfl,.inl (modc _),_,rfl,_,_,rfl,rfl,⟨by decide,by decide⟩,_,_,rfl,rfl,_,rfl,_,_,rfl,rfl,hm,?_⟩
   exact k _ _ (Int.emod_nonneg _ (by omega)) (Int.emod_lt_of_pos _ hm) Kp.upd ⟨_,_,_,upd_same⟩
end
end KG
namespace KG
open PySem PyProof.Rows L2 G3
section
variable {P:Program} {w:World} {K:W.Frag} {mg:Str->Option Value} {base:Heap}
theorem scSizes:FnScope ["_law_well_here","_law_sizes_here","_law_left","_law_k","_law_size"] ["_law_well_here"] (defScope sSizes):=⟨rfl,rfl,rfl,by decide+kernel,rfl,by decide+kernel,by decide+kernel⟩
theorem ok_sizes {f f1:Addr} {fd fd1:FuncData} (F:Fun K "_law_sizes" "_law_sizes" sSizes f fd) (F1:Fun K "_law_draw" "_law_draw" sDraw f1 fd1) (m1:mg "_law_draw"=some (.ref f1)) (b1:Binds K fd1 ["_law_well_here","_law_most"] []) (T:Txt K mg):
  FnOk P w K mg base CX0 2 f fd ["_law_well_here"] spSizes:=by
 have G1:FnOk P w K mg base CX0 1 f1 fd1 ["_law_well_here","_law_most"] spDraw:=ok_draw F1
 refine F.ok scSizes (fun vs H Q E h=>?_) (fun cdv A outer s H vs Q E hr h=>?_)
 ·obtain⟨a,rfl,_⟩:=h
  rfl
 ·obtain⟨a,rfl,ha,q⟩:=h
  refine⟨_,pss_cons (ps_set (i:=1) scSizes.nd rfl (Or.inl rfl) (pe_lst pa_nil))
   (pss_cons (ps_set (i:=2) scSizes.nd rfl (Or.inl rfl) pe_int)
   (pss_cons (ps_for PassesOwn.never rfl (pi_range1 rfl T.range (pa_cons (pe_op op_add pe_int (pe_call G1 hr rfl m1 F1.kp b1 .nil pass0 (pa_cons (pv 0) (pa_cons pe_int pa_nil)))) pa_nil)) (pg_name (i:=3) scSizes.nd rfl (Or.inl rfl))
    (pss_cons (ps_set (i:=4) scSizes.nd rfl (Or.inl rfl) (pe_op op_add pe_int (pe_call G1 hr rfl m1 F1.kp b1 .nil pass0 (pa_cons (pv 0) (pa_cons (pe_callB (call_min2 rfl) rfl T.min boot_min (pa_cons pe_int (pa_cons (pv 2) pa_nil))) pa_nil)))))
    (pss_cons (ps_expr (pe_bm PySem.F.plainAttrs_list PySem.F.slot_list_append PySem.F.type_list_append mt_append (pv 1) (pa_cons (pv 4) pa_nil)))
    (pss_one (ps_set (i:=2) scSizes.nd rfl (Or.inl rfl) (pe_op op_fdiv (pv 2) (pv 4)))))))
   (pss_one (ps_ret (pv 1))))),?_⟩
  refine⟨Nat.zero_le _,fun p hp=>?_⟩
  have hpa:p≠a:=by obtain⟨x,y,z,e⟩:=ha;exact Ne.symm (ne_of_none e hp)
  have w0:WellAt (upd H p (.lst [])) a:=by obtain⟨x,y,z,e⟩:=ha;exact⟨x,y,z,by rw [upd_ne (Ne.symm hpa)];exact e⟩
  refine⟨_,rfl,a,3,rfl,w0,(by decide),(by decide),fun n H1 n0 n3 kp1 w1=>?_⟩
  refine⟨_,_,rfl,rfl,1+n,rfl,by omega,by omega,?_⟩
  have e0:(1+n).toNat=n.toNat+1:=by omega
  have k0:Kp a H H1:=Kp.trans (Kp.of (Same.new hp)) kp1
  refine for_range (lo:=0) (n:=(1+n).toNat) (fun i σ H2=>∃(ns:List Int) (left:Int) (v3 v4:Option V),σ=[some (.ref a),some (.ref p),some (.int left),v3,v4]/\Kp a H H2/\WellAt H2 a/\H2 p=some (.lst (ns.map V.int))/\ns.length=i/\Drawing ns left)
   ⟨[],40,none,none,rfl,k0,w1,kp1 p _ upd_same hpa,rfl,Drawing.start⟩ ?_ ?_
  ·rintro i σ H2 hi ⟨ns,left,v3,v4,rfl,kp2,w2,hp2,hl,D⟩
   have hlp:=D.lp
   have hmin:1<=(if left<9 then left else 9)/\(if left<9 then left else 9)<=9/\(if left<9 then left else 9)<=left:=by split<;>omega
   refine⟨_,rfl,_,rfl,_,_,rfl,a,_,rfl,w2,(by show 0<(if left<9 then left else 9);omega),(by show(if left<9 then left else 9)<1073741824;omega),fun m H3 m0 m9 kp3 w3=>?_⟩
   refine⟨_,_,rfl,rfl,?_⟩
   have hp3:=kp3 p _ hp2 hpa
   have hlen:(ns.map V.int).length<sizeLine:=small1000 (by rw [List.length_map];omega)
   refine⟨_,rfl,.inl ⟨rfl,_,SqL.of hp3⟩,_,rfl,p,_,_,rfl,rfl,hp3,hlen,?_⟩
   refine⟨_,rfl,_,rfl,_,_,rfl,rfl,⟨(by show 0<1+m;omega),(by show 1+m<1073741824;omega)⟩,?_⟩
   have D':=D.step (n:=1+m) (by omega) (by omega) (by omega)
   refine⟨ns++[1+m],left / (1+m),_,_,rfl,fun b o e n=>?_,?_,?_,?_,D'⟩
   ·by_cases hb:b=p
    ·subst hb
     rw [hp]at e
     cases e
    ·rw [upd_ne hb]
     exact kp3 b o (kp2 b o e n) n
   ·obtain⟨x,y,z,e⟩:=w3
    exact⟨x,y,z,by rw [upd_ne (Ne.symm hpa)];exact e⟩
   ·rw [upd_same,List.map_append]
    rfl
   ·rw [List.length_append,hl]
    rfl
  ·rintro σ H2 ⟨ns,left,v3,v4,rfl,kp2,w2,hp2,hl,D⟩
   exact⟨_,rfl,q p ns H2 kp2 w2 hp hp2 (D.good (by omega) (by omega))⟩
theorem scRim:FnScope ["_law_well_here","_law_way"] ["_law_well_here"] (defScope sRim):=⟨rfl,rfl,rfl,by decide+kernel,rfl,by decide+kernel,by decide+kernel⟩
theorem WellAt.new {H:Hp} {a p:Addr} {o:HO} (h:WellAt H a) (hp:H p=none):WellAt (upd H p o) a:=by
 obtain⟨x,y,z,e⟩:=h
 exact⟨x,y,z,by rw [upd_ne (ne_of_none e hp)];exact e⟩
theorem ok_rim {f f1:Addr} {fd fd1:FuncData} (F:Fun K "_law_rim" "_law_rim" sRim f fd) (F1:Fun K "_law_draw" "_law_draw" sDraw f1 fd1) (m1:mg "_law_draw"=some (.ref f1)) (b1:Binds K fd1 ["_law_well_here","_law_most"] []):
  FnOk P w K mg base CX0 2 f fd ["_law_well_here"] spRim:=by
 have G1:FnOk P w K mg base CX0 1 f1 fd1 ["_law_well_here","_law_most"] spDraw:=ok_draw F1
 refine F.ok scRim (fun vs H Q E h=>?_) (fun cdv A outer s H vs Q E hr h=>?_)
 ·obtain⟨a,rfl,_⟩:=h
  rfl
 ·obtain⟨a,rfl,ha,q⟩:=h
  refine⟨_,pss_cons (ps_set (i:=1) scRim.nd rfl (Or.inl rfl) (pe_call G1 hr rfl m1 F1.kp b1 .nil pass0 (pa_cons (pv 0) (pa_cons pe_int pa_nil))))
   (pss_cons (ps_if (pt_cmpR op_eq (pv 1) pe_int (nomark _))
    (pss_one (ps_ret (pe_tup (pa_cons pe_str (pa_cons (pe_call G1 hr rfl m1 F1.kp b1 .nil pass0 (pa_cons (pv 0) (pa_cons (pe_ix ix_list (pe_lst (pa_cons pe_int (pa_cons (pe_op op_add (pe_op op_pow pe_int pe_int) pe_int) pa_nil)))
     (pe_call G1 hr rfl m1 F1.kp b1 .nil pass0 (pa_cons (pv 0) (pa_cons pe_int pa_nil))) (fun _ _=>rfl)) pa_nil))) pa_nil))))) pss_nil)
   (pss_one (ps_ret (pe_ix ix_list (pe_lst (pa_cons (pe_tup (pa_cons pe_str pa_nil)) (pa_cons (pe_tup (pa_cons pe_str pa_nil)) pa_nil))) (pe_op op_sub (pv 1) pe_int) (fun _ _=>rfl))))),?_⟩
  refine⟨_,rfl,a,3,rfl,ha,(by decide),(by decide),fun n H1 n0 n3 kp1 w1=>?_⟩
  refine⟨_,rfl,rfl,_,rfl,?_⟩
  by_cases hn:n=0
  ·subst hn
   refine iteT ?_
   refine⟨_,rfl,_,_,rfl,rfl,⟨by decide,by decide,by decide⟩,_,_,rfl,rfl,(by show 2<=sizeLine;decide),fun l hl=>?_⟩
   refine⟨_,rfl,a,2,rfl,w1.new hl,(by decide),(by decide),fun m H2 m0 m2 kp2 w2=>?_⟩
   have hla:l≠a:=by obtain⟨x,y,z,e⟩:=w1;exact Ne.symm (ne_of_none e hl)
   have hl2:=kp2 l _ upd_same hla
   have kp3:Kp a H H2:=Kp.trans kp1 (Kp.trans (Kp.of (Same.new hl)) kp2)
   have fin:∀(c:Int) (v:Int) (H3:Hp),c<=1000000001->0<=v->v<c->Kp a H2 H3->WellAt H3 a->∀p,H3 p=none->Q (.ref p) (upd H3 p (.tup [.str "fixed",.int v])):=fun c v H3 hc v0 vc kp4 w3 p hp=>by
    exact q p (.fixed v) _ (Kp.same (Kp.trans kp3 kp4) (Same.new hp)) (w3.new hp) upd_same ⟨v0,by omega⟩
   have h01:m=0∨m=1:=by omega
   rcases h01 with rfl|rfl
   ·refine⟨l,_,_,_,rfl,rfl,SqL.of hl2,rfl,a,_,rfl,w2,(by decide),(by decide),fun v H3 v0 vc kp4 w3=>⟨(by show 2<=sizeLine;decide),?_⟩⟩
    exact fin 3 v H3 (by decide) v0 vc kp4 w3
   ·refine⟨l,_,_,_,rfl,rfl,SqL.of hl2,rfl,a,_,rfl,w2,(by decide),(by decide),fun v H3 v0 vc kp4 w3=>⟨(by show 2<=sizeLine;decide),?_⟩⟩
    exact fin 1000000001 v H3 (by decide) v0 vc kp4 w3
  ·have hne:¬(V.int n=V.int 0):=fun z=>hn (by cases z;rfl)
   rw [decide_eq_false hne]
   refine iteF ?_
   refine⟨(by show 1<=sizeLine;decide),fun p1 hp1=>⟨(by show 1<=sizeLine;decide),fun p2 hp2=>⟨(by show 2<=sizeLine;decide),fun l hl=>?_⟩⟩⟩
   have s1:Same H1 (upd H1 p1 (.tup [.str "mirror"])):=Same.new hp1
   have s2:Same (upd H1 p1 (.tup [.str "mirror"])) (upd (upd H1 p1 (.tup [.str "mirror"])) p2 (.tup [.str "round"])):=Same.new hp2
   have s3:Same (upd (upd H1 p1 (.tup [.str "mirror"])) p2 (.tup [.str "round"])) (upd (upd (upd H1 p1 (.tup [.str "mirror"])) p2 (.tup [.str "round"])) l (.lst [.ref p1,.ref p2])):=Same.new hl
   have kp2:=Kp.same kp1 (s1.trans (s2.trans s3))
   have w2:=((w1.new (o:= .tup [.str "mirror"]) hp1).new (o:= .tup [.str "round"]) hp2).new (o:= .lst [.ref p1,.ref p2]) hl
   have h12:n=1∨n=2:=by omega
   rcases h12 with rfl|rfl
   ·refine⟨_,rfl,_,_,rfl,rfl,l,_,_,_,rfl,rfl,SqL.of upd_same,rfl,?_⟩
    exact q p1 .mirror _ kp2 w2 (s3 _ _ (s2 _ _ upd_same)) trivial
   ·refine⟨_,rfl,_,_,rfl,rfl,l,_,_,_,rfl,rfl,SqL.of upd_same,rfl,?_⟩
    exact q p2 .round _ kp2 w2 (s3 _ _ upd_same) trivial
end
end KG
namespace KG
open PySem PyProof.Rows L2 G3
theorem PtsT.mono {H H':Hp} (k:∀b xs,H b=some (.tup xs)->H' b=some (.tup xs)) {xs:List V} {ls:List (List Int)} (h:PtsT H xs ls):PtsT H' xs ls:=
 Paired.mapP h fun _ _ ⟨a,e,q⟩=>⟨a,e,k _ _ q⟩
theorem PtsT.snoc {H:Hp} {xs:List V} {ls:List (List Int)} {a:Addr} {l:List Int} (h:PtsT H xs ls) (e:H a=some (.tup (l.map V.int))):PtsT H (xs++[.ref a]) (ls++[l]):=Paired.snoc' h ⟨a,rfl,e⟩
def spWl:Sp:=fun vs H Q _=>∃(a:Addr) (xs:List V) (ps:List (List Int)) (sz:Int),vs=[.ref a,.int sz]/\H a=some (.lst xs)/\PtsT H xs ps/\OkSize sz/\ps.length<=1000/\(∀l∈ps,l.length<=10)/\
 ∀(q:Addr) (ys:List V) (H':Hp),Same H H'->H' q=some (.lst ys)->PtsT H' ys (wl ps sz)->Q (.ref q) H'
def spAll (C:Addr):Sp:=fun vs H Q _=>∃(g:Addr) (ns:List Int) (xs:List V) (rs:List Rim),vs=[.ref g]/\GridAt C H g ns xs rs/\
 ∀(q:Addr) (ys:List V) (H':Hp),Same H H'->H' q=some (.lst ys)->PtsT H' ys (places ns)->Q (.ref q) H'
theorem places_snoc (ns:List Int) (n:Int):places (ns++[n])=wl (places ns) n:=by
 unfold places
 simp
theorem places_len:∀(ns:List Int) (acc:List (List Int)),(∀n∈ns,OkSize n)->(ns.foldl wl acc).length<=acc.length*9 ^ ns.length
 | [],acc,_=>by simp
 |n::ns,acc,h=>by
  have ih:=places_len ns (wl acc n) fun m hm=>h m (List.mem_cons_of_mem _ hm)
  have hn:=h n List.mem_cons_self
  have e:(wl acc n).length<=acc.length*9:=by
   rw [wl_length]
   exact Nat.mul_le_mul_left _ (by have:=hn.1;have:=hn.2;omega)
  rw [List.foldl_cons,List.length_cons,Nat.pow_succ,Nat.mul_comm (9 ^ _) 9, <-Nat.mul_assoc]
  exact Nat.le_trans ih (Nat.mul_le_mul_right _ e)
theorem wl_lens {ps:List (List Int)} {n:Int} {k:Nat} (h:∀l∈ps,l.length=k):∀l∈wl ps n,l.length=k+1:=by
 intro l hl
 unfold wl at hl
 rw [List.mem_flatMap]at hl
 obtain⟨p,hp,hl⟩:=hl
 obtain⟨j,_,rfl⟩:=List.mem_map.mp hl
 rw [List.length_append,h p hp]
 rfl
theorem places_lens:∀(ns:List Int) (acc:List (List Int)) (k:Nat),(∀l∈acc,l.length=k)->∀l∈ns.foldl wl acc,l.length=k+ns.length
 | [],acc,k,h=>by simpa using h
 |n::ns,acc,k,h=>by
  intro l hl
  have:=places_lens ns (wl acc n) (k+1) (wl_lens h) l hl
  rw [List.length_cons]
  omega
section
variable {P:Program} {w:World} {K:W.Frag} {mg:Str->Option Value} {base:Heap}
theorem scWl:FnScope ["places","size","longer","place","number"] ["places","size"] (defScope sWl):=⟨rfl,rfl,rfl,by decide+kernel,rfl,by decide+kernel,by decide+kernel⟩
theorem ok_wl {f:Addr} {fd:FuncData} (F:Fun K "with_line" "with_line" sWl f fd) (T:Txt K mg):FnOk P w K mg base CX0 1 f fd ["places","size"] spWl:=by
 refine F.ok scWl (fun vs H Q E h=>?_) (fun cdv A outer s H vs Q E hr h=>?_)
 ·obtain⟨a,xs,ps,sz,rfl,_⟩:=h
  rfl
 ·obtain⟨a,xs,ps,sz,rfl,ha,hps,ok,hlen,hsm,q⟩:=h
  have o1:=ok.1
  have o2:=ok.2
  refine⟨_,pss_cons (ps_set (i:=2) scWl.nd rfl (Or.inl rfl) (pe_lst pa_nil))
   (pss_cons (ps_for PassesOwn.never rfl (pi_list (pv 0)) (pg_name (i:=3) scWl.nd rfl (Or.inl rfl))
    (pss_one (ps_for PassesOwn.never rfl (pi_range1 rfl T.range (pa_cons (pv 1) pa_nil)) (pg_name (i:=4) scWl.nd rfl (Or.inl rfl))
     (pss_one (ps_expr (pe_bm PySem.F.plainAttrs_list PySem.F.slot_list_append PySem.F.type_list_append mt_append (pv 2) (pa_cons (pe_op (op_catT.or op_catT0) (pv 3) (pe_tup (pa_cons (pv 4) pa_nil))) pa_nil)))))))
   (pss_one (ps_ret (pv 2)))),?_⟩
  refine⟨Nat.zero_le _,fun p hp=>?_⟩
  have s0:Same H (upd H p (.lst [])):=Same.new hp
  refine⟨_,rfl,a,rfl,⟨_,SqL.of (s0 _ _ ha)⟩,for_list (K:=K) (a:=a) (xs:=xs) (fun i σ H2=>∃(ys:List V) (v3 v4:Option V),σ=[some (.ref a),some (.int sz),some (.ref p),v3,v4]/\Same H H2/\H2 p=some (.lst ys)/\PtsT H2 ys (wl (ps.take i) sz))
   ⟨[],none,none,rfl,s0,upd_same,.nil⟩ (fun i σ H2 _ ⟨_,_,_,_,s2,_⟩=>SqL.of (s2 _ _ ha)) ?_ ?_⟩
  ·rintro i y σ H2 hi ⟨ys,v3,v4,rfl,s2,hp2,pt2⟩
   obtain⟨l,hl,pa,rfl,hpa⟩:=Paired.get hps hi
   have hil:i<ps.length:=(List.getElem?_eq_some_iff.mp hl).1
   have etake:ps.take (i+1)=ps.take i++[l]:=by
    rw [List.take_succ,hl]
    rfl
   refine⟨_,rfl,sz,rfl,by omega,by omega,?_⟩
   refine for_range (lo:=0) (n:=sz.toNat) (fun j σ H3=>∃(ys:List V) (v4:Option V),σ=[some (.ref a),some (.int sz),some (.ref p),some (.ref pa),v4]/\Same H H3/\H3 p=some (.lst ys)/\PtsT H3 ys (wl (ps.take i) sz++(List.range j).map fun k=>l++[((k:Nat):Int)]))
    ⟨ys,v4,rfl,s2,hp2,by simpa using pt2⟩ ?_ ?_
   ·rintro j σ H3 hj ⟨zs,u4,rfl,s3,hp3,pt3⟩
    have hpa3:=s3 _ _ hpa
    have hzl:zs.length<sizeLine:=by
     have e1:=Paired.length pt3
     rw [List.length_append,wl_length,List.length_map,List.length_range,List.length_take]at e1
     have e2:min i ps.length*sz.toNat<=1000*9:=Nat.mul_le_mul (by omega) (by omega)
     have:(10000:Nat)<sizeLine:=by decide
     omega
    refine⟨_,rfl,.inl ⟨rfl,_,SqL.of hp3⟩,_,rfl,_,rfl,(by show 1<=sizeLine;decide),fun t ht=>?_⟩
    have s4:Same H3 (upd H3 t (.tup [.int (0+(j:Int))])):=Same.new ht
    have tl:∀{H4:Hp} {r:Addr},Same H3 H4->H4 r=some (.tup ((l++[(j:Int)]).map V.int))->∃(ys:List V) (v4:Option V),([some (.ref a),some (.int sz),some (.ref p),some (.ref pa),some (.int (0+(j:Int)))]:L2.St)=[some (.ref a),some (.int sz),some (.ref p),some (.ref pa),v4]/\Same H (upd H4 p (.lst (zs++[.ref r])))/\(upd H4 p (.lst (zs++[.ref r]))) p=some (.lst ys)/\
      PtsT (upd H4 p (.lst (zs++[.ref r]))) ys (wl (ps.take i) sz++(List.range (j+1)).map fun k=>l++[((k:Nat):Int)]):=fun{H4 r} s5 hr4=>by
     have kt:∀b xs,H4 b=some (.tup xs)->(upd H4 p (.lst (zs++[.ref r]))) b=some (.tup xs):=fun b xs e=>by
      rw [upd_ne (ne_of e (s5 _ _ hp3) (by intro z;cases z))]
      exact e
     refine⟨zs++[.ref r],_,rfl,fun b o e=>?_,upd_same,?_⟩
     ·by_cases hb:b=p
      ·subst hb
       rw [hp]at e
       cases e
      ·rw [upd_ne hb]
       exact s5 _ _ (s3 _ _ e)
     ·rw [range_snoc, <-List.append_assoc]
      exact PtsT.snoc (PtsT.mono (fun b xs e=>kt b xs (s5 _ _ e)) pt3) (kt _ _ hr4)
    by_cases hl0:l=[]
    ·subst hl0
     refine .inr ⟨pa,t,_,rfl,rfl,SqT.of (s4 _ _ hpa3),SqT.of upd_same,p,_,_,rfl,rfl,s4 _ _ hp3,hzl,?_⟩
     exact tl s4 (by rw [upd_same];simp)
    ·refine .inl ⟨pa,t,_,_,rfl,rfl,SqT.of (s4 _ _ hpa3),SqT.of upd_same,(by simpa using hl0),?_,(fun z=>by cases z),fun _ r hr4=>?_⟩
     ·have:=hsm l (List.mem_of_getElem? hl)
      have h2:(100:Nat)<=sizeLine:=by decide
      rw [List.length_map]
      show l.length+1<=sizeLine
      omega
     ·refine⟨p,_,_,rfl,rfl,(Same.new hr4) _ _ (s4 _ _ hp3),hzl,?_⟩
      exact tl (s4.trans (Same.new hr4)) (by rw [upd_same];simp)
   ·rintro σ H3 ⟨zs,u4,rfl,s3,hp3,pt3⟩
    refine⟨zs,_,_,rfl,s3,hp3,?_⟩
    rw [etake,wl_append]
    exact pt3
  ·rintro σ H2 ⟨ys,v3,v4,rfl,s2,hp2,pt2⟩
   have e:ps.take xs.length=ps:=by rw [Paired.length hps,List.take_length]
   rw [e]at pt2
   exact⟨_,rfl,q p ys H2 s2 hp2 pt2⟩
end
end KG
namespace KG
open PySem PyProof.Rows L2 G3
structure Cl (K:W.Frag) (C:Addr):Prop where
 cl:Cls K C
 nS:NoAttr K C "sizes"
 nR:NoAttr K C "rims"
def spCheck:Sp:=fun vs H Q _=>∃(a b:Addr) (ns:List Int) (xs:List V) (rs:List Rim),vs=[.ref a,.ref b]/\H a=some (.lst (ns.map V.int))/\H b=some (.lst xs)/\RimsAt H xs rs/\rs.length=ns.length/\GoodSizes ns/\∀H',Same H H'->Q .non H'
def spInit (C:Addr):Sp:=fun vs H Q _=>∃(g dx a b:Addr) (ns:List Int) (xs:List V) (rs:List Rim),vs=[.ref g,.ref a,.ref b]/\H g=some (.ins C dx [])/\H a=some (.lst (ns.map V.int))/\H b=some (.lst xs)/\RimsAt H xs rs/\rs.length=ns.length/\GoodSizes ns/\
 ∀H',Kp g H H'->GridAt C H' g ns xs rs->Q .non H'
theorem rims_len {H:Hp} {xs:List V} {rs:List Rim} (h:RimsAt H xs rs):xs.length=rs.length:=Paired.length h
section
variable {P:Program} {w:World} {K:W.Frag} {mg:Str->Option Value} {base:Heap}
theorem scCheck:FnScope ["sizes","rims","line","rim"] ["sizes","rims"] (defScope sCheck):=⟨rfl,rfl,rfl,by decide+kernel,rfl,by decide+kernel,by decide+kernel⟩
theorem ok_check {f f1 f2:Addr} {fd fd1 fd2:FuncData} (F:Fun K "check_lines" "check_lines" sCheck f fd) (F1:Fun K "is_within" "is_within" sWithin f1 fd1) (m1:mg "is_within"=some (.ref f1)) (b1:Binds K fd1 ["thing","least","most"] [])
  (G1:FnOk P w K mg base CX0 2 f1 fd1 ["thing","least","most"] spWithin) (F2:Fun K "is_rim" "is_rim" sIsRim f2 fd2) (m2:mg "is_rim"=some (.ref f2)) (b2:Binds K fd2 ["thing"] []) (G2:FnOk P w K mg base CX0 3 f2 fd2 ["thing"] spIsRim) (T:Txt K mg):
  FnOk P w K mg base CX0 4 f fd ["sizes","rims"] spCheck:=by
 refine F.ok scCheck (fun vs H Q E h=>?_) (fun cdv A outer s H vs Q E hr h=>?_)
 ·obtain⟨a,b,ns,xs,rs,rfl,_⟩:=h
  rfl
 ·obtain⟨a,b,ns,xs,rs,rfl,ha,hb,hrs,hlen,good,q⟩:=h
  obtain⟨tl,ml⟩:=T.ml
  obtain⟨tg,gs⟩:=T.gs
  have hxl:=rims_len hrs
  have g1:=good.one
  have g3:=good.few
  refine⟨_,pss_cons (ps_if (PW.pt (pw_or (pt_not (pt_chain op_le op_le pe_int (pe_callB call_len_seq (by rfl) T.len PySem.boot_len (pa_cons (pv 0) pa_nil)) (pe_gint rfl ml)))
    (pw_or1 (pt_cmpR op_ne (pe_callB call_len_seq (by rfl) T.len PySem.boot_len (pa_cons (pv 1) pa_nil)) (pe_callB call_len_seq (by rfl) T.len PySem.boot_len (pa_cons (pv 0) pa_nil)) (nomark _))))) pss_never pss_nil)
   (pss_one (ps_for PassesOwn.never rfl (pi_enum rfl T.enumerate (pa_cons (pv 1) pa_nil)) (pg_tup rfl (pgs_cons (pg_name (i:=2) scCheck.nd rfl (Or.inl rfl)) (pgs_cons (pg_name (i:=3) scCheck.nd rfl (Or.inl rfl)) pgs_nil)))
    (pss_one (ps_if (PW.pt (pw_or (pt_not (pt_val (pe_call G1 (hr.mono (by decide)) rfl m1 F1.kp b1 .nil pass0 (pa_cons (pe_ix ix_list (pv 0) (pv 2) (fun _ _=>rfl)) (pa_cons pe_int (pa_cons (pe_gint rfl gs) pa_nil))))))
     (pw_or1 (pt_not (pt_val (pe_call G2 hr rfl m2 F2.kp b2 .nil pass0 (pa_cons (pv 3) pa_nil))))))) pss_never pss_nil)))),?_⟩
  refine⟨_,rfl,a,_,rfl,.inl (SqL.of ha),_,_,rfl,rfl,_,rfl,?_⟩
  have c1:decide ((1:Int)<=((ns.map V.int).length:Int))=true:=decide_eq_true (by rw [List.length_map];omega)
  rw [c1]
  refine iteT ⟨_,_,rfl,rfl,_,rfl,?_⟩
  have c2:decide (((ns.map V.int).length:Int)<=3)=true:=decide_eq_true (by rw [List.length_map];omega)
  rw [c2]
  refine iteF ?_
  refine⟨_,rfl,b,_,rfl,.inl (SqL.of hb),_,rfl,a,_,rfl,.inl (SqL.of ha),rfl,_,rfl,?_⟩
  have c3:(!decide (V.int (xs.length:Int)=V.int ((ns.map V.int).length:Int)))=false:=by rw [List.length_map,hxl,hlen];simp
  rw [c3]
  refine iteF ?_
  refine⟨_,rfl,b,rfl,⟨_,SqL.of hb⟩,for_enum (K:=K) (a:=b) (xs:=xs) (fun i σ H2=>∃(v2 v3:Option V),σ=[some (.ref a),some (.ref b),v2,v3]/\Same H H2)
   ⟨none,none,rfl,Same.refl H⟩ (fun i σ H2 _ ⟨_,_,_,s2⟩=>SqL.of (s2 _ _ hb)) ?_ ?_⟩
  ·rintro i x σ H2 p hx ⟨v2,v3,rfl,s2⟩ hp
   obtain⟨r,hri,ra,rfl,hra,okr⟩:=Paired.get hrs hx
   have s3:Same H (upd H2 p (.tup [.int i,.ref ra])):=s2.trans (Same.new hp)
   have hil:i<ns.length:=by rw [<-hlen];exact(List.getElem?_eq_some_iff.mp hri).1
   have e:(ns.map V.int)[i]? =some (V.int ns[i]):=by simp [hil]
   refine⟨_,rfl,_,rfl,a,_,_,_,rfl,rfl,SqL.of (s3 _ _ ha),atI_nat e,_,_,_,rfl,_,rfl,?_⟩
   have ok:=good.ok _ (List.getElem_mem hil)
   rw [decide_eq_true (show(1:Int)<=ns[i]/\ns[i]<=9 from ok)]
   refine iteF ?_
   refine⟨_,rfl,ra,r,rfl,s3 _ _ hra,okr,fun H4 s4=>⟨_,rfl,iteF ?_⟩⟩
   exact⟨_,_,rfl,s3.trans s4⟩
  ·rintro σ H2 ⟨v2,v3,rfl,s2⟩
   exact q H2 s2
theorem scInit:FnScope ["self","sizes","rims"] ["self","sizes","rims"] (defScope sInit):=⟨rfl,rfl,rfl,by decide+kernel,rfl,by decide+kernel,by decide+kernel⟩
theorem ok_init {C f f1 f2:Addr} {fd fd1 fd2:FuncData} (F:Fun K "__init__" "Grid.__init__" sInit f fd) (F1:Fun K "check_lines" "check_lines" sCheck f1 fd1) (m1:mg "check_lines"=some (.ref f1)) (b1:Binds K fd1 ["sizes","rims"] [])
  (G1:FnOk P w K mg base CX0 4 f1 fd1 ["sizes","rims"] spCheck) (F2:Fun K "product" "product" sProd f2 fd2) (m2:mg "product"=some (.ref f2)) (b2:Binds K fd2 ["sizes"] []) (T:Txt K mg) (TC:Cl K C):
  FnOk P w K mg base CX0 5 f fd ["self","sizes","rims"] (spInit C):=by
 have G2:FnOk P w K mg base CX0 1 f2 fd2 ["sizes"] spProd:=ok_prod F2
 refine F.ok scInit (fun vs H Q E h=>?_) (fun cdv A outer s H vs Q E hr h=>?_)
 ·obtain⟨g,dx,a,b,ns,xs,rs,rfl,_⟩:=h
  rfl
 ·obtain⟨g,dx,a,b,ns,xs,rs,rfl,hg,ha,hb,hrs,hlen,good,q⟩:=h
  obtain⟨tm,mp⟩:=T.mp
  refine⟨_,pss_cons (ps_expr (pe_call G1 hr rfl m1 F1.kp b1 .nil pass0 (pa_cons (pv 1) (pa_cons (pv 2) pa_nil))))
   (pss_cons (ps_if (pt_cmpR op_gt (pe_call G2 (hr.mono (by decide)) rfl m2 F2.kp b2 .nil pass0 (pa_cons (pv 1) pa_nil)) (pe_gint rfl mp) (nomark _)) pss_never pss_nil)
   (pss_cons (ps_fld (pv 0) (pe_callTy call_list_of rfl T.list boot_list (pa_cons (pv 1) pa_nil)) rfl)
   (pss_one (ps_fld (pv 0) (pe_callTy call_list_of rfl T.list boot_list (pa_cons (pv 2) pa_nil)) rfl)))),?_⟩
  refine⟨_,rfl,_,rfl,a,b,ns,xs,rs,rfl,ha,hb,hrs,hlen,good,fun H1 s1=>?_⟩
  refine⟨_,rfl,a,ns,rfl,s1 _ _ ha,good.ok,_,_,rfl,rfl,_,rfl,?_⟩
  have c1:decide ((40:Int)<prodL ns)=false:=decide_eq_false (by have:=good.many;omega)
  rw [c1]
  refine iteF ?_
  have g1:=s1 _ _ hg
  have a1:=s1 _ _ ha
  have b1:=s1 _ _ hb
  have hga:g≠a:=ne_of g1 a1 (by intro z;cases z)
  have hgb:g≠b:=ne_of g1 b1 (by intro z;cases z)
  refine⟨_,rfl,a,_,rfl,.inl (SqL.of a1),fun la hla=>?_⟩
  have nga:g≠la:=ne_of_none g1 hla
  refine⟨_,rfl,g,C,dx,[],rfl,(by rw [upd_ne nga];exact g1),TC.cl,TC.nS,(by show 0<1000;decide),?_⟩
  refine⟨_,rfl,b,_,rfl,.inl (SqL.of (by rw [upd_ne (Ne.symm hgb),upd_ne (ne_of_none b1 hla)];exact b1)),fun lb hlb=>?_⟩
  have ngb:g≠lb:=ne_of_none upd_same hlb
  have nab:la≠lb:=ne_of_none (o:= .lst (ns.map V.int)) (by rw [upd_ne (Ne.symm nga),upd_same]) hlb
  refine⟨_,rfl,g,C,dx,_,rfl,(by rw [upd_ne ngb,upd_same]),TC.cl,TC.nR,(by show 1<1000;decide),?_⟩
  have keep:∀c o,H c=some o->c≠g->(upd (upd (upd (upd H1 la (.lst (ns.map V.int))) g (.ins C dx (putF "sizes" (.ref la) []))) lb (.lst xs)) g (.ins C dx (putF "rims" (.ref lb) (putF "sizes" (.ref la) [])))) c=some o:=fun c o e hc=>by
   have e1:=s1 _ _ e
   have n1:c≠la:=ne_of_none e1 hla
   have n2:c≠lb:=ne_of_none (o:=o) (by rw [upd_ne hc,upd_ne n1];exact e1) hlb
   rw [upd_ne hc,upd_ne n2,upd_ne hc,upd_ne n1]
   exact e1
  refine q _ keep ⟨⟨dx,la,lb,upd_same,?_,?_⟩,RimsAt.mono (fun c ys e=>keep c _ e (ne_of e hg (by intro z;cases z))) hrs,hlen,good⟩
  ·rw [upd_ne (Ne.symm nga),upd_ne nab,upd_ne (Ne.symm nga),upd_same]
  ·rw [upd_ne (Ne.symm ngb),upd_same]
end
end KG
namespace KG
open PySem PyProof.Rows L2 G3
def Kn (H:Hp):V->Prop
 | .non=>True
 | .bl _=>True
 | .int _=>True
 | .str _=>True
 | .ref a=>(∃xs,H a=some (.lst xs))∨∃xs,H a=some (.tup xs)
 |_=>False
theorem Kn.mono {H H':Hp} (s:∀a o,H a=some o->(∃xs,o= .lst xs)∨(∃xs,o= .tup xs)->∃o',H' a=some o'/\((∃xs,o'= .lst xs)∨∃xs,o'= .tup xs)) {v:V} (h:Kn H v):Kn H' v:=by
 cases v with
 |ref a=>
  rcases h with ⟨xs,e⟩|⟨xs,e⟩
  ·obtain⟨o',e',z⟩:=s a _ e (.inl ⟨xs,rfl⟩)
   rcases z with ⟨ys,rfl⟩|⟨ys,rfl⟩
   ·exact .inl ⟨ys,e'⟩
   ·exact .inr ⟨ys,e'⟩
  ·obtain⟨o',e',z⟩:=s a _ e (.inr ⟨xs,rfl⟩)
   rcases z with ⟨ys,rfl⟩|⟨ys,rfl⟩
   ·exact .inl ⟨ys,e'⟩
   ·exact .inr ⟨ys,e'⟩
 |non=>trivial
 |bl _=>trivial
 |int _=>trivial
 |str _=>trivial
 |byt _=>exact h.elim
 |flt _=>exact h.elim
 |ty _=>exact h.elim
theorem Kn.same {H H':Hp} (s:Same H H') {v:V} (h:Kn H v):Kn H' v:=h.mono fun a o e z=>⟨o,s a o e,z⟩
structure Th (H:Hp) (v:V):Prop where
 kn:Kn H v
 its:∀a xs,v= .ref a->H a=some (.tup xs)->∀x∈xs,Kn H x
def tI:V->Bool
 | .int _=>true
 | .bl _=>true
 |_=>false
def tBo:V->Bool
 | .bl _=>true
 |_=>false
def tTu (H:Hp):V->Bool
 | .ref a=>(match H a with|some (.tup _)=>true|_=>false)
 |_=>false
def isInt:V->Bool
 | .int _=>true
 |_=>false
def inB (x:V) (lo hi:Int):Bool:=match x with
 | .int n=>decide (lo<=n/\n<=hi)
 |_=>false
def allZ:List V->List Int->Bool
 |x::xs,n::ns=>inB x 0 (n-1) && allZ xs ns
 |_,_=>true
def plB (xs:List V) (ns:List Int):Bool:=decide (xs.length=ns.length) && allZ xs ns
def Res (H:Hp) (v:V) (ns:List Int) (b:Bool):Prop:=(∃a xs,v= .ref a/\H a=some (.tup xs)/\b=plB xs ns)∨((∀a xs,v= .ref a->H a≠some (.tup xs))/\b=false)
theorem Res.uniq {H:Hp} {v:V} {ns:List Int} {b c:Bool} (h:Res H v ns b) (h':Res H v ns c):b=c:=by
 rcases h with ⟨a,xs,rfl,e,rfl⟩|⟨n,rfl⟩
 ·rcases h' with ⟨a',xs',q,e',rfl⟩|⟨n,_⟩
  ·cases q
   rw [e]at e'
   cases e'
   rfl
  ·exact absurd e (n a xs rfl)
 ·rcases h' with ⟨a',xs',q,e',_⟩|⟨_,rfl⟩
  ·exact absurd e' (n a' xs' q)
  ·rfl
theorem Res.same {H H':Hp} {v:V} {ns:List Int} {b:Bool} (k:Kn H v) (s:Same H H') (h:Res H' v ns b):Res H v ns b:=by
 rcases h with ⟨a,xs,rfl,e,rfl⟩|⟨n,rfl⟩
 ·rcases k with ⟨ys,q⟩|⟨ys,q⟩
  ·rw [s _ _ q]at e
   cases e
  ·rw [s _ _ q]at e
   cases e
   exact .inl ⟨a,_,rfl,q,rfl⟩
 ·exact .inr ⟨fun a xs q e=>n a xs q (s _ _ e),rfl⟩
def spWholeG:Sp:=fun vs H Q _=>∃x:V,vs=[x]/\Kn H x/\Q (.bl (isInt x)) H
def spWithinG:Sp:=fun vs H Q _=>∃(x:V) (lo hi:Int),vs=[x,.int lo,.int hi]/\Kn H x/\Q (.bl (inB x lo hi)) H
def spLines (C:Addr):Sp:=fun vs H Q _=>∃(g:Addr) (ns:List Int) (xs:List V) (rs:List Rim),vs=[.ref g]/\GridAt C H g ns xs rs/\Q (.int (ns.length:Int)) H
def spMany (C:Addr):Sp:=fun vs H Q _=>∃(g:Addr) (ns:List Int) (xs:List V) (rs:List Rim),vs=[.ref g]/\GridAt C H g ns xs rs/\Q (.int (prodL ns)) H
def spHas (C:Addr):Sp:=fun vs H Q _=>∃(g:Addr) (v:V) (ns:List Int) (xs:List V) (rs:List Rim),vs=[.ref g,v]/\GridAt C H g ns xs rs/\Th H v/\∀b H',Res H v ns b->Same H H'->Q (.bl b) H'
theorem iteTe {c:Bool} {A B:Prop} (hc:c=true) (h:A):if c=true then A else B:=by
 rw [if_pos hc]
 exact h
theorem iteFe {c:Bool} {A B:Prop} (hc:c=false) (h:B):if c=true then A else B:=by
 rw [if_neg (by rw [hc];exact Bool.false_ne_true)]
 exact h
theorem allZ_take:∀(xs:List V) (ns:List Int) (i:Nat) (x:V) (n:Int),xs[i]? =some x->ns[i]? =some n->allZ (xs.take (i+1)) (ns.take (i+1))=(allZ (xs.take i) (ns.take i) && inB x 0 (n-1))
 | [],_,_,_,_,h,_=>by simp at h
 |_::_,[],_,_,_,_,h=>by simp at h
 |y::xs,m::ns,0,x,n,h1,h2=>by
  simp at h1 h2
  subst h1 h2
  simp [allZ]
 |y::xs,m::ns,i+1,x,n,h1,h2=>by
  have ih:=allZ_take xs ns i x n (by simpa using h1) (by simpa using h2)
  show(inB y 0 (m-1) && allZ (xs.take (i+1)) (ns.take (i+1)))=((inB y 0 (m-1) && allZ (xs.take i) (ns.take i)) && inB x 0 (n-1))
  rw [ih,Bool.and_assoc]
abbrev scNs:Scope:={kind:= .function,names:=[(PySem.Str.ofString ".0",.local),(PySem.Str.ofString "number",.local),(PySem.Str.ofString "size",.local),(PySem.Str.ofString "is_within",.globalImplicit)],isGenerator:=false,isCoroutine:=false,more:=[]}
theorem ndNs:(["number","size"]:List Str).Nodup:=by decide+kernel
section
variable {P:Program} {w:World} {K:W.Frag} {mg:Str->Option Value} {base:Heap}
theorem tyInt {H:Hp} {x:V} (h:Kn H x):∃t,TyOf K H x t/\PySem.W.kitOne K t (.type "int")=some (tI x)/\PySem.W.kitOne K t (.type "bool")=some (tBo x)/\
  PySem.W.kitOne K t (.type "tuple")=some (tTu H x):=by
 cases x with
 |non=>exact⟨_,.non,rfl,rfl,rfl⟩
 |bl b=>exact⟨_,.bl b,rfl,rfl,rfl⟩
 |int n=>exact⟨_,.int n,rfl,rfl,rfl⟩
 |str z=>exact⟨_,.str z,rfl,rfl,rfl⟩
 |ref a=>
  rcases h with ⟨xs,e⟩|⟨xs,e⟩
  ·exact⟨_,.lst e,rfl,rfl,by unfold tTu;simp only [e];rfl⟩
  ·exact⟨_,.tup e,rfl,rfl,by unfold tTu;simp only [e];rfl⟩
 |byt _=>exact h.elim
 |flt _=>exact h.elim
 |ty _=>exact h.elim
theorem ok_wholeG {f:Addr} {fd:FuncData} (F:Fun K "is_whole" "is_whole" sWhole f fd) (T:Txt K mg):FnOk P w K mg base CX0 1 f fd ["thing"] spWholeG:=by
 refine F.ok scWhole (fun vs H Q E h=>?_) (fun cdv A outer s H vs Q E hr h=>?_)
 ·obtain⟨x,rfl,_⟩:=h
  rfl
 ·obtain⟨x,rfl,kn,k⟩:=h
  obtain⟨t,ty,k1,k2,_⟩:=tyInt (K:=K) kn
  refine⟨_,pss_one (ps_ret (pe_and (pe_callB call_isinst rfl T.isinstance boot_isinstance (pa_cons (pv 0) (pa_cons (pe_ty rfl T.int boot_int) pa_nil)))
   (pe_one (pe_not (pe_callB call_isinst rfl T.isinstance boot_isinstance (pa_cons (pv 0) (pa_cons (pe_ty rfl T.bool boot_bool) pa_nil))))))),?_⟩
  refine⟨_,rfl,_,_,_,_,rfl,ty,k1,_,rfl,?_⟩
  cases x with
  |int n=>exact iteT ⟨_,rfl,_,_,_,_,rfl,ty,k2,_,rfl,k⟩
  |bl b=>exact iteT ⟨_,rfl,_,_,_,_,rfl,ty,k2,_,rfl,k⟩
  |non=>exact iteF k
  |str z=>exact iteF k
  |ref a=>exact iteF k
  |byt _=>exact kn.elim
  |flt _=>exact kn.elim
  |ty _=>exact kn.elim
theorem ok_withinG {f f1:Addr} {fd fd1:FuncData} (F:Fun K "is_within" "is_within" sWithin f fd) (F1:Fun K "is_whole" "is_whole" sWhole f1 fd1) (m1:mg "is_whole"=some (.ref f1)) (b1:Binds K fd1 ["thing"] []) (T:Txt K mg):
  FnOk P w K mg base CX0 2 f fd ["thing","least","most"] spWithinG:=by
 have G1:FnOk P w K mg base CX0 1 f1 fd1 ["thing"] spWholeG:=ok_wholeG F1 T
 refine F.ok scWithin (fun vs H Q E h=>?_) (fun cdv A outer s H vs Q E hr h=>?_)
 ·obtain⟨x,lo,hi,rfl,_⟩:=h
  rfl
 ·obtain⟨x,lo,hi,rfl,kn,k⟩:=h
  refine⟨_,pss_one (ps_ret (pe_and (pe_call G1 hr rfl m1 F1.kp b1 .nil pass0 (pa_cons (pv 0) pa_nil)) (pe_one (pe_chain op_le op_le (pv 1) (pv 0) (pv 2))))),?_⟩
  refine⟨_,rfl,x,rfl,kn,_,rfl,?_⟩
  cases x with
  |int n=>
   refine iteT ⟨_,rfl,_,rfl,_,_,rfl,rfl,_,rfl,?_⟩
   by_cases h1:lo<=n
   ·rw [decide_eq_true h1]
    refine iteT ⟨_,rfl,_,_,rfl,rfl,?_⟩
    have e:decide (n<=hi)=decide (lo<=n/\n<=hi):=by simp [h1]
    show Q (.bl (decide (n<=hi))) H
    rw [e]
    exact k
   ·rw [decide_eq_false h1]
    refine iteF ?_
    have e:false=decide (lo<=n/\n<=hi):=by simp [h1]
    show Q (.bl false) H
    rw [e]
    exact k
  |bl b=>exact iteF k
  |non=>exact iteF k
  |str z=>exact iteF k
  |ref a=>exact iteF k
  |byt _=>exact kn.elim
  |flt _=>exact kn.elim
  |ty _=>exact kn.elim
theorem scLines:FnScope ["self"] ["self"] (defScope sLines):=⟨rfl,rfl,rfl,by decide+kernel,rfl,by decide+kernel,by decide+kernel⟩
theorem ok_lines {C f:Addr} {fd:FuncData} (F:Fun K "lines" "Grid.lines" sLines f fd) (T:Txt K mg) (TC:Cl K C):FnOk P w K mg base CX0 1 f fd ["self"] (spLines C):=by
 refine F.ok scLines (fun vs H Q E h=>?_) (fun cdv A outer s H vs Q E hr h=>?_)
 ·obtain⟨g,ns,xs,rs,rfl,_⟩:=h
  rfl
 ·obtain⟨g,ns,xs,rs,rfl,⟨⟨dx,sa,ra,hg,hsa,hra⟩,_,_,_⟩,k⟩:=h
  refine⟨_,pss_one (ps_ret (pe_callB call_len_seq (by rfl) T.len PySem.boot_len (pa_cons (pe_fld (pv 0) rfl) pa_nil))),?_⟩
  refine⟨_,rfl,g,C,dx,_,_,rfl,hg,TC.cl,TC.nS,flds_sizes _ _,sa,_,rfl,.inl (SqL.of hsa),?_⟩
  show Q (.int ((ns.map V.int).length:Int)) H
  rw [List.length_map]
  exact k
theorem scMany:FnScope ["self"] ["self"] (defScope sMany):=⟨rfl,rfl,rfl,by decide+kernel,rfl,by decide+kernel,by decide+kernel⟩
theorem ok_many {C f f1:Addr} {fd fd1:FuncData} (F:Fun K "places_many" "Grid.places_many" sMany f fd) (F1:Fun K "product" "product" sProd f1 fd1) (m1:mg "product"=some (.ref f1)) (b1:Binds K fd1 ["sizes"] []) (TC:Cl K C):FnOk P w K mg base CX0 2 f fd ["self"] (spMany C):=by
 have G1:FnOk P w K mg base CX0 1 f1 fd1 ["sizes"] spProd:=ok_prod F1
 refine F.ok scMany (fun vs H Q E h=>?_) (fun cdv A outer s H vs Q E hr h=>?_)
 ·obtain⟨g,ns,xs,rs,rfl,_⟩:=h
  rfl
 ·obtain⟨g,ns,xs,rs,rfl,⟨⟨dx,sa,ra,hg,hsa,hra⟩,_,_,good⟩,k⟩:=h
  refine⟨_,pss_one (ps_ret (pe_call G1 hr rfl m1 F1.kp b1 .nil pass0 (pa_cons (pe_fld (pv 0) rfl) pa_nil))),?_⟩
  exact⟨_,rfl,g,C,dx,_,_,rfl,hg,TC.cl,TC.nS,flds_sizes _ _,sa,ns,rfl,hsa,good.ok,k⟩
theorem scHas:FnScope ["self","thing"] ["self","thing"] (defScope sHas):=⟨rfl,rfl,rfl,by decide+kernel,rfl,by decide+kernel,by decide+kernel⟩
theorem ok_has {C f f1 f2:Addr} {fd fd1 fd2:FuncData} (F:Fun K "has_place" "Grid.has_place" sHas f fd) (F1:Fun K "is_within" "is_within" sWithin f1 fd1) (m1:mg "is_within"=some (.ref f1)) (b1:Binds K fd1 ["thing","least","most"] [])
  (G1:FnOk P w K mg base CX0 2 f1 fd1 ["thing","least","most"] spWithinG) (b2:Binds K fd2 ["self"] []) (m2:Meth K C "lines" f2) (G2:FnOk P w K mg base CX0 1 f2 fd2 ["self"] (spLines C)) (T:Txt K mg) (TC:Cl K C):FnOk P w K mg base CX0 3 f fd ["self","thing"] (spHas C):=by
 refine F.ok scHas (fun vs H Q E h=>?_) (fun cdv A outer s H vs Q E hr h=>?_)
 ·obtain⟨g,v,ns,xs,rs,rfl,_⟩:=h
  rfl
 ·obtain⟨g,v,ns,xs,rs,rfl,GA,th,k⟩:=h
  have GA0:=GA
  obtain⟨⟨dx,sa,ra,hg,hsa,hra⟩,_,_,good⟩:=GA
  have hr1:Room 1 _:=hr.mono (by decide)
  obtain⟨cl,S⟩:∃cl,CompScope (cxOf CX0 P w K mg base ["self","thing"] "Grid.has_place" (defScope sHas) f cdv A outer s H E).nox scNs [] cl:=
   comp_scope (fun x h=>cell_has h) rfl (by decide+kernel) (by decide+kernel) (show∀y∈scNs.names,y.2= .free->(defScope sHas).names.lookup y.1=some .cell by decide+kernel) (fun p hp=>by cases hp)
  obtain⟨t,ty,_,_,k3⟩:=tyInt (K:=K) th.kn
  refine⟨_,pss_cons (ps_if (PW.pt (pw_or (pt_not (pt_val (pe_callB call_isinst rfl T.isinstance boot_isinstance (pa_cons (pv 1) (pa_cons (pe_ty rfl T.tuple boot_tuple) pa_nil)))))
    (pw_or1 (pt_cmpR op_ne (pe_callB call_len_seq (by rfl) T.len PySem.boot_len (pa_cons (pv 1) pa_nil)) (pe_meth0 (pv 0) TC.cl m2 G2 hr1 b2 .nil pass0) (nomark _))))) (pss_one (ps_ret pe_bl)) pss_nil)
   (pss_one (ps_ret (pe_callB call_all rfl T.all boot_all (pa_cons (pe_comp (own:=["number","size"]) (g:=gPair K 0 1) S rfl (pi_zip rfl T.zip (pa_cons (pv 1) (pa_cons (pe_fld (pv 0) rfl) pa_nil)))
    (fun C s2 H2 fp=>pg_tup rfl (pgs_cons (pg_name (i:=0) ndNs rfl (Or.inl rfl) (Or.inr rfl)) (pgs_cons (pg_name (i:=1) ndNs rfl (Or.inl rfl) (Or.inr rfl)) pgs_nil)))
    (fun C s2 H2 fp=>pe_call G1 hr rfl m1 F1.kp b1 .nil pass0 (pa_cons (pv 0) (pa_cons pe_int (pa_cons (pe_op op_sub (pv 1) pe_int) pa_nil))))) pa_nil)))),?_⟩
  refine⟨_,rfl,_,_,_,_,rfl,ty,k3,_,rfl,?_⟩
  have no:(∀a xs,v= .ref a->H a≠some (.tup xs))->Q (.bl false) H:=fun hn=>k false H (.inr ⟨hn,rfl⟩) (Same.refl H)
  have hkn:=th.kn
  cases v with
  |non=>exact iteT (no fun a xs q=>by cases q)
  |bl b=>exact iteT (no fun a xs q=>by cases q)
  |int n=>exact iteT (no fun a xs q=>by cases q)
  |str z=>exact iteT (no fun a xs q=>by cases q)
  |byt _=>exact hkn.elim
  |flt _=>exact hkn.elim
  |ty _=>exact hkn.elim
  |ref a=>
   rcases hkn with ⟨ys,e⟩|⟨ys,e⟩
   ·refine iteTe (by unfold tTu;simp only [e];rfl) (no fun a' zs q e'=>?_)
    cases q
    rw [e]at e'
    cases e'
   ·refine iteFe (by unfold tTu;simp only [e];rfl) ?_
    refine⟨_,rfl,a,_,rfl,.inr (SqT.of e),_,rfl,g,dx,_,rfl,hg,flds_no _ _ (by decide+kernel) (by decide+kernel),g,ns,xs,rs,rfl,GA0,rfl,_,rfl,?_⟩
    by_cases hl:ys.length=ns.length
    ·refine iteFe (by rw [hl];simp) ?_
     refine⟨_,rfl,_,rfl,g,C,dx,_,_,rfl,hg,TC.cl,TC.nS,flds_sizes _ _,a,sa,rfl,⟨_,SqT.of e⟩,⟨_,SqL.of hsa⟩,fun D hD=>?_⟩
     refine comp_zip (K:=K) (a:=a) (b:=sa) (D:=D) (xs:=ys) (ys:=ns.map V.int) (ni:=0) (nj:=1) (by rw [List.length_map];exact hl)
      (fun i acc σc H3=>(∃v0 v1,σc=[v0,v1])/\Same H H3/\H3 D=some (.lst acc)/\∃bs:List Bool,acc=bs.map V.bl/\bs.length=i/\bs.all id=allZ (ys.take i) (ns.take i)) ?_ ?_ ?_ ?_
     ·exact⟨⟨none,none,rfl⟩,Same.new hD,upd_same,[],rfl,rfl,by simp [allZ]⟩
     ·rintro i acc σc H3 _ ⟨_,s3,_⟩
      exact⟨SqT.of (s3 _ _ e),SqL.of (s3 _ _ hsa)⟩
     ·rintro i x y acc σc H3 p hi hx hy ⟨⟨v0,v1,rfl⟩,s3,hD3,bs,rfl,hbl,hba⟩ hp
      obtain⟨n,rfl,hn⟩:=get_map hy
      have s4:Same H3 (upd H3 p (.tup [x,.int n])):=Same.new hp
      have kx:Kn (upd H3 p (.tup [x,.int n])) x:=(th.its a ys rfl e x (List.mem_of_getElem? hx)).same (s3.trans s4)
      refine⟨_,rfl,_,rfl,_,_,rfl,rfl,x,0,n-1,rfl,kx,?_⟩
      refine cturn (s4 _ _ hD3) (small1000 (by rw [List.length_map];have:=good.few;omega)) hi ⟨⟨_,_,rfl⟩,fun b o q=>?_,upd_same,bs++[inB x 0 (n-1)],?_,?_,?_⟩
      ·have hDn:H D=none:=hD
       rw [upd_ne (ne_of_none q hDn)]
       exact s4 _ _ (s3 _ _ q)
      ·rw [List.map_append]
       rfl
      ·rw [List.length_append,hbl]
       rfl
      ·rw [allZ_take ys ns i x n hx hn, <-hba,List.all_append]
       simp
     ·rintro acc σc H3 ⟨_,s3,hD3,bs,rfl,hbl,hba⟩
      refine⟨D,bs,rfl,SqL.of hD3,rfl,?_⟩
      have e2:bs.all id=plB ys ns:=by
       rw [hba,hl,List.take_length]
       have e3:ys.take ns.length=ys:=by rw [<-hl,List.take_length]
       rw [e3]
       unfold plB
       rw [decide_eq_true hl,Bool.true_and]
      show Q (.bl (bs.all id)) H3
      rw [e2]
      exact k _ H3 (.inl ⟨a,ys,rfl,e,rfl⟩) s3
    ·refine iteTe (by
      have:¬(V.int (ys.length:Int)=V.int (ns.length:Int)):=fun q=>hl (by injection q with q2;omega)
      rw [decide_eq_false this]
      rfl) ?_
     refine k false H (.inl ⟨a,ys,rfl,e,?_⟩) (Same.refl H)
     unfold plB
     rw [decide_eq_false hl,Bool.false_and]
end
end KG
namespace KG
open PySem PyProof.Rows L2 G3
section
variable {P:Program} {w:World} {K:W.Frag} {mg:Str->Option Value} {base:Heap}
end
end KG
namespace KG
open PySem PyProof.Rows L2 G3
section
variable {P:Program} {w:World} {K:W.Frag} {mg:Str->Option Value} {base:Heap}
theorem scAll:FnScope ["self","places","size"] ["self"] (defScope sAll):=⟨rfl,rfl,rfl,by decide+kernel,rfl,by decide+kernel,by decide+kernel⟩
theorem ok_all {C f f1:Addr} {fd fd1:FuncData} (F:Fun K "all_places" "Grid.all_places" sAll f fd) (F1:Fun K "with_line" "with_line" sWl f1 fd1) (m1:mg "with_line"=some (.ref f1)) (b1:Binds K fd1 ["places","size"] []) (T:Txt K mg) (TC:Cl K C):
  FnOk P w K mg base CX0 2 f fd ["self"] (spAll C):=by
 have G1:FnOk P w K mg base CX0 1 f1 fd1 ["places","size"] spWl:=ok_wl F1 T
 refine F.ok scAll (fun vs H Q E h=>?_) (fun cdv A outer s H vs Q E hr h=>?_)
 ·obtain⟨g,ns,xs,rs,rfl,_⟩:=h
  rfl
 ·obtain⟨g,ns,xs,rs,rfl,⟨⟨dx,sa,ra,hg,hsa,hra⟩,hrs,hlen,good⟩,q⟩:=h
  refine⟨_,pss_cons (ps_set (i:=1) scAll.nd rfl (Or.inl rfl) (pe_lst (pa_cons (pe_tup pa_nil) pa_nil)))
   (pss_cons (ps_for PassesOwn.never rfl (pi_list (pe_fld (pv 0) rfl)) (pg_name (i:=2) scAll.nd rfl (Or.inl rfl))
    (pss_one (ps_set (i:=1) scAll.nd rfl (Or.inl rfl) (pe_call G1 hr rfl m1 F1.kp b1 .nil pass0 (pa_cons (pv 1) (pa_cons (pv 2) pa_nil))))))
   (pss_one (ps_ret (pv 1)))),?_⟩
  refine⟨Nat.zero_le _,fun t ht=>⟨(by show 1<=sizeLine;decide),fun l hl=>?_⟩⟩
  have s1:Same H (upd H t (.tup [])):=Same.new ht
  have s2:Same (upd H t (.tup [])) (upd (upd H t (.tup [])) l (.lst [.ref t])):=Same.new hl
  have s12:=s1.trans s2
  refine⟨_,rfl,g,C,dx,_,_,rfl,s12 _ _ hg,TC.cl,TC.nS,flds_sizes _ _,sa,rfl,⟨_,SqL.of (s12 _ _ hsa)⟩,?_⟩
  refine for_list (K:=K) (a:=sa) (xs:=ns.map V.int) (fun i σ H2=>∃(l:Addr) (ys:List V) (v2:Option V),σ=[some (.ref g),some (.ref l),v2]/\Same H H2/\H2 l=some (.lst ys)/\PtsT H2 ys (places (ns.take i)))
   ⟨l,[.ref t],none,rfl,s12,upd_same,.cons ⟨t,rfl,s2 _ _ upd_same⟩ .nil⟩ (fun i σ H2 _ ⟨_,_,_,_,s3,_⟩=>SqL.of (s3 _ _ hsa)) ?_ ?_
  ·rintro i x σ H2 hx ⟨l2,ys,v2,rfl,s3,hl2,pt⟩
   obtain⟨n,rfl,hn⟩:=get_map hx
   have hil:i<ns.length:=(List.getElem?_eq_some_iff.mp hn).1
   have okn:=good.ok n (List.mem_of_getElem? hn)
   have hok:∀m∈ns.take i,OkSize m:=fun m hm=>good.ok m (List.mem_of_mem_take hm)
   have hlt:(ns.take i).length=i:=by rw [List.length_take];omega
   have hi2:i<=2:=by have:=good.few;omega
   have c1:(places (ns.take i)).length<=1000:=by
    have:=places_len (ns.take i) [[]] hok
    rw [hlt]at this
    have h9:9 ^ i<=9 ^ 2:=Nat.pow_le_pow_right (by decide) hi2
    show((ns.take i).foldl wl [[]]).length<=1000
    have e:([[]]:List (List Int)).length=1:=rfl
    rw [e]at this
    omega
   have c2:∀p∈places (ns.take i),p.length<=10:=fun p hp=>by
    have:=places_lens (ns.take i) [[]] 0 (by simp) p hp
    rw [hlt]at this
    omega
   refine⟨_,rfl,_,rfl,l2,ys,_,n,rfl,hl2,pt,okn,c1,c2,fun q2 zs H4 s4 hq2 pt4=>?_⟩
   refine⟨q2,zs,some (.int n),rfl,s3.trans s4,hq2,?_⟩
   rw [take_snoc hn,places_snoc]
   exact pt4
  ·rintro σ H2 ⟨l2,ys,v2,rfl,s3,hl2,pt⟩
   rw [List.length_map,List.take_length]at pt
   exact⟨_,rfl,q l2 ys H2 s3 hl2 pt⟩
end
end KG
namespace KJ
open PySem PyProof.Rows L2
def top (i:Nat):Stmt:=PySem.Challenge.pw_slanttiles_k22_spots_of_a_job.main.body.getD i (.Pass ⟨0,0,0,0⟩)
abbrev sWhole:Stmt:=top 7
abbrev sWithin:Stmt:=top 8
abbrev sAreSteps:Stmt:=top 29
abbrev sLinesOf:Stmt:=top 30
abbrev sFirst:Stmt:=top 31
abbrev sCheckT:Stmt:=top 32
abbrev sAreRows:Stmt:=top 38
abbrev sIsRow:Stmt:=top 39
abbrev sCell:Stmt:=top 54
abbrev sWell:Stmt:=top 55
abbrev sDraw:Stmt:=top 56
abbrev sSteps:Stmt:=top 59
abbrev sSome:Stmt:=top 60
abbrev sNumber:Stmt:=top 61
abbrev sTold:Stmt:=top 62
abbrev sMade:Stmt:=top 63
abbrev sTakes:Stmt:=top 64
abbrev sJob:Stmt:=top 65
abbrev sJobOf:Stmt:=top 66
abbrev sPlacesL:Stmt:=top 67
abbrev sThings:Stmt:=top 68
abbrev sWholeL:Stmt:=top 69
abbrev sIsSpotL:Stmt:=top 70
abbrev sLaw:Stmt:=top 71
abbrev sTInner:Stmt:=inClass (top 18) 0
abbrev sTFault:Stmt:=inClass (top 18) 1
abbrev sTTakes:Stmt:=inClass (top 18) 4
abbrev sTDepth:Stmt:=inClass (top 18) 5
abbrev sTParts:Stmt:=inClass (top 18) 6
abbrev sNInit:Stmt:=inClass (top 19) 0
abbrev sNFault:Stmt:=inClass (top 19) 1
abbrev sKInit:Stmt:=inClass (top 20) 0
abbrev sKFault:Stmt:=inClass (top 20) 1
abbrev sKTakes:Stmt:=inClass (top 20) 4
abbrev sPInit:Stmt:=inClass (top 21) 0
abbrev sPInner:Stmt:=inClass (top 21) 1
abbrev sRInit:Stmt:=inClass (top 27) 0
abbrev sRInner:Stmt:=inClass (top 27) 1
abbrev sRFault:Stmt:=inClass (top 27) 2
abbrev sCInit:Stmt:=inClass (top 28) 0
abbrev sCInner:Stmt:=inClass (top 28) 1
abbrev sJInit:Stmt:=inClass (top 37) 0
abbrev sDeep:Stmt:=inClass (top 37) 1
abbrev sSpots:Stmt:=inClass (top 37) 2
abbrev sIsSpot:Stmt:=inClass (top 37) 3
theorem Paired.get {α β:Type} {F:α->β->Prop}:∀{l₁:List α} {l₂:List β},Paired F l₁ l₂->∀{i:Nat} {x:α},l₁[i]? =some x->∃y,l₂[i]? =some y/\F x y
 |_,_,.nil,i,_,h=>by simp at h
 |_,_,.cons h _,0,_,e=>by simp at e;subst e;exact⟨_,rfl,h⟩
 |_,_,.cons _ t,i+1,x,e=>by
  obtain⟨y,h1,h2⟩:=Paired.get t (i:=i) (x:=x) (by simpa using e)
  exact⟨y,by simpa using h1,h2⟩
theorem Paired.snoc' {α β:Type} {F:α->β->Prop}:∀{l₁:List α} {l₂:List β} {x:α} {y:β},Paired F l₁ l₂->F x y->Paired F (l₁++[x]) (l₂++[y])
 |_,_,_,_,.nil,h=> .cons h .nil
 |_,_,_,_,.cons a t,h=> .cons a (Paired.snoc' t h)
theorem Paired.app {α β:Type} {F:α->β->Prop}:∀{l₁ m₁:List α} {l₂ m₂:List β},Paired F l₁ l₂->Paired F m₁ m₂->Paired F (l₁++m₁) (l₂++m₂)
 |_,_,_,_,.nil,h=>h
 |_,_,_,_,.cons a t,h=> .cons a (Paired.app t h)
abbrev natV (n:Nat):V:=V.int (n:Int)
def WellAt (H:Hp) (a:Addr):Prop:=∃x y z:Int,H a=some (.lst [.int x,.int y,.int z])
def Kp (a:Addr) (H H':Hp):Prop:=∀b o,H b=some o->b≠a->H' b=some o
theorem Kp.trans {a:Addr} {H H1 H2:Hp} (x:Kp a H H1) (y:Kp a H1 H2):Kp a H H2:=fun b o h n=>y b o (x b o h n) n
theorem Kp.same {a:Addr} {H H1 H2:Hp} (x:Kp a H H1) (y:Same H1 H2):Kp a H H2:=fun b o h n=>y b o (x b o h n)
theorem Kp.of {a:Addr} {H H':Hp} (x:Same H H'):Kp a H H':=fun b o h _=>x b o h
theorem sameNew {H:Hp} {p:Addr} {o:HO} (h:H p=none):Same H (upd H p o):=fun b u e=>by
 rw [upd_ne (ne_of_none e h)]
 exact e
theorem sameUpd {H H1:Hp} {p:Addr} {o:HO} (h:H p=none) (s:Same H H1):Same H (upd H1 p o):=fun b u e=>by
 rw [upd_ne (ne_of_none e h)]
 exact s b u e
theorem kpUpd {H:Hp} {p:Addr} {o:HO}:Kp p H (upd H p o):=fun b u e n=>by
 rw [upd_ne n]
 exact e
theorem Kp.tup {a b:Addr} {H H':Hp} {xs:List V} (k:Kp a H H') (w:WellAt H a) (h:H b=some (.tup xs)):H' b=some (.tup xs):=by
 obtain⟨x,y,z,e⟩:=w
 exact k b _ h (ne_of h e (by intro q;cases q))
theorem WellAt.new {H:Hp} {a p:Addr} {o:HO} (h:WellAt H a) (hp:H p=none):WellAt (upd H p o) a:=by
 obtain⟨x,y,z,e⟩:=h
 exact⟨x,y,z,by rw [upd_ne (ne_of_none e hp)];exact e⟩
theorem WellAt.ne {H:Hp} {a p:Addr} (h:WellAt H a) (hp:H p=none):p≠a:=by
 obtain⟨x,y,z,e⟩:=h
 exact Ne.symm (ne_of_none e hp)
theorem small {n:Nat} (h:n<=10000):n<sizeLine:=by
 have:(10000:Nat)<sizeLine:=by decide
 omega
theorem pe_ty {X:Cx} {x:Str} {n:String} {pos:Pos} (hg:Gl X x) (hm:X.mg x=none) (hv:bootBuiltins x=some (.type n)) (hn:x≠"__name__":=by decide) (hd:(x==("__debug__":Str))=false:=by decide):PE X (.Name x pos) (tC (.ty n)):=pe_bltn (v:= .ty n) hg hm hv rfl hn hd
structure Txt (K:W.Frag) (mg:Str->Option Value):Prop where
 isinstance:mg "isinstance"=none
 int:mg "int"=none
 list:mg "list"=none
 tuple:mg "tuple"=none
 len:mg "len"=none
 range:mg "range"=none
 max:mg "max"=none
 sorted:mg "sorted"=none
 sum:mg "sum"=none
 set:mg "set"=none
 bool:mg "bool"=none
 all:mg "all"=none
 min:mg "min"=none
 zip:mg "zip"=none
 enumerate:mg "enumerate"=none
 gn:∃t,mg "GREATEST_NUMBER"=some (.int 1000000000000 t)
 gd:∃t,mg "GREATEST_DIVISOR"=some (.int 1000000000 t)
 gb:∃t,mg "GREATEST_BACK"=some (.int 3 t)
 gst:∃t,mg "GREATEST_STEP"=some (.int 9 t)
 mst:∃t,mg "MOST_STEPS"=some (.int 3 t)
 mdp:∃t,mg "MOST_DEPTH"=some (.int 12 t)
 mpa:∃t,mg "MOST_PARTS"=some (.int 60 t)
 mtk:∃t,mg "MOST_TAKES"=some (.int 6 t)
 gmo:∃t,mg "GREATEST_MODULUS"=some (.int 1000000000 t)
 mro:∃t,mg "MOST_ROUNDS"=some (.int 12 t)
 msp:∃t,mg "MOST_SPOTS"=some (.int 120 t)
end KJ
namespace KJ
open PySem PyProof.Rows L2
inductive Tm where
 |num (n:Int)
 |take (b:Int) (ss:List Int)
 |rest (t:Tm) (y:Int)
 |cho (a b c:Tm)
 |bin (k:Fin 5) (a b:Tm)
abbrev Tk:Type:=Int×List Int
def opn (k:Fin 5):Str:=match k with|0=>"+"|1=>"-"|2=>"*"|3=>"min"|4=>"max"
def TupAt (H:Hp):Tm->V->Prop
 | .num n,v=>∃p,v= .ref p/\H p=some (.tup [.str "number",.int n])
 | .take b ss,v=>∃p q,v= .ref p/\H p=some (.tup [.str "take",.int b,.ref q])/\H q=some (.tup (ss.map V.int))
 | .rest t y,v=>∃p u,v= .ref p/\H p=some (.tup [.str "rest",u,.int y])/\TupAt H t u
 | .cho a b c,v=>∃p x y z,v= .ref p/\H p=some (.tup [.str "?",x,y,z])/\TupAt H a x/\TupAt H b y/\TupAt H c z
 | .bin k a b,v=>∃p x y,v= .ref p/\H p=some (.tup [.str (opn k),x,y])/\TupAt H a x/\TupAt H b y
theorem TupAt.mono {H H':Hp} (k:∀c zs,H c=some (.tup zs)->H' c=some (.tup zs)):∀{t:Tm} {v:V},TupAt H t v->TupAt H' t v
 | .num _,_,⟨p,e,h⟩=>⟨p,e,k _ _ h⟩
 | .take _ _,_,⟨p,q,e,h,h2⟩=>⟨p,q,e,k _ _ h,k _ _ h2⟩
 | .rest _ _,_,⟨p,u,e,h,h2⟩=>⟨p,u,e,k _ _ h,h2.mono k⟩
 | .cho _ _ _,_,⟨p,x,y,z,e,h,h1,h2,h3⟩=>⟨p,x,y,z,e,k _ _ h,h1.mono k,h2.mono k,h3.mono k⟩
 | .bin _ _ _,_,⟨p,x,y,e,h,h1,h2⟩=>⟨p,x,y,e,k _ _ h,h1.mono k,h2.mono k⟩
theorem TupAt.same {H H':Hp} (s:Same H H') {t:Tm} {v:V} (h:TupAt H t v):TupAt H' t v:=h.mono fun c _ e=>s c _ e
theorem TupAt.ref {H:Hp}:∀{t:Tm} {v:V},TupAt H t v->∃p xs,v= .ref p/\H p=some (.tup xs)
 | .num _,_,⟨p,e,h⟩=>⟨p,_,e,h⟩
 | .take _ _,_,⟨p,q,e,h,h2⟩=>⟨p,_,e,h⟩
 | .rest _ _,_,⟨p,u,e,h,h2⟩=>⟨p,_,e,h⟩
 | .cho _ _ _,_,⟨p,x,y,z,e,h,h1,h2,h3⟩=>⟨p,_,e,h⟩
 | .bin _ _ _,_,⟨p,x,y,e,h,h1,h2⟩=>⟨p,_,e,h⟩
structure Cn where
 num:Addr
 take:Addr
 rest:Addr
 cho:Addr
 bin:Fin 5->Addr
def cls (N:Cn):Tm->Addr
 | .num _=>N.num
 | .take _ _=>N.take
 | .rest _ _=>N.rest
 | .cho _ _ _=>N.cho
 | .bin k _ _=>N.bin k
def IsC (N:Cn) (C:Addr):Prop:=C=N.num∨C=N.take∨C=N.rest∨C=N.cho∨∃k,C=N.bin k
theorem isC (N:Cn):∀t:Tm,IsC N (cls N t)
 | .num _=> .inl rfl
 | .take _ _=> .inr (.inl rfl)
 | .rest _ _=> .inr (.inr (.inl rfl))
 | .cho _ _ _=> .inr (.inr (.inr (.inl rfl)))
 | .bin k _ _=> .inr (.inr (.inr (.inr ⟨k,rfl⟩)))
def FldAt (N:Cn) (H:Hp) (fs:List (Str×V)):Tm->Prop
 | .num n=>fs=[(("value":Str),V.int n)]
 | .take b ss=>∃q,fs=[(("back":Str),V.int b),(("steps":Str),V.ref q)]/\H q=some (.tup (ss.map V.int))
 | .rest t y=>∃p dx gs,fs=[(("one":Str),V.ref p),(("by":Str),V.int y)]/\H p=some (.ins (cls N t) dx gs)/\FldAt N H gs t
 | .cho a b c=>∃p dp ps q dq qs r dr rs,fs=[(("test":Str),V.ref p),(("one":Str),V.ref q),(("other":Str),V.ref r)]/\(H p=some (.ins (cls N a) dp ps)/\FldAt N H ps a)/\(H q=some (.ins (cls N b) dq qs)/\FldAt N H qs b)/\H r=some (.ins (cls N c) dr rs)/\FldAt N H rs c
 | .bin _ a b=>∃p dp ps q dq qs,fs=[(("one":Str),V.ref p),(("other":Str),V.ref q)]/\(H p=some (.ins (cls N a) dp ps)/\FldAt N H ps a)/\H q=some (.ins (cls N b) dq qs)/\FldAt N H qs b
def KpN (H H':Hp):Prop:=∀c o,H c=some o->(∀xs,o≠ .lst xs)->H' c=some o
theorem KpN.of {H H':Hp} (s:Same H H'):KpN H H':=fun c o e _=>s c o e
theorem FldAt.keep {N:Cn} {H H':Hp} (s:KpN H H'):∀{t:Tm} {fs:List (Str×V)},FldAt N H fs t->FldAt N H' fs t
 | .num _,_,h=>h
 | .take _ _,_,⟨q,e,h⟩=>⟨q,e,s _ _ h (by intro _ z;cases z)⟩
 | .rest _ _,_,⟨p,dx,gs,e,h,h2⟩=>⟨p,dx,gs,e,s _ _ h (by intro _ z;cases z),h2.keep s⟩
 | .cho _ _ _,_,⟨p,dp,ps,q,dq,qs,r,dr,rs,e,⟨h1,g1⟩,⟨h2,g2⟩,h3,g3⟩=>⟨p,dp,ps,q,dq,qs,r,dr,rs,e,⟨s _ _ h1 (by intro _ z;cases z),g1.keep s⟩,⟨s _ _ h2 (by intro _ z;cases z),g2.keep s⟩,s _ _ h3 (by intro _ z;cases z),g3.keep s⟩
 | .bin _ _ _,_,⟨p,dp,ps,q,dq,qs,e,⟨h1,g1⟩,h2,g2⟩=>⟨p,dp,ps,q,dq,qs,e,⟨s _ _ h1 (by intro _ z;cases z),g1.keep s⟩,s _ _ h2 (by intro _ z;cases z),g2.keep s⟩
theorem FldAt.same {N:Cn} {H H':Hp} (s:Same H H') {t:Tm} {fs:List (Str×V)} (h:FldAt N H fs t):FldAt N H' fs t:=h.keep (KpN.of s)
def TrmAt (N:Cn) (H:Hp) (t:Tm) (v:V):Prop:=∃p dx fs,v= .ref p/\H p=some (.ins (cls N t) dx fs)/\FldAt N H fs t
theorem TrmAt.same {N:Cn} {H H':Hp} (s:Same H H') {t:Tm} {v:V} (h:TrmAt N H t v):TrmAt N H' t v:=let⟨p,dx,fs,e,h1,h2⟩:=h;⟨p,dx,fs,e,s _ _ h1,h2.same s⟩
theorem TrmAt.keep {N:Cn} {H H':Hp} (s:KpN H H') {t:Tm} {v:V} (h:TrmAt N H t v):TrmAt N H' t v:=let⟨p,dx,fs,e,h1,h2⟩:=h;⟨p,dx,fs,e,s _ _ h1 (by intro _ z;cases z),h2.keep s⟩
def kids:Tm->List Tm
 | .num _=>[]
 | .take _ _=>[]
 | .rest t _=>[t]
 | .cho a b c=>[a,b,c]
 | .bin _ a b=>[a,b]
def ht:Tm->Nat
 | .num _=>1
 | .take _ _=>1
 | .rest t _=>ht t+1
 | .cho a b c=>max (ht a) (max (ht b) (ht c))+1
 | .bin _ a b=>max (ht a) (ht b)+1
def prts:Tm->Nat
 | .num _=>1
 | .take _ _=>1
 | .rest t _=>1+prts t
 | .cho a b c=>1+(prts a+(prts b+prts c))
 | .bin _ a b=>1+(prts a+prts b)
def raw:Tm->List Tk
 | .num _=>[]
 | .take b ss=>[(b,ss)]
 | .rest t _=>raw t
 | .cho a b c=>raw a++(raw b++raw c)
 | .bin _ a b=>raw a++raw b
theorem ht_pos:∀t,0<ht t
 | .num _=>Nat.one_pos
 | .take _ _=>Nat.one_pos
 | .rest _ _=>Nat.succ_pos _
 | .cho _ _ _=>Nat.succ_pos _
 | .bin _ _ _=>Nat.succ_pos _
theorem kid_ht:∀{t k:Tm},k∈kids t->ht k<ht t
 | .rest t _,k,h=>by rw [List.mem_singleton.mp h,ht];omega
 | .cho a b c,k,h=>by
  simp only [kids,List.mem_cons,List.not_mem_nil,or_false]at h
  rw [ht]
  rcases h with rfl|rfl|rfl<;>omega
 | .bin _ a b,k,h=>by
  simp only [kids,List.mem_cons,List.not_mem_nil,or_false]at h
  rw [ht]
  rcases h with rfl|rfl<;>omega
theorem kid_len (t:Tm):(kids t).length<=3:=by cases t<;>simp [kids]
theorem kid_raw:∀{t k:Tm},k∈kids t->∀x∈raw k,x∈raw t
 | .rest t _,k,h,x,hx=>by rw [List.mem_singleton.mp h]at hx;exact hx
 | .cho a b c,k,h,x,hx=>by
  simp only [kids,List.mem_cons,List.not_mem_nil,or_false]at h
  simp only [raw,List.mem_append]
  rcases h with rfl|rfl|rfl
  ·exact .inl hx
  ·exact .inr (.inl hx)
  ·exact .inr (.inr hx)
 | .bin _ a b,k,h,x,hx=>by
  simp only [kids,List.mem_cons,List.not_mem_nil,or_false]at h
  simp only [raw,List.mem_append]
  rcases h with rfl|rfl
  ·exact .inl hx
  ·exact .inr hx
def IsTks (t:Tm) (l:List Tk):Prop:=l.Pairwise (fun x y=>lexP x y=true)/\∀x,x∈l↔x∈raw t
theorem lexP_asym {x y:Tk} (h:lexP x y=true):lexP y x=false:=by
 unfold lexP at h⊢
 by_cases e:x.1=y.1
 ·rw [if_pos e]at h
  rw [if_pos e.symm]
  exact lexB_asym _ _ h
 ·rw [if_neg e,decide_eq_true_iff]at h
  rw [if_neg (Ne.symm e),decide_eq_false_iff_not]
  omega
theorem srt_uniq:∀{l m:List Tk},l.Pairwise (fun x y=>lexP x y=true)->m.Pairwise (fun x y=>lexP x y=true)->(∀x,x∈l↔x∈m)->l=m
 | [],[],_,_,_=>rfl
 | [],b::m,_,_,h=>absurd ((h b).mpr List.mem_cons_self) (by simp)
 |a::l,[],_,_,h=>absurd ((h a).mp List.mem_cons_self) (by simp)
 |a::l,b::m,h1,h2,h=>by
  have ha:=List.pairwise_cons.mp h1
  have hb:=List.pairwise_cons.mp h2
  have O:∀x y:Tk,lexP x y=true->lexP y x=false:=fun x y=>lexP_asym
  have irr:∀x:Tk,lexP x x=true->False:=fun x hx=>by have:=O x x hx;rw [hx]at this;cases this
  have e:a=b:=by
   rcases List.mem_cons.mp ((h a).mp List.mem_cons_self)with z|z
   ·exact z
   ·rcases List.mem_cons.mp ((h b).mpr List.mem_cons_self)with y|y
    ·exact y.symm
    ·have:=O _ _ (ha.1 b y)
     rw [hb.1 a z]at this
     cases this
  subst e
  rw [srt_uniq ha.2 hb.2 fun x=>⟨fun hx=>?_,fun hx=>?_⟩]
  ·rcases List.mem_cons.mp ((h x).mp (List.mem_cons_of_mem _ hx))with z|z
   ·exact(irr a (by have:=ha.1 x hx;rw [z]at this;exact this)).elim
   ·exact z
  ·rcases List.mem_cons.mp ((h x).mpr (List.mem_cons_of_mem _ hx))with z|z
   ·exact(irr a (by have:=hb.1 x hx;rw [z]at this;exact this)).elim
   ·exact z
theorem IsTks.uniq {t:Tm} {l m:List Tk} (h1:IsTks t l) (h2:IsTks t m):l=m:=srt_uniq h1.1 h2.1 fun x=>(h1.2 x).trans (h2.2 x).symm
def GoodT (x:Tk):Prop:=1<=x.1/\x.1<=3/\∀s∈x.2, -9<=s/\s<=9
def Wf:Tm->Prop
 | .num n=> -1000000000000<=n/\n<=1000000000000
 | .take _ _=>True
 | .rest t y=>1<=y/\y<=1000000000/\Wf t
 | .cho a b c=>Wf a/\Wf b/\Wf c
 | .bin _ a b=>Wf a/\Wf b
theorem hu_of2 {A:Around} {k:Nat} (hr:Room k A):A.units+101<cLine:=by have:=hr.un;omega
end KJ
namespace KJ
open PySem PyProof.Rows L2
theorem iteTe {c:Bool} {a b:Prop} (h:c=true) (x:a):if c=true then a else b:=by rw [if_pos h];exact x
theorem iteFe {c:Bool} {a b:Prop} (h:c=false) (x:b):if c=true then a else b:=by rw [if_neg (by rw [h];exact Bool.false_ne_true)];exact x
theorem WellAt.same {a:Addr} {H H':Hp} (s:Same H H') (h:WellAt H a):WellAt H' a:=by
 obtain⟨x,y,z,e⟩:=h
 exact⟨x,y,z,s _ _ e⟩
def spCell (K:W.Frag):Sp:=fun vs H Q _=>∃(a:Addr) (ns:List Int) (k:Nat),vs=[.ref a,natV k]/\SqL K H a (ns.map V.int)/\∀c:Int,Q (.int c) H
def spWell (K:W.Frag):Sp:=fun vs H Q _=>∃(a:Addr) (ns:List Int) (k:Nat),vs=[.ref a,natV k]/\SqL K H a (ns.map V.int)/\∀(p:Addr) (H':Hp),Same H H'->H p=none->WellAt H' p->Q (.ref p) H'
def spDraw:Sp:=fun vs H Q _=>∃(a:Addr) (m:Int),vs=[.ref a,.int m]/\WellAt H a/\0<m/\m<2 ^ 62/\∀(n:Nat) (H':Hp),(n:Int)<m->Kp a H H'->WellAt H' a->Q (natV n) H'
theorem modb (x:Int): -(2 ^ 64)<x % 2147483647/\x % 2147483647<2 ^ 64:=by
 have h1:=Int.emod_nonneg x (show(2147483647:Int)≠0 by decide)
 have h2:=Int.emod_lt_of_pos x (show(0:Int)<2147483647 by decide)
 omega
theorem modc (x:Int): -(2 ^ 64)<x % 2147483399/\x % 2147483399<2 ^ 64:=by
 have h1:=Int.emod_nonneg x (show(2147483399:Int)≠0 by decide)
 have h2:=Int.emod_lt_of_pos x (show(0:Int)<2147483399 by decide)
 omega
section
variable {P:Program} {w:World} {K:W.Frag} {mg:Str->Option Value} {base:Heap}
theorem scCell:FnScope ["_law_script","_law_k"] ["_law_script","_law_k"] (defScope sCell):=⟨rfl,rfl,rfl,by decide+kernel,rfl,by decide+kernel,by decide+kernel⟩
theorem ok_cell {f:Addr} {fd:FuncData} (F:Fun K "_law_cell_at" "_law_cell_at" sCell f fd) (T:Txt K mg):FnOk P w K mg base CX0 1 f fd ["_law_script","_law_k"] (spCell K):=by
 refine F.ok scCell (fun vs H Q E h=>?_) (fun cdv A outer s H vs Q E hr h=>?_)
 ·obtain⟨a,ns,k,rfl,_⟩:=h
  rfl
 ·obtain⟨a,ns,k,rfl,hS,q⟩:=h
  refine⟨_,(pss_cons (ps_if (pt_cmpR op_lt (pv 1) (pe_callB call_len_seq (by rfl) T.len PySem.boot_len (pa_cons (pv 0) pa_nil)) (nomark _)) (pss_one (ps_ret (pe_ix ix_list (pv 0) (pv 1) (fun _ _=>rfl)))) pss_nil) (pss_one (ps_ret pe_int))),?_⟩
  refine⟨_,rfl,_,rfl,a,_,rfl,.inl hS,_,_,rfl,rfl,_,rfl,?_⟩
  by_cases h:k<ns.length
  ·refine iteTe (decide_eq_true (by rw [List.length_map];omega)) ?_
   exact⟨_,rfl,_,rfl,a,_,_,_,rfl,rfl,hS,atI_nat (show(ns.map V.int)[k]? =some (.int ns[k]) by rw [List.getElem?_map,List.getElem?_eq_getElem h];rfl),q _⟩
  ·exact iteFe (decide_eq_false (by rw [List.length_map];omega)) (q 0)
theorem scWell:FnScope ["_law_script","_law_k","_law_cell"] ["_law_script","_law_k"] (defScope sWell):=⟨rfl,rfl,rfl,by decide+kernel,rfl,by decide+kernel,by decide+kernel⟩
theorem ok_well {f:Addr} {fd:FuncData} (F:Fun K "_law_well" "_law_well" sWell f fd) (c_cell:Cal P w K mg base CX0 1 "_law_cell_at" ["_law_script","_law_k"] (spCell K)) (T:Txt K mg):FnOk P w K mg base CX0 2 f fd ["_law_script","_law_k"] (spWell K):=by
 refine F.ok scWell (fun vs H Q E h=>?_) (fun cdv A outer s H vs Q E hr h=>?_)
 ·obtain⟨a,ns,k,rfl,_⟩:=h
  rfl
 ·obtain⟨a,ns,k,rfl,hS,q⟩:=h
  refine⟨_,(pss_cons (ps_set (i:=2) scWell.nd rfl (Or.inl rfl) (pe_c c_cell (hr.mono (by decide)) rfl pass0 (pa_cons (pv 0) (pa_cons (pv 1) pa_nil)))) (pss_one (ps_ret (pe_lst (pa_cons (pe_op op_add (pe_op op_mod (pv 2) pe_int) (pv 1)) (pa_cons (pe_ix ix_list (pe_lst (pa_cons pe_int (pa_cons (pv 2) pa_nil))) (pe_callTy call_int1 rfl T.int boot_int (pa_cons (pe_cmpR op_ge (pv 2) (pe_op op_pow pe_int pe_int) (nomark _)) pa_nil)) (fun _ _=>rfl)) (pa_cons pe_int pa_nil))))))),?_⟩
  refine⟨_,rfl,_,rfl,a,ns,k,rfl,hS,fun c=>?_⟩
  refine⟨_,rfl,_,_,rfl,rfl,(by show(0:Int)<2147483647;decide),_,rfl,_,_,rfl,rfl,?_⟩
  refine⟨_,rfl,by show 2<=sizeLine;decide,fun l hl=>?_⟩
  generalize g:upd H l _=H1
  obtain⟨s1,e1⟩:=new_of hl g
  refine⟨_,rfl,_,_,rfl,rfl,⟨by decide,by decide,by decide⟩,_,_,rfl,rfl,.inr ⟨_,rfl,?_⟩⟩
  obtain⟨y,hy⟩:∃y:Int,atI [V.int 0,V.int c] (if decide (10 ^ 18<=c)=true then 1 else 0)=some (.int y):=by
   by_cases h:(10:Int) ^ 18<=c
   ·rw [decide_eq_true h];exact⟨c,rfl⟩
   ·rw [decide_eq_false h];exact⟨0,rfl⟩
  refine⟨l,_,_,_,rfl,rfl,SqL.of e1,hy,?_⟩
  refine⟨by show 3<=sizeLine;decide,fun p hp=>q p _ (s1.trans (sameNew hp)) (s1.free hp) ⟨_,_,_,upd_same⟩⟩
theorem scDraw:FnScope ["_law_well_here","_law_most","_law_number_here"] ["_law_well_here","_law_most"] (defScope sDraw):=⟨rfl,rfl,rfl,by decide+kernel,rfl,by decide+kernel,by decide+kernel⟩
theorem ok_draw {f:Addr} {fd:FuncData} (F:Fun K "_law_draw" "_law_draw" sDraw f fd):FnOk P w K mg base CX0 1 f fd ["_law_well_here","_law_most"] spDraw:=by
 refine F.ok scDraw (fun vs H Q E h=>?_) (fun cdv A outer s H vs Q E hr h=>?_)
 ·obtain⟨a,m,rfl,_⟩:=h
  rfl
 ·obtain⟨a,m,rfl,⟨x,y,z,ha⟩,hm,hm2,k⟩:=h
  have fin:∀(t:Int) (H':Hp),Kp a H H'->WellAt H' a->Q (.int (t % m)) H':=fun t H' kp w'=>by
   have h1:=Int.emod_nonneg t (show m≠0 by omega)
   have h2:=Int.emod_lt_of_pos t hm
   have:=k (t % m).toNat H' (by omega) kp w'
   rw [show natV (t % m).toNat=V.int (t % m) by show V.int _=_;congr 1;omega]at this
   exact this
  refine⟨_,(pss_cons (ps_if (pt_cmpR op_gt (pe_ix ix_list (pv 0) pe_int (fun _ _=>rfl)) pe_int (nomark _)) (pss_cons (ps_set (i:=2) scDraw.nd rfl (Or.inl rfl) (pe_op op_mod (pe_ix ix_list (pv 0) pe_int (fun _ _=>rfl)) (pv 1))) (pss_cons (ps_asg (pe_op op_fdivM (pe_ix ix_list (pv 0) pe_int (fun _ _=>rfl)) (pv 1)) (pg_sub (pv 0) pe_int set_list)) (pss_one (ps_ret (pv 2))))) pss_nil) (pss_cons (ps_asg (pe_op op_add (pe_ix ix_list (pv 0) pe_int (fun _ _=>rfl)) pe_int) (pg_sub (pv 0) pe_int set_list)) (pss_cons (ps_set (i:=2) scDraw.nd rfl (Or.inl rfl) (pe_op op_mod (pe_op op_mul (pe_op op_add (pe_op op_add (pe_ix ix_list (pv 0) pe_int (fun _ _=>rfl)) (pe_op op_mul pe_int (pe_ix ix_list (pv 0) pe_int (fun _ _=>rfl)))) pe_int) pe_int) pe_int)) (pss_cons (ps_set (i:=2) scDraw.nd rfl (Or.inl rfl) (pe_op op_mod (pe_op op_mul (pv 2) (pe_op op_add (pe_op op_fdivM (pv 2) pe_int) pe_int)) pe_int)) (pss_cons (ps_set (i:=2) scDraw.nd rfl (Or.inl rfl) (pe_op op_mod (pe_op op_mul (pv 2) (pe_op op_add (pe_op op_fdivM (pv 2) pe_int) pe_int)) pe_int)) (pss_one (ps_ret (pe_op op_mod (pe_op op_add (pe_op op_mul (pv 2) pe_int) (pe_op op_fdivM (pv 2) pe_int)) (pv 1))))))))),?_⟩
  refine⟨_,rfl,a,_,_,_,rfl,rfl,SqL.of ha,rfl,_,_,rfl,rfl,_,rfl,?_⟩
  refine ite2 (fun _=>?_) (fun _=>?_)
  ·refine⟨_,rfl,a,_,_,_,rfl,rfl,SqL.of ha,rfl,_,rfl,_,_,rfl,rfl,hm,?_⟩
   refine⟨_,rfl,a,_,_,_,rfl,rfl,SqL.of ha,rfl,_,rfl,_,_,rfl,rfl,⟨hm,hm2⟩,?_⟩
   refine⟨_,rfl,a,_,_,1,rfl,rfl,ha,rfl,?_⟩
   exact⟨_,rfl,fin _ _ kpUpd ⟨_,_,_,upd_same⟩⟩
  ·refine⟨_,rfl,a,_,_,_,rfl,rfl,SqL.of ha,rfl,_,_,rfl,rfl,?_⟩
   refine⟨_,rfl,a,_,_,2,rfl,rfl,ha,rfl,?_⟩
   have hb:(upd H a (.lst ([V.int x,V.int y,V.int z].set 2 (.int (z+1))))) a=some (.lst [.int x,.int y,.int (z+1)]):=upd_same
   refine⟨_,rfl,a,_,_,_,rfl,rfl,SqL.of hb,rfl,_,rfl,a,_,_,_,rfl,rfl,SqL.of hb,rfl,_,_,rfl,rfl,.inl ⟨by decide,by decide⟩,_,_,rfl,rfl,_,_,rfl,rfl,_,_,rfl,rfl,.inr ⟨by decide,by decide⟩,_,_,rfl,rfl,(by show(0:Int)<2147483647;decide),?_⟩
   refine⟨_,rfl,_,rfl,_,_,rfl,rfl,⟨by decide,by decide⟩,_,_,rfl,rfl,_,_,rfl,rfl,.inl (modb _),_,_,rfl,rfl,(by show(0:Int)<2147483647;decide),?_⟩
   refine⟨_,rfl,_,rfl,_,_,rfl,rfl,⟨by decide,by decide⟩,_,_,rfl,rfl,_,_,rfl,rfl,.inl (modb _),_,_,rfl,rfl,(by show(0:Int)<2147483399;decide),?_⟩
   refine⟨_,rfl,_,_,rfl,rfl,.inl (modc _),_,rfl,_,_,rfl,rfl,⟨by decide,by decide⟩,_,_,rfl,rfl,_,rfl,_,_,rfl,rfl,hm,?_⟩
   exact fin _ _ kpUpd ⟨_,_,_,upd_same⟩
end
end KJ
namespace KJ
open PySem PyProof.Rows L2
structure Cf (K:W.Frag) (C:Addr) (fs:List Str):Prop where
 cl:Cls K C
 na:∀f∈fs,NoAttr K C f
def spI1 (K:W.Frag) (a:Str):Sp:=fun vs H Q _=>∃(p C dx:Addr) (x:V),vs=[.ref p,x]/\H p=some (.ins C dx [])/\Cf K C [a]/\Q .non (upd H p (.ins C dx [(a,x)]))
def spI2 (K:W.Frag) (a b:Str):Sp:=fun vs H Q _=>∃(p C dx:Addr) (x y:V),vs=[.ref p,x,y]/\H p=some (.ins C dx [])/\Cf K C [a,b]/\Q .non (upd (upd H p (.ins C dx [(a,x)])) p (.ins C dx [(a,x),(b,y)]))
def spI3 (K:W.Frag) (a b c:Str):Sp:=fun vs H Q _=>∃(p C dx:Addr) (x y z:V),vs=[.ref p,x,y,z]/\H p=some (.ins C dx [])/\Cf K C [a,b,c]/\Q .non (upd (upd (upd H p (.ins C dx [(a,x)])) p (.ins C dx [(a,x),(b,y)])) p (.ins C dx [(a,x),(b,y),(c,z)]))
section
variable {P:Program} {w:World} {K:W.Frag} {mg:Str->Option Value} {base:Heap}
theorem scNInit:FnScope ["self","value"] ["self","value"] (defScope sNInit):=⟨rfl,rfl,rfl,by decide+kernel,rfl,by decide+kernel,by decide+kernel⟩
theorem ok_ninit {f:Addr} {fd:FuncData} (F:Fun K "__init__" "Number.__init__" sNInit f fd):FnOk P w K mg base CX0 1 f fd ["self","value"] (spI1 K "value"):=by
 refine F.ok scNInit (fun vs H Q E h=>?_) (fun cdv A outer s H vs Q E hr h=>?_)
 ·obtain⟨p,C,dx,x,rfl,_⟩:=h
  rfl
 ·obtain⟨p,C,dx,x,rfl,hp,c,q⟩:=h
  refine⟨_,(pss_one (ps_fld (pv 0) (pv 1) rfl)),?_⟩
  exact⟨_,rfl,_,rfl,p,C,dx,_,rfl,hp,c.cl,c.na _ (by simp),by decide,q⟩
theorem scKInit:FnScope ["self","back","steps"] ["self","back","steps"] (defScope sKInit):=⟨rfl,rfl,rfl,by decide+kernel,rfl,by decide+kernel,by decide+kernel⟩
theorem ok_kinit {f:Addr} {fd:FuncData} (F:Fun K "__init__" "Take.__init__" sKInit f fd):FnOk P w K mg base CX0 1 f fd ["self","back","steps"] (spI2 K "back" "steps"):=by
 refine F.ok scKInit (fun vs H Q E h=>?_) (fun cdv A outer s H vs Q E hr h=>?_)
 ·obtain⟨p,C,dx,x,y,rfl,_⟩:=h
  rfl
 ·obtain⟨p,C,dx,x,y,rfl,hp,c,q⟩:=h
  refine⟨_,(pss_cons (ps_fld (pv 0) (pv 1) rfl) (pss_one (ps_fld (pv 0) (pv 2) rfl))),?_⟩
  refine⟨_,rfl,_,rfl,p,C,dx,_,rfl,hp,c.cl,c.na _ (by simp),by decide,?_⟩
  exact⟨_,rfl,_,rfl,p,C,dx,_,rfl,upd_same,c.cl,c.na _ (by simp),by show(1:Nat)<1000;decide,q⟩
theorem scPInit:FnScope ["self","one","other"] ["self","one","other"] (defScope sPInit):=⟨rfl,rfl,rfl,by decide+kernel,rfl,by decide+kernel,by decide+kernel⟩
theorem ok_pinit {f:Addr} {fd:FuncData} (F:Fun K "__init__" "Paired.__init__" sPInit f fd):FnOk P w K mg base CX0 1 f fd ["self","one","other"] (spI2 K "one" "other"):=by
 refine F.ok scPInit (fun vs H Q E h=>?_) (fun cdv A outer s H vs Q E hr h=>?_)
 ·obtain⟨p,C,dx,x,y,rfl,_⟩:=h
  rfl
 ·obtain⟨p,C,dx,x,y,rfl,hp,c,q⟩:=h
  refine⟨_,(pss_cons (ps_fld (pv 0) (pv 1) rfl) (pss_one (ps_fld (pv 0) (pv 2) rfl))),?_⟩
  refine⟨_,rfl,_,rfl,p,C,dx,_,rfl,hp,c.cl,c.na _ (by simp),by decide,?_⟩
  exact⟨_,rfl,_,rfl,p,C,dx,_,rfl,upd_same,c.cl,c.na _ (by simp),by show(1:Nat)<1000;decide,q⟩
theorem scRInit:FnScope ["self","one","by"] ["self","one","by"] (defScope sRInit):=⟨rfl,rfl,rfl,by decide+kernel,rfl,by decide+kernel,by decide+kernel⟩
theorem ok_rinit {f:Addr} {fd:FuncData} (F:Fun K "__init__" "Rest.__init__" sRInit f fd):FnOk P w K mg base CX0 1 f fd ["self","one","by"] (spI2 K "one" "by"):=by
 refine F.ok scRInit (fun vs H Q E h=>?_) (fun cdv A outer s H vs Q E hr h=>?_)
 ·obtain⟨p,C,dx,x,y,rfl,_⟩:=h
  rfl
 ·obtain⟨p,C,dx,x,y,rfl,hp,c,q⟩:=h
  refine⟨_,(pss_cons (ps_fld (pv 0) (pv 1) rfl) (pss_one (ps_fld (pv 0) (pv 2) rfl))),?_⟩
  refine⟨_,rfl,_,rfl,p,C,dx,_,rfl,hp,c.cl,c.na _ (by simp),by decide,?_⟩
  exact⟨_,rfl,_,rfl,p,C,dx,_,rfl,upd_same,c.cl,c.na _ (by simp),by show(1:Nat)<1000;decide,q⟩
theorem scCInit:FnScope ["self","test","one","other"] ["self","test","one","other"] (defScope sCInit):=⟨rfl,rfl,rfl,by decide+kernel,rfl,by decide+kernel,by decide+kernel⟩
theorem ok_cinit {f:Addr} {fd:FuncData} (F:Fun K "__init__" "Chosen.__init__" sCInit f fd):FnOk P w K mg base CX0 1 f fd ["self","test","one","other"] (spI3 K "test" "one" "other"):=by
 refine F.ok scCInit (fun vs H Q E h=>?_) (fun cdv A outer s H vs Q E hr h=>?_)
 ·obtain⟨p,C,dx,x,y,z,rfl,_⟩:=h
  rfl
 ·obtain⟨p,C,dx,x,y,z,rfl,hp,c,q⟩:=h
  refine⟨_,(pss_cons (ps_fld (pv 0) (pv 1) rfl) (pss_cons (ps_fld (pv 0) (pv 2) rfl) (pss_one (ps_fld (pv 0) (pv 3) rfl)))),?_⟩
  refine⟨_,rfl,_,rfl,p,C,dx,_,rfl,hp,c.cl,c.na _ (by simp),by decide,?_⟩
  refine⟨_,rfl,_,rfl,p,C,dx,_,rfl,upd_same,c.cl,c.na _ (by simp),by show(1:Nat)<1000;decide,?_⟩
  exact⟨_,rfl,_,rfl,p,C,dx,_,rfl,upd_same,c.cl,c.na _ (by simp),by show(2:Nat)<1000;decide,q⟩
end
end KJ
namespace KJ
open PySem PyProof.Rows L2
def tag:Tm->Nat
 | .num _=>0
 | .take _ _=>1
 | .rest _ _=>2
 | .cho _ _ _=>3
 | .bin k _ _=>4+k.val
def clsL (N:Cn):List Addr:=[N.num,N.take,N.rest,N.cho,N.bin 0,N.bin 1,N.bin 2,N.bin 3,N.bin 4]
theorem cls_at (N:Cn):∀t:Tm,(clsL N)[tag t]? =some (cls N t)
 | .num _=>rfl
 | .take _ _=>rfl
 | .rest _ _=>rfl
 | .cho _ _ _=>rfl
 | .bin k _ _=>by
  match k with
  |0=>rfl
  |1=>rfl
  |2=>rfl
  |3=>rfl
  |4=>rfl
theorem tag_of {N:Cn} (nd:(clsL N).Nodup) {t u:Tm} (h:cls N t=cls N u):tag t=tag u:=by
 have h1:=cls_at N t
 have h2:=cls_at N u
 rw [h]at h1
 exact(List.getElem?_inj (List.getElem?_eq_some_iff.mp h1).1 nd).mp (h1.trans h2.symm)
theorem is_num {N:Cn} (nd:(clsL N).Nodup) {t:Tm} (h:cls N t=N.num):kids t=[]/\raw t=[]:=by
 have:=tag_of nd (u:= .num 0) h
 cases t<;>simp [tag]at this<;>first|exact⟨rfl,rfl⟩|omega
theorem is_take {N:Cn} (nd:(clsL N).Nodup) {t:Tm} (h:cls N t=N.take):∃b ss,t= .take b ss:=by
 have:=tag_of nd (u:= .take 0 []) h
 cases t<;>simp [tag]at this<;>first|exact⟨_,_,rfl⟩|omega
theorem is_rest {N:Cn} (nd:(clsL N).Nodup) {t:Tm} (h:cls N t=N.rest):∃a y,t= .rest a y:=by
 have:=tag_of nd (u:= .rest (.num 0) 0) h
 cases t<;>simp [tag]at this<;>first|exact⟨_,_,rfl⟩|omega
theorem is_cho {N:Cn} (nd:(clsL N).Nodup) {t:Tm} (h:cls N t=N.cho):∃a b c,t= .cho a b c:=by
 have:=tag_of nd (u:= .cho (.num 0) (.num 0) (.num 0)) h
 cases t<;>simp [tag]at this<;>first|exact⟨_,_,_,rfl⟩|omega
theorem is_bin {N:Cn} (nd:(clsL N).Nodup) {t:Tm} {k:Fin 5} (h:cls N t=N.bin k):∃j a b,t= .bin j a b:=by
 have:=tag_of nd (u:= .bin k (.num 0) (.num 0)) h
 cases t<;>simp [tag]at this<;>first|exact⟨_,_,_,rfl⟩|omega
def spInner (N:Cn) (C:Addr):Sp:=fun vs H Q _=>∃(p dx:Addr) (fs:List (Str×V)) (t:Tm),vs=[.ref p]/\H p=some (.ins (cls N t) dx fs)/\FldAt N H fs t/\cls N t=C/\
 ∀(l:Addr) (xs:List V) (H':Hp),Same H H'->H l=none->H' l=some (.lst xs)->Paired (TrmAt N H) (kids t) xs->Q (.ref l) H'
section
variable {P:Program} {w:World} {K:W.Frag} {mg:Str->Option Value} {base:Heap} {N:Cn}
theorem scTInner:FnScope ["self"] ["self"] (defScope sTInner):=⟨rfl,rfl,rfl,by decide+kernel,rfl,by decide+kernel,by decide+kernel⟩
theorem ok_tinner {f C:Addr} {fd:FuncData} (F:Fun K "inner" "Term.inner" sTInner f fd) (hC:∀t,cls N t=C->kids t=[]):FnOk P w K mg base CX0 1 f fd ["self"] (spInner N C):=by
 refine F.ok scTInner (fun vs H Q E h=>?_) (fun cdv A outer s H vs Q E hr h=>?_)
 ·obtain⟨p,dx,fs,t,rfl,_⟩:=h
  rfl
 ·obtain⟨p,dx,fs,t,rfl,hp,hf,hc,q⟩:=h
  refine⟨_,(pss_one (ps_ret (pe_lst pa_nil))),?_⟩
  refine⟨by show 0<=sizeLine;decide,fun l hl=>q l [] _ (sameNew hl) hl upd_same ?_⟩
  rw [hC t hc]
  exact .nil
theorem scPInner:FnScope ["self"] ["self"] (defScope sPInner):=⟨rfl,rfl,rfl,by decide+kernel,rfl,by decide+kernel,by decide+kernel⟩
theorem ok_pinner {f C:Addr} {fd:FuncData} (F:Fun K "inner" "Paired.inner" sPInner f fd) (c:Cf K C ["one","other"]) (hC:∀t,cls N t=C->∃k a b,t= .bin k a b):FnOk P w K mg base CX0 1 f fd ["self"] (spInner N C):=by
 refine F.ok scPInner (fun vs H Q E h=>?_) (fun cdv A outer s H vs Q E hr h=>?_)
 ·obtain⟨p,dx,fs,t,rfl,_⟩:=h
  rfl
 ·obtain⟨p,dx,fs,t,rfl,hp,hf,hc,q⟩:=h
  refine⟨_,(pss_one (ps_ret (pe_lst (pa_cons (pe_fld (pv 0) rfl) (pa_cons (pe_fld (pv 0) rfl) pa_nil))))),?_⟩
  obtain⟨k,a,b,rfl⟩:=hC t hc
  rw [hc]at hp
  obtain⟨p1,d1,f1,p2,d2,f2,rfl,⟨h1,g1⟩,h2,g2⟩:=hf
  refine⟨_,rfl,p,C,dx,_,_,rfl,hp,c.cl,c.na _ (by simp),rfl,_,rfl,p,C,dx,_,_,rfl,hp,c.cl,c.na _ (by simp),rfl,by show 2<=sizeLine;decide,fun l hl=>?_⟩
  generalize e:upd H l _=H1
  obtain⟨s1,e1⟩:=new_of hl e
  exact q l _ H1 s1 hl e1 (.cons ⟨p1,d1,f1,rfl,h1,g1⟩ (.cons ⟨p2,d2,f2,rfl,h2,g2⟩ .nil))
theorem scRInner:FnScope ["self"] ["self"] (defScope sRInner):=⟨rfl,rfl,rfl,by decide+kernel,rfl,by decide+kernel,by decide+kernel⟩
theorem ok_rinner {f C:Addr} {fd:FuncData} (F:Fun K "inner" "Rest.inner" sRInner f fd) (c:Cf K C ["one","by"]) (hC:∀t,cls N t=C->∃a y,t= .rest a y):FnOk P w K mg base CX0 1 f fd ["self"] (spInner N C):=by
 refine F.ok scRInner (fun vs H Q E h=>?_) (fun cdv A outer s H vs Q E hr h=>?_)
 ·obtain⟨p,dx,fs,t,rfl,_⟩:=h
  rfl
 ·obtain⟨p,dx,fs,t,rfl,hp,hf,hc,q⟩:=h
  refine⟨_,(pss_one (ps_ret (pe_lst (pa_cons (pe_fld (pv 0) rfl) pa_nil)))),?_⟩
  obtain⟨a,y,rfl⟩:=hC t hc
  rw [hc]at hp
  obtain⟨p1,d1,f1,rfl,h1,g1⟩:=hf
  refine⟨_,rfl,p,C,dx,_,_,rfl,hp,c.cl,c.na _ (by simp),rfl,by show 1<=sizeLine;decide,fun l hl=>?_⟩
  generalize e:upd H l _=H1
  obtain⟨s1,e1⟩:=new_of hl e
  exact q l _ H1 s1 hl e1 (.cons ⟨p1,d1,f1,rfl,h1,g1⟩ .nil)
theorem scCInner:FnScope ["self"] ["self"] (defScope sCInner):=⟨rfl,rfl,rfl,by decide+kernel,rfl,by decide+kernel,by decide+kernel⟩
theorem ok_cinner {f C:Addr} {fd:FuncData} (F:Fun K "inner" "Chosen.inner" sCInner f fd) (c:Cf K C ["test","one","other"]) (hC:∀t,cls N t=C->∃a b d,t= .cho a b d):FnOk P w K mg base CX0 1 f fd ["self"] (spInner N C):=by
 refine F.ok scCInner (fun vs H Q E h=>?_) (fun cdv A outer s H vs Q E hr h=>?_)
 ·obtain⟨p,dx,fs,t,rfl,_⟩:=h
  rfl
 ·obtain⟨p,dx,fs,t,rfl,hp,hf,hc,q⟩:=h
  refine⟨_,(pss_one (ps_ret (pe_lst (pa_cons (pe_fld (pv 0) rfl) (pa_cons (pe_fld (pv 0) rfl) (pa_cons (pe_fld (pv 0) rfl) pa_nil)))))),?_⟩
  obtain⟨a,b,d,rfl⟩:=hC t hc
  rw [hc]at hp
  obtain⟨p1,d1,f1,p2,d2,f2,p3,d3,f3,rfl,⟨h1,g1⟩,⟨h2,g2⟩,h3,g3⟩:=hf
  refine⟨_,rfl,p,C,dx,_,_,rfl,hp,c.cl,c.na _ (by simp),rfl,_,rfl,p,C,dx,_,_,rfl,hp,c.cl,c.na _ (by simp),rfl,_,rfl,p,C,dx,_,_,rfl,hp,c.cl,c.na _ (by simp),rfl,by show 3<=sizeLine;decide,fun l hl=>?_⟩
  generalize e:upd H l _=H1
  obtain⟨s1,e1⟩:=new_of hl e
  exact q l _ H1 s1 hl e1 (.cons ⟨p1,d1,f1,rfl,h1,g1⟩ (.cons ⟨p2,d2,f2,rfl,h2,g2⟩ (.cons ⟨p3,d3,f3,rfl,h3,g3⟩ .nil)))
end
end KJ
namespace KJ
open PySem PyProof.Rows L2
theorem hu_20 {A:Around} {k:Nat} (hr:Room k A):A.units+20<cLine:=by have:=hr.un;omega
theorem hu_40 {A:Around} {k:Nat} (hr:Room k A):A.units+40<cLine:=by have:=hr.un;omega
theorem raw_kids {t:Tm} (h:∀b ss,t≠ .take b ss) (x:Tk):x∈(kids t).flatMap raw↔x∈raw t:=by
 cases t with
 |take b ss=>exact absurd rfl (h b ss)
 |num n=>simp [kids,raw]
 |rest a y=>simp [kids,raw]
 |cho a b c=>simp [kids,raw]
 |bin k a b=>simp [kids,raw]
theorem ht_kids {t:Tm} {b:Nat} (h1:b=0∨b∈(kids t).map ht) (h2:∀a∈(kids t).map ht,a<=b):1+b=ht t:=by
 cases t with
 |num n=>simp [kids]at h1;rw [h1];rfl
 |take n ss=>simp [kids]at h1;rw [h1];rfl
 |rest a y=>
  simp [kids]at h1 h2
  have:=ht_pos a
  rw [ht];omega
 |cho x y z=>
  simp [kids]at h1 h2
  have:=ht_pos x
  rw [ht];omega
 |bin k x y=>
  simp [kids]at h1 h2
  have:=ht_pos x
  rw [ht];omega
theorem prts_kids (t:Tm):1+((kids t).map prts).sum=prts t:=by
 cases t<;>simp [kids,prts]<;>omega
theorem maxD_nat {K:W.Frag} {H:Hp} {p:Addr} {l:List Nat} {Q:VK} (hq:SqL K H p (natVs l)) (k:∀b:Nat,(b=0∨b∈l)->(∀a∈l,a<=b)->Q (natV b) H):rMaxD K [.ref p] [.int 0] H Q:=by
 rw [show natVs l=(l.map fun k:Nat=>(k:Int)).map V.int by unfold natVs;rw [List.map_map];rfl]at hq
 refine⟨p,_,.int 0,rfl,rfl,hq,fun e=>?_,fun m hm hx=>?_⟩
 ·have:l=[]:=by simpa using e
  exact k 0 (.inl rfl) fun a ha=>by rw [this]at ha;cases ha
 ·obtain⟨b,hb,rfl⟩:=List.mem_map.mp hm
  exact k b (.inr hb) fun a ha=>by have:=hx _ (List.mem_map.mpr ⟨a,ha,rfl⟩);omega
theorem sum_nats (l:List Nat):(l.map fun k:Nat=>(k:Int)).sum=((l.sum:Nat):Int):=by
 induction l with
 |nil=>rfl
 |cons a l ih=>rw [List.map_cons,List.sum_cons,List.sum_cons,ih];omega
theorem sum_ok {K:W.Frag} {la:Addr} {ls:List Nat} {H:Hp} {Q:VK} (h:H la=some (.lst (natVs ls))) (hn:ls.length<=1000) (hk:∀k∈ls,k<=1000) (q:Q (natV ls.sum) H):rSum K [.ref la] H Q:=by
 rw [show natVs ls=(ls.map fun k:Nat=>(k:Int)).map V.int by unfold natVs;rw [List.map_map];rfl]at h
 refine⟨la,ls.map fun k:Nat=>(k:Int),rfl,SqL.of h,by rw [List.length_map];exact hn,fun x hx=>?_,by rw [sum_nats];exact q⟩
 obtain⟨k,hm,rfl⟩:=List.mem_map.mp hx
 have:=hk k hm
 exact⟨by omega,by omega⟩
abbrev TkR:Type:=Tk×Addr
def spTakes (N:Cn) (d:Nat) (C:Addr):Sp:=fun vs H Q _=>∃(p dx:Addr) (fs:List (Str×V)) (t:Tm),vs=[.ref p]/\H p=some (.ins (cls N t) dx fs)/\FldAt N H fs t/\cls N t=C/\ht t<=d/\(∃ks:List Tk,ks.length<18/\∀x∈raw t,x∈ks)/\
 ∀(l:Addr) (ps:List TkR) (H':Hp),Same H H'->H l=none->H' l=some (.lst (ps.map fun x=>V.ref x.2))->(∀x∈ps,PKy H' x)->IsTks t (ps.map (·.1))->Q (.ref l) H'
def spNum (N:Cn) (F:Tm->Nat) (d:Nat) (C:Addr):Sp:=fun vs H Q _=>∃(p dx:Addr) (fs:List (Str×V)) (t:Tm),vs=[.ref p]/\H p=some (.ins (cls N t) dx fs)/\FldAt N H fs t/\cls N t=C/\ht t<=d/\∀H',Same H H'->Q (natV (F t)) H'
theorem _root_.L2.PKy.same {H H':Hp} (s:Same H H') {x:TkR} (h:PKy H x):PKy H' x:=let⟨q,h1,h2⟩:=h;⟨q,s _ _ h1,s _ _ h2⟩
theorem nodup_srt {l:List Tk} (h:l.Pairwise (fun x y=>lexP x y=true)):l.Nodup:=h.imp fun{x y} hx e=>by
 subst e
 have:=lexP_asym hx
 rw [hx]at this
 cases this
section
variable {P:Program} {w:World} {K:W.Frag} {mg:Str->Option Value} {base:Heap} {N:Cn}
theorem scTTakes:FnScope ["self","pairs","part"] ["self"] (defScope sTTakes):=⟨rfl,rfl,rfl,by decide+kernel,rfl,by decide+kernel,by decide+kernel⟩
theorem ok_ttakes {f C:Addr} {fd:FuncData} {d:Nat} (F:Fun K "takes" "Term.takes" sTTakes f fd) (D_inner:Dis P w K mg base CX0 1 (IsC N) "inner" ["self"] (spInner N)) (D_takes:Dis P w K mg base CX0 (d+1) (IsC N) "takes" ["self"] (spTakes N d)) (T:Txt K mg)
  (hC:∀t,cls N t=C->∀b ss,t≠ .take b ss) (nT:∀(t:Tm) (fs:List (Str×V)) H,FldAt N H fs t->fs.lookup ("takes":Str)=none/\fs.lookup ("inner":Str)=none):FnOk P w K mg base CX0 (d+2) f fd ["self"] (spTakes N (d+1) C):=by
 refine F.ok scTTakes (fun vs H Q E h=>?_) (fun cdv A outer s H vs Q E hr h=>?_)
 ·obtain⟨p,dx,fs,t,rfl,_⟩:=h
  rfl
 ·obtain⟨p,dx,fs,t,rfl,hp,hf,hc,hd,⟨ks,kl,km⟩,q⟩:=h
  refine⟨_,(pss_cons (ps_set (i:=1) scTTakes.nd rfl (Or.inl rfl) (pe_lst pa_nil)) (pss_cons (ps_for PassesOwn.never rfl (pi_list (pe_methD0 (pv 0) D_inner (hr.mono (by omega)) pass0)) (pg_name (i:=2) scTTakes.nd rfl (Or.inl rfl)) (pss_one (ps_expr (pe_bm PySem.F.plainAttrs_list PySem.F.slot_list_extend PySem.F.type_list_extend mt_extend (pv 1) (pa_cons (pe_methD0 (pv 2) D_takes (hr.mono (by omega)) pass0) pa_nil))))) (pss_one (ps_ret (pe_callB (call_sortedP (hu_40 hr) rfl) rfl T.sorted boot_sorted (pa_cons (pe_callTy (call_setP (hu_20 hr) rfl) rfl T.set boot_set (pa_cons (pv 1) pa_nil)) pa_nil)))))),?_⟩
  refine⟨by show 0<=sizeLine;decide,fun pl hpl=>?_⟩
  have back:∀c o,upd H pl (.lst []) c=some o->c≠pl->H c=some o:=fun c o z n=>by rw [upd_ne n]at z;exact z
  generalize e:upd H pl _=H1 at back
  obtain⟨s1,e1⟩:=new_of hpl e
  refine⟨_,rfl,p,_,dx,fs,rfl,s1 _ _ hp,isC N t,(nT t fs H hf).2,p,dx,fs,t,rfl,s1 _ _ hp,hf.same s1,rfl,fun l xs H2 s2 hl e2 pk=>?_⟩
  have pl_l:l≠pl:=Ne.symm (ne_of_none e1 hl)
  have s02:=s1.trans s2
  have kl3:=kid_len t
  have xl:=Paired.length pk
  refine⟨l,rfl,⟨_,SqL.of e2⟩,?_⟩
  refine for_list (K:=K) (a:=l) (xs:=xs) (fun i σ H3=>∃(v2:Option V) (ps:List TkR),σ=[some (.ref p),some (.ref pl),v2]/\Same H H3/\H3 l=some (.lst xs)/\H3 pl=some (.lst (ps.map fun x=>V.ref x.2))/\(∀x∈ps,PKy H3 x)/\ps.length<=17*i/\∀x,x∈ps.map (·.1)↔x∈((kids t).take i).flatMap raw)
   ⟨none,[],rfl,s02,e2,s2 _ _ e1,(fun _ h=>nomatch h),Nat.zero_le _,fun x=>by simp⟩ (fun i σ H3 _ ⟨_,_,_,_,h3,_⟩=>SqL.of h3) ?_ ?_
  ·rintro i x σ H3 hx ⟨v2,ps,rfl,s3,hl3,hp3,pk3,len3,mem3⟩
   obtain⟨k,hk,tr⟩:=L2.Paired.get2 pk hx
   have km':=List.mem_of_getElem? hk
   have kn:KpN H1 H3:=fun c o z n=>s3 c o (back c o z fun y=>by rw [y,e1]at z;cases z;exact n _ rfl)
   obtain⟨a,da,fa,rfl,ha,fla⟩:=tr.keep kn
   have hk':=kid_ht km'
   refine⟨_,rfl,.inl ⟨rfl,_,SqL.of hp3⟩,_,rfl,a,_,da,fa,rfl,ha,isC N k,(nT k fa H3 fla).1,a,da,fa,k,rfl,ha,fla,rfl,by omega,⟨ks,kl,fun x hx=>km x (kid_raw km' x hx)⟩,fun l2 ps2 H4 s4 hl2 e4 pk4 tk4=>?_⟩
   have l17:ps2.length<=17:=by
    have:=(nodup_srt tk4.1).length_le_of_subset (l₂:=ks) fun x hx=>km x (kid_raw km' x ((tk4.2 x).mp hx))
    rw [List.length_map]at this
    omega
   have il:i<xs.length:=(List.getElem?_eq_some_iff.mp hx).1
   refine⟨pl,l2,_,_,rfl,rfl,s4 _ _ hp3,e4,by rw [List.length_map,List.length_map,sizeLine_eq];omega,?_⟩
   have up:∀c o,H4 c=some o->(∀xs,o≠ .lst xs)->upd H4 pl (.lst (ps.map (fun x=>V.ref x.2)++ps2.map fun x=>V.ref x.2)) c=some o:=fun c o z n=>by
    rw [upd_ne fun y=>by rw [y,s4 _ _ hp3]at z;cases z;exact n _ rfl];exact z
   have pkU:∀x:TkR,PKy H4 x->PKy (upd H4 pl (.lst (ps.map (fun x=>V.ref x.2)++ps2.map fun x=>V.ref x.2))) x:=fun x ⟨q,h1,h2⟩=>⟨q,up _ _ h1 (by intro _ z;cases z),up _ _ h2 (by intro _ z;cases z)⟩
   refine⟨_,ps++ps2,rfl,sameUpd hpl (s3.trans s4),by rw [upd_ne pl_l];exact s4 _ _ hl3,by rw [upd_same,List.map_append],fun x hx=>?_,by rw [List.length_append];omega,fun x=>?_⟩
   ·rcases List.mem_append.mp hx with m|m
    ·exact pkU x ((pk3 x m).same s4)
    ·exact pkU x (pk4 x m)
   ·rw [List.map_append,List.mem_append,mem3 x,tk4.2 x,List.take_succ,hk,List.flatMap_append,List.mem_append]
    simp
  ·rintro σ H3 ⟨v2,ps,rfl,s3,hl3,hp3,pk3,len3,mem3⟩
   rw [<-xl,List.take_length]at mem3
   refine⟨_,rfl,pl,ps,rfl,SqL.of hp3,pk3,by omega,⟨ks,kl,fun x hx=>km _ ((raw_kids (hC t hc) _).mp ((mem3 _).mp (List.mem_map.mpr ⟨x,hx,rfl⟩)))⟩,fun l2 zs hl2 nd sub cov zl=>?_⟩
   generalize e:upd H3 l2 _=H4
   obtain⟨s4,e4⟩:=new_of hl2 e
   refine⟨l2,zs,rfl,e4,fun x hx=>(pk3 x (sub x hx)).same s4,?_,fun l3 ys hl3' py sy=>?_⟩
   ·have:=nd.length_le_of_subset (l₂:=ks) fun x hx=>by
     obtain⟨z,hz,rfl⟩:=List.mem_map.mp hx
     exact km _ ((raw_kids (hC t hc) _).mp ((mem3 _).mp (List.mem_map.mpr ⟨z,sub z hz,rfl⟩)))
    rw [List.length_map]at this
    omega
   generalize e:upd H4 l3 _=H5
   obtain⟨s5,e5⟩:=new_of hl3' e
   refine q l3 ys H5 (s3.trans (s4.trans s5)) (s3.free (s4.free hl3')) e5 (fun x hx=>((pk3 x (sub x (py.mem_iff.mp hx))).same s4).same s5) ⟨List.pairwise_map.mpr sy,fun x=>?_⟩
   rw [<-raw_kids (hC t hc) x, <-mem3 x,List.mem_map,List.mem_map]
   constructor
   ·rintro⟨y,hy,e⟩
    exact⟨y,sub y (py.mem_iff.mp hy),e⟩
   ·rintro⟨y,hy,e⟩
    obtain⟨z,hz,ez⟩:=cov y hy
    exact⟨z,py.mem_iff.mpr hz,ez.trans e⟩
end
end KJ
namespace KJ
open PySem PyProof.Rows L2
section
variable {P:Program} {w:World} {K:W.Frag} {mg:Str->Option Value} {base:Heap} {N:Cn}
theorem scKTakes:FnScope ["self"] ["self"] (defScope sKTakes):=⟨rfl,rfl,rfl,by decide+kernel,rfl,by decide+kernel,by decide+kernel⟩
theorem ok_ktakes {f C:Addr} {fd:FuncData} {d:Nat} (F:Fun K "takes" "Take.takes" sKTakes f fd) (c:Cf K C ["back","steps"]) (hC:∀t,cls N t=C->∃b ss,t= .take b ss):FnOk P w K mg base CX0 (d+1) f fd ["self"] (spTakes N d C):=by
 refine F.ok scKTakes (fun vs H Q E h=>?_) (fun cdv A outer s H vs Q E hr h=>?_)
 ·obtain⟨p,dx,fs,t,rfl,_⟩:=h
  rfl
 ·obtain⟨p,dx,fs,t,rfl,hp,hf,hc,hd,_,q⟩:=h
  refine⟨_,(pss_one (ps_ret (pe_lst (pa_cons (pe_tup (pa_cons (pe_fld (pv 0) rfl) (pa_cons (pe_fld (pv 0) rfl) pa_nil))) pa_nil)))),?_⟩
  obtain⟨b,ss,rfl⟩:=hC t hc
  rw [hc]at hp
  obtain⟨u,rfl,hu⟩:=hf
  refine⟨_,rfl,p,C,dx,_,_,rfl,hp,c.cl,c.na _ (by simp),rfl,_,rfl,p,C,dx,_,_,rfl,hp,c.cl,c.na _ (by simp),rfl,by show 2<=sizeLine;decide,fun t1 n1=>?_⟩
  generalize e:upd H t1 _=H1
  obtain⟨s1,e1⟩:=new_of n1 e
  refine⟨by show 1<=sizeLine;decide,fun l n2=>?_⟩
  generalize e:upd H1 l _=H2
  obtain⟨s2,e2⟩:=new_of n2 e
  refine q l [((b,ss),t1)] H2 (s1.trans s2) (s1.free n2) e2 (fun x hx=>?_) ⟨List.pairwise_singleton ..,fun x=>Iff.rfl⟩
  rw [List.mem_singleton.mp hx]
  exact⟨u,s2 _ _ e1,s2 _ _ (s1 _ _ hu)⟩
abbrev NTDepth:List Str:=["self"]
theorem scTDepth:FnScope ["self"] ["self"] (defScope sTDepth):=⟨rfl,rfl,rfl,by decide+kernel,rfl,by decide+kernel,by decide+kernel⟩
theorem ok_tdepth {f C:Addr} {fd:FuncData} {d:Nat} (F:Fun K "depth" "Term.depth" sTDepth f fd) (D_inner:Dis P w K mg base CX0 1 (IsC N) "inner" ["self"] (spInner N)) (D_depth:Dis P w K mg base CX0 (d+1) (IsC N) "depth" ["self"] (spNum N ht d)) (T:Txt K mg)
  (nI:∀(t:Tm) (fs:List (Str×V)) H,FldAt N H fs t->fs.lookup ("inner":Str)=none) (nD:∀(t:Tm) (fs:List (Str×V)) H,FldAt N H fs t->fs.lookup ("depth":Str)=none):FnOk P w K mg base CX0 (d+2) f fd ["self"] (spNum N ht (d+1) C):=by
 refine F.ok scTDepth (fun vs H Q E h=>?_) (fun cdv A outer s H vs Q E hr h=>?_)
 ·obtain⟨p,dx,fs,t,rfl,_⟩:=h
  rfl
 ·obtain⟨p,dx,fs,t,rfl,hp,hf,hc,hd,q⟩:=h
  refine⟨_,(pss_one (ps_ret (pe_op op_add pe_int (pe_callBK (call_maxD rfl) rfl T.max boot_max (pa_cons (pe_cp (own:=["part"]) (cap:=[]) (g:=gName 0) (defScope sTDepth) NTDepth rfl rfl (fun x h=>cell_has h) (by decide+kernel) rfl (pi_list (pe_methD0 (pv 0) D_inner (hr.mono (by omega)) pass0)) (fun cl C s2 H2 fp=>(pg_name (i:=0) (show(["part"]:List Str).Nodup by decide+kernel) rfl (Or.inl rfl) (Or.inr rfl))) (fun cl C s2 H2 fp=>(pe_methD0 (pv 0) D_depth (hr.mono (by omega)) pass0))) pa_nil) (pk_cons pe_int pk_nil))))),?_⟩
  refine⟨_,rfl,p,_,dx,fs,rfl,hp,isC N t,nI t fs H hf,p,dx,fs,t,rfl,hp,hf,rfl,fun l xs H2 s2 hl e2 pk=>?_⟩
  have kl3:=kid_len t
  have xl:=Paired.length pk
  refine⟨l,rfl,⟨_,SqL.of e2⟩,fun D hD=>?_⟩
  refine comp_list (K:=K) (a:=l) (xs:=xs) (fun i acc σ H3=>(∃v0,σ=[v0])/\Same H2 H3/\H3 D=some (.lst acc)/\acc=natVs (((kids t).take i).map ht)) ⟨⟨_,rfl⟩,sameNew hD,upd_same,rfl⟩ (fun i acc σ H3 _ ⟨_,s3,_⟩=>SqL.of (s3 _ _ e2)) ?_ ?_
  ·rintro i x acc σ H3 hi hx ⟨⟨v0,rfl⟩,s3,hD3,rfl⟩
   obtain⟨k,hk,tr⟩:=L2.Paired.get2 pk hx
   have km':=List.mem_of_getElem? hk
   obtain⟨a,da,fa,rfl,ha,fla⟩:=tr.same (s2.trans s3)
   have hk':=kid_ht km'
   refine⟨_,rfl,a,_,da,fa,rfl,ha,isC N k,nD k fa H3 fla,a,da,fa,k,rfl,ha,fla,rfl,by omega,fun H4 s4=>?_⟩
   refine cturn (s4 _ _ hD3) (small ?_) hi ⟨⟨_,rfl⟩,sameUpd hD (s3.trans s4),upd_same,?_⟩
   ·unfold natVs;rw [List.length_map,List.length_map,List.length_take];omega
   ·unfold natVs;rw [List.take_succ,hk,List.map_append,List.map_append];rfl
  ·rintro acc σ H3 ⟨_,s3,hD3,rfl⟩
   rw [<-xl,List.take_length]at hD3
   dsimp only [tNil,tCons,tC]
   refine maxD_nat (SqL.of hD3) fun b h1 h2=>?_
   refine⟨_,_,rfl,rfl,?_⟩
   have:=q H3 (s2.trans s3)
   rw [<-ht_kids h1 h2]at this
   exact this
abbrev NTParts:List Str:=["self"]
theorem scTParts:FnScope ["self"] ["self"] (defScope sTParts):=⟨rfl,rfl,rfl,by decide+kernel,rfl,by decide+kernel,by decide+kernel⟩
theorem ok_tparts {f C:Addr} {fd:FuncData} {d:Nat} (F:Fun K "parts" "Term.parts" sTParts f fd) (D_inner:Dis P w K mg base CX0 1 (IsC N) "inner" ["self"] (spInner N)) (D_parts:Dis P w K mg base CX0 (d+1) (IsC N) "parts" ["self"] (spNum N prts d)) (T:Txt K mg)
  (nI:∀(t:Tm) (fs:List (Str×V)) H,FldAt N H fs t->fs.lookup ("inner":Str)=none) (nD:∀(t:Tm) (fs:List (Str×V)) H,FldAt N H fs t->fs.lookup ("parts":Str)=none) (small_:∀t,ht t<=d->prts t<=1000):FnOk P w K mg base CX0 (d+2) f fd ["self"] (spNum N prts (d+1) C):=by
 refine F.ok scTParts (fun vs H Q E h=>?_) (fun cdv A outer s H vs Q E hr h=>?_)
 ·obtain⟨p,dx,fs,t,rfl,_⟩:=h
  rfl
 ·obtain⟨p,dx,fs,t,rfl,hp,hf,hc,hd,q⟩:=h
  refine⟨_,(pss_one (ps_ret (pe_op op_add pe_int (pe_callB (call_sum rfl) rfl T.sum boot_sum (pa_cons (pe_cp (own:=["part"]) (cap:=[]) (g:=gName 0) (defScope sTParts) NTParts rfl rfl (fun x h=>cell_has h) (by decide+kernel) rfl (pi_list (pe_methD0 (pv 0) D_inner (hr.mono (by omega)) pass0)) (fun cl C s2 H2 fp=>(pg_name (i:=0) (show(["part"]:List Str).Nodup by decide+kernel) rfl (Or.inl rfl) (Or.inr rfl))) (fun cl C s2 H2 fp=>(pe_methD0 (pv 0) D_parts (hr.mono (by omega)) pass0))) pa_nil))))),?_⟩
  refine⟨_,rfl,p,_,dx,fs,rfl,hp,isC N t,nI t fs H hf,p,dx,fs,t,rfl,hp,hf,rfl,fun l xs H2 s2 hl e2 pk=>?_⟩
  have kl3:=kid_len t
  have xl:=Paired.length pk
  refine⟨l,rfl,⟨_,SqL.of e2⟩,fun D hD=>?_⟩
  refine comp_list (K:=K) (a:=l) (xs:=xs) (fun i acc σ H3=>(∃v0,σ=[v0])/\Same H2 H3/\H3 D=some (.lst acc)/\acc=natVs (((kids t).take i).map prts)) ⟨⟨_,rfl⟩,sameNew hD,upd_same,rfl⟩ (fun i acc σ H3 _ ⟨_,s3,_⟩=>SqL.of (s3 _ _ e2)) ?_ ?_
  ·rintro i x acc σ H3 hi hx ⟨⟨v0,rfl⟩,s3,hD3,rfl⟩
   obtain⟨k,hk,tr⟩:=L2.Paired.get2 pk hx
   have km':=List.mem_of_getElem? hk
   obtain⟨a,da,fa,rfl,ha,fla⟩:=tr.same (s2.trans s3)
   have hk':=kid_ht km'
   refine⟨_,rfl,a,_,da,fa,rfl,ha,isC N k,nD k fa H3 fla,a,da,fa,k,rfl,ha,fla,rfl,by omega,fun H4 s4=>?_⟩
   refine cturn (s4 _ _ hD3) (small ?_) hi ⟨⟨_,rfl⟩,sameUpd hD (s3.trans s4),upd_same,?_⟩
   ·unfold natVs;rw [List.length_map,List.length_map,List.length_take];omega
   ·unfold natVs;rw [List.take_succ,hk,List.map_append,List.map_append];rfl
  ·rintro acc σ H3 ⟨_,s3,hD3,rfl⟩
   rw [<-xl,List.take_length]at hD3
   dsimp only [tNil]
   refine sum_ok hD3 (by rw [List.length_map];omega) (fun k hk=>?_) ?_
   ·obtain⟨u,hu,rfl⟩:=List.mem_map.mp hk
    have:=kid_ht hu
    exact small_ u (by omega)
   refine⟨_,_,rfl,rfl,?_⟩
   have:=q H3 (s2.trans s3)
   rw [<-prts_kids t]at this
   exact this
end
end KJ
namespace KJ
open PySem PyProof.Rows L2
theorem Kp.new {a q:Addr} {H H':Hp} {o:HO} (k:Kp a H H') (hq:H' q=none):Kp a H (upd H' q o):=fun b u e n=>by
 have:=k b u e n
 rw [upd_ne (ne_of_none this hq)];exact this
theorem Kp.free {a q:Addr} {H H':Hp} (k:Kp a H H') (w:WellAt H' a) (hq:H' q=none):H q=none:=by
 cases g:H q with
 |none=>rfl
 |some o=>
  have n:q≠a:=fun z=>by obtain⟨x,y,z',e⟩:=w;rw [z,e]at hq;cases hq
  rw [k q o g n]at hq;cases hq
theorem Kp.upd {a q:Addr} {H H':Hp} {o:HO} (k:Kp a H H') (hq:H q=none):Kp a H (upd H' q o):=fun b u e n=>by
 rw [upd_ne (ne_of_none e hq)];exact k b u e n
theorem WellAt.upd {a q:Addr} {H:Hp} {o:HO} (h:WellAt H a) (n:q≠a):WellAt (upd H q o) a:=by
 obtain⟨x,y,z,e⟩:=h
 exact⟨x,y,z,by rw [upd_ne (Ne.symm n)];exact e⟩
theorem _root_.L2.PKy.mono {H H':Hp} (k:∀c zs,H c=some (.tup zs)->H' c=some (.tup zs)) {x:TkR} (h:PKy H x):PKy H' x:=let⟨q,h1,h2⟩:=h;⟨q,k _ _ h1,k _ _ h2⟩
def spSteps:Sp:=fun vs H Q _=>∃(a:Addr) (n:Nat),vs=[.ref a,natV n]/\WellAt H a/\n<=3/\∀(q:Addr) (ss:List Int) (H':Hp),Kp a H H'->WellAt H' a->H' q=some (.tup (ss.map V.int))->ss.length=n->(∀s∈ss, -9<=s/\s<=9)->Q (.ref q) H'
def spSome:Sp:=fun vs H Q _=>∃(a:Addr) (n:Nat),vs=[.ref a,natV n]/\WellAt H a/\n<=3/\∀(l:Addr) (ps:List TkR) (H':Hp),Kp a H H'->WellAt H' a->H l=none->H' l=some (.lst (ps.map fun x=>V.ref x.2))->(∀x∈ps,PKy H' x/\x.1.2.length=n/\GoodT x.1)->ps.length<=4->Q (.ref l) H'
def spNumber:Sp:=fun vs H Q _=>∃(a:Addr),vs=[.ref a]/\WellAt H a/\∀(v:V) (n:Int) (H':Hp),Kp a H H'->WellAt H' a->TupAt H' (.num n) v-> -1000000000000<=n->n<=1000000000000->Q v H'
section
variable {P:Program} {w:World} {K:W.Frag} {mg:Str->Option Value} {base:Heap}
abbrev NSteps:List Str:=["_law_well_here","_law_lines","_law_wide"]
theorem scSteps:FnScope ["_law_well_here","_law_lines","_law_wide"] ["_law_well_here","_law_lines"] (defScope sSteps):=⟨rfl,rfl,rfl,by decide+kernel,rfl,by decide+kernel,by decide+kernel⟩
theorem ok_steps {f:Addr} {fd:FuncData} (F:Fun K "_law_steps" "_law_steps" sSteps f fd) (c_draw:Cal P w K mg base CX0 1 "_law_draw" ["_law_well_here","_law_most"] spDraw) (T:Txt K mg):FnOk P w K mg base CX0 2 f fd ["_law_well_here","_law_lines"] spSteps:=by
 refine F.ok scSteps (fun vs H Q E h=>?_) (fun cdv A outer s H vs Q E hr h=>?_)
 ·obtain⟨a,n,rfl,_⟩:=h
  rfl
 ·obtain⟨a,n,rfl,wa,n3,q⟩:=h
  refine⟨_,(@pss_cons _ _ _ _ _ (ps_set (i:=2) scSteps.nd rfl (Or.inr rfl) (pe_ix ix_list (pe_lst (pa_cons pe_int (pa_cons pe_int (pa_cons pe_int (pa_cons pe_int pa_nil))))) (pe_c c_draw (hr.mono (by decide)) rfl pass0 (pa_cons (pv 0) (pa_cons pe_int pa_nil))) (fun _ _=>rfl))) (@pss_one _ _ _ (ps_ret (pe_callTy call_tuple_of rfl T.tuple boot_tuple (pa_cons (pe_cp (own:=["_law_k"]) (cap:=[("_law_well_here",0),("_law_wide",2)]) (g:=gName 0) (defScope sSteps) NSteps rfl rfl (fun x h=>cell_has h) (by decide+kernel) rfl (pi_range1 rfl T.range (pa_cons (pv 1) pa_nil)) (fun cl C s2 H2 fp=>(pg_name (i:=0) (show(["_law_k","_law_well_here","_law_wide"]:List Str).Nodup by decide+kernel) rfl (Or.inl rfl) (Or.inr rfl))) (fun cl C s2 H2 fp=>(pe_op op_sub (pe_c c_draw (hr.mono (by decide)) rfl pass0 (pa_cons (pv 1) (pa_cons (pv 2) pa_nil))) (pe_op op_fdiv (pv 2) pe_int)))) pa_nil))))),?_⟩
  refine⟨by show 4<=sizeLine;decide,fun l0 hl0=>⟨_,rfl,a,4,rfl,wa.new hl0,by decide,by decide,fun r0 H1 hr0 k1' w1=>?_⟩⟩
  have l0a:l0≠a:=wa.ne hl0
  obtain⟨wide,hv,wp,w19⟩:∃v:Nat,([V.int 3,V.int 3,V.int 5,V.int 19]:List V)[r0]? =some (natV v)/\0<v/\v<=19:=by
   match r0,(show r0<4 by omega)with
   |0,_=>exact⟨3,rfl,by decide,by decide⟩
   |1,_=>exact⟨3,rfl,by decide,by decide⟩
   |2,_=>exact⟨5,rfl,by decide,by decide⟩
   |3,_=>exact⟨19,rfl,by decide,by decide⟩
  refine⟨l0,_,_,_,rfl,rfl,SqL.of (k1' _ _ upd_same l0a),atI_nat hv,?_⟩
  have k1:Kp a H H1:=(Kp.of (sameNew hl0)).trans k1'
  refine⟨_,rfl,(n:Int),rfl,by omega,by omega,fun D hD=>?_⟩
  have hDn:=k1.free w1 hD
  have hDa:D≠a:=w1.ne hD
  refine comp_range (fun i acc σ H2=>∃(v0:Option V) (ss:List Int),σ=[v0,some (.ref a),some (natV wide)]/\Kp a H H2/\WellAt H2 a/\H2 D=some (.lst acc)/\acc=ss.map V.int/\ss.length=i/\∀s∈ss, -9<=s/\s<=9) ⟨_,[],rfl,k1.new hD,w1.new hD,upd_same,rfl,rfl,fun _ h=>nomatch h⟩ ?_ ?_
  ·rintro i acc σ H2 hi ⟨v0,ss,rfl,k2,w2,hD2,rfl,hll,bd⟩
   refine⟨_,rfl,_,rfl,a,(wide:Int),rfl,w2,by omega,by omega,fun r H4 hr4 k4 w4=>?_⟩
   have hD4:H4 D=some (.lst (ss.map V.int)):=k4 _ _ hD2 hDa
   refine⟨_,rfl,_,_,rfl,rfl,⟨by decide,by decide⟩,_,_,rfl,rfl,cturn hD4 (small (by rw [List.length_map];omega)) hi ⟨_,ss++[(r:Int)-(wide:Int) / 2],rfl,(k2.trans k4).upd hDn,w4.upd hDa,upd_same,by rw [List.map_append];rfl,by rw [List.length_append,hll];rfl,fun z hz=>by
    rcases List.mem_append.mp hz with m|m
    ·exact bd z m
    ·rw [List.mem_singleton.mp m];omega⟩⟩
  ·rintro acc σ H2 ⟨v0,ss,rfl,k2,w2,hD2,rfl,hll,bd⟩
   refine⟨D,_,rfl,.inl ⟨SqL.of hD2,fun t ht=>?_⟩⟩
   exact q t ss _ (k2.new ht) (w2.new ht) upd_same (by rw [hll];omega) bd
end
end KJ
namespace KJ
open PySem PyProof.Rows L2
section
variable {P:Program} {w:World} {K:W.Frag} {mg:Str->Option Value} {base:Heap}
abbrev NSome:List Str:=["_law_well_here","_law_lines"]
theorem scSome:FnScope ["_law_well_here","_law_lines"] ["_law_well_here","_law_lines"] (defScope sSome):=⟨rfl,rfl,rfl,by decide+kernel,rfl,by decide+kernel,by decide+kernel⟩
theorem ok_some {f:Addr} {fd:FuncData} (F:Fun K "_law_some_takes" "_law_some_takes" sSome f fd) (c_draw:Cal P w K mg base CX0 1 "_law_draw" ["_law_well_here","_law_most"] spDraw) (c_steps:Cal P w K mg base CX0 2 "_law_steps" ["_law_well_here","_law_lines"] spSteps) (T:Txt K mg):FnOk P w K mg base CX0 3 f fd ["_law_well_here","_law_lines"] spSome:=by
 refine F.ok scSome (fun vs H Q E h=>?_) (fun cdv A outer s H vs Q E hr h=>?_)
 ·obtain⟨a,n,rfl,_⟩:=h
  rfl
 ·obtain⟨a,n,rfl,wa,n3,q⟩:=h
  refine⟨_,(pss_one (ps_ret (pe_cp (own:=["_law_k"]) (cap:=[("_law_well_here",0),("_law_lines",1)]) (g:=gName 0) (defScope sSome) NSome rfl rfl (fun x h=>cell_has h) (by decide+kernel) rfl (pi_range1 rfl T.range (pa_cons (pe_c c_draw (hr.mono (by decide)) rfl pass0 (pa_cons (pv 0) (pa_cons pe_int pa_nil))) pa_nil)) (fun cl C s2 H2 fp=>(pg_name (i:=0) (show(["_law_k","_law_well_here","_law_lines"]:List Str).Nodup by decide+kernel) rfl (Or.inl rfl) (Or.inr rfl))) (fun cl C s2 H2 fp=>(pe_tup (pa_cons (pe_op op_add pe_int (pe_c c_draw (hr.mono (by decide)) rfl pass0 (pa_cons (pv 1) (pa_cons pe_int pa_nil)))) (pa_cons (pe_c c_steps (hr.mono (by decide)) rfl pass0 (pa_cons (pv 1) (pa_cons (pv 2) pa_nil))) pa_nil))))))),?_⟩
  refine⟨_,rfl,a,5,rfl,wa,by decide,by decide,fun r0 H1 hr0 k1 w1=>?_⟩
  refine⟨(r0:Int),rfl,by omega,by omega,fun D hD=>?_⟩
  have hDn:=k1.free w1 hD
  have hDa:D≠a:=w1.ne hD
  refine comp_range (fun i acc σ H2=>∃(v0:Option V) (ps:List TkR),σ=[v0,some (.ref a),some (natV n)]/\Kp a H H2/\WellAt H2 a/\H2 D=some (.lst acc)/\acc=(ps.map fun x=>V.ref x.2)/\ps.length=i/\∀x∈ps,PKy H2 x/\x.1.2.length=n/\GoodT x.1) ⟨_,[],rfl,k1.new hD,w1.new hD,upd_same,rfl,rfl,fun _ h=>nomatch h⟩ ?_ ?_
  ·rintro i acc σ H2 hi ⟨v0,ps,rfl,k2,w2,hD2,rfl,hll,pk⟩
   refine⟨_,rfl,a,3,rfl,w2,by decide,by decide,fun r H4 hr4 k4 w4=>⟨_,_,rfl,rfl,?_⟩⟩
   refine⟨_,rfl,_,rfl,a,n,rfl,w4,n3,fun u ss H5 k5 w5 e5 sl sb=>?_⟩
   refine⟨by show 2<=sizeLine;decide,fun t ht=>?_⟩
   have k25:=k4.trans k5
   have hD5:H5 D=some (.lst (ps.map fun x=>V.ref x.2)):=k25 _ _ hD2 hDa
   have tD:t≠D:=Ne.symm (ne_of_none hD5 ht)
   have uD:u≠D:=fun z=>by rw [z,hD5]at e5;cases e5
   refine cturn (by rw [upd_ne (Ne.symm tD)];exact hD5) (small (by rw [List.length_map];omega)) hi ⟨_,ps++[((1+(r:Int),ss),t)],rfl,((k2.trans k25).new ht).upd hDn,(w5.new ht).upd hDa,upd_same,by rw [List.map_append];rfl,by rw [List.length_append,hll];rfl,fun x hx=>?_⟩
   have up:∀c zs,H5 c=some (.tup zs)->upd (upd H5 t (.tup [V.int (1+(r:Int)),V.ref u])) D (.lst (ps.map (fun x=>V.ref x.2)++[V.ref t])) c=some (.tup zs):=fun c zs e=>by
    have cD:c≠D:=fun z=>by rw [z,hD5]at e;cases e
    rw [upd_ne cD,upd_ne (ne_of_none e ht)]
    exact e
   rcases List.mem_append.mp hx with m|m
   ·obtain⟨g1,g2⟩:=pk x m
    exact⟨g1.mono fun c zs e=>up c zs (k25.tup w2 e),g2⟩
   ·rw [List.mem_singleton.mp m]
    exact⟨⟨u,by rw [upd_ne tD,upd_same],up _ _ e5⟩,sl,by show 1<=1+(r:Int);omega,by show 1+(r:Int)<=3;omega,sb⟩
  ·rintro acc σ H2 ⟨v0,ps,rfl,k2,w2,hD2,rfl,hll,pk⟩
   exact q D ps H2 k2 w2 hDn hD2 pk (by omega)
end
end KJ
namespace KJ
open PySem PyProof.Rows L2
section
variable {P:Program} {w:World} {K:W.Frag} {mg:Str->Option Value} {base:Heap}
theorem scNumber:FnScope ["_law_well_here","_law_far"] ["_law_well_here"] (defScope sNumber):=⟨rfl,rfl,rfl,by decide+kernel,rfl,by decide+kernel,by decide+kernel⟩
theorem ok_number {f:Addr} {fd:FuncData} (F:Fun K "_law_number" "_law_number" sNumber f fd) (c_draw:Cal P w K mg base CX0 1 "_law_draw" ["_law_well_here","_law_most"] spDraw):FnOk P w K mg base CX0 2 f fd ["_law_well_here"] spNumber:=by
 refine F.ok scNumber (fun vs H Q E h=>?_) (fun cdv A outer s H vs Q E hr h=>?_)
 ·obtain⟨a,rfl,_⟩:=h
  rfl
 ·obtain⟨a,rfl,wa,q⟩:=h
  refine⟨_,(@pss_cons _ _ _ _ _ (ps_set (i:=1) scNumber.nd rfl (Or.inl rfl) (pe_ix ix_list (pe_lst (pa_cons pe_int (pa_cons pe_int (pa_cons (pe_op op_add (pe_op op_mul pe_int (pe_op op_pow pe_int pe_int)) pe_int) pa_nil)))) (pe_c c_draw (hr.mono (by decide)) rfl pass0 (pa_cons (pv 0) (pa_cons pe_int pa_nil))) (fun _ _=>rfl))) (@pss_one _ _ _ (ps_ret (pe_tup (pa_cons pe_str (pa_cons (pe_op op_sub (pe_c c_draw (hr.mono (by decide)) rfl pass0 (pa_cons (pv 0) (pa_cons (pv 1) pa_nil))) (pe_op op_fdiv (pv 1) pe_int)) pa_nil)))))),?_⟩
  refine⟨_,_,rfl,rfl,⟨by decide,by decide,by decide⟩,_,_,rfl,rfl,.inl ⟨by decide,by decide⟩,_,_,rfl,rfl,by show 3<=sizeLine;decide,fun l0 hl0=>⟨_,rfl,a,3,rfl,wa.new hl0,by decide,by decide,fun r0 H1 hr0 k1' w1=>?_⟩⟩
  have l0a:l0≠a:=wa.ne hl0
  obtain⟨far,hv,f0,f1⟩:∃v:Nat,([V.int 7,V.int 201,V.int (2*10 ^ 12+1)]:List V)[r0]? =some (natV v)/\0<v/\v<=2000000000001:=by
   match r0,(show r0<3 by omega)with
   |0,_=>exact⟨7,rfl,by decide,by decide⟩
   |1,_=>exact⟨201,rfl,by decide,by decide⟩
   |2,_=>exact⟨2000000000001,rfl,by decide,by decide⟩
  refine⟨l0,_,_,_,rfl,rfl,SqL.of (k1' _ _ upd_same l0a),atI_nat hv,?_⟩
  have k1:Kp a H H1:=(Kp.of (sameNew hl0)).trans k1'
  refine⟨_,rfl,_,rfl,a,(far:Int),rfl,w1,by omega,by omega,fun r H2 hr2 k2 w2=>?_⟩
  refine⟨_,rfl,_,_,rfl,rfl,⟨by decide,by decide⟩,_,_,rfl,rfl,by show 2<=sizeLine;decide,fun t ht=>?_⟩
  exact q _ _ _ ((k1.trans k2).new ht) (w2.new ht) ⟨t,rfl,upd_same⟩ (by omega) (by omega)
end
end KJ
namespace KJ
open PySem PyProof.Rows L2
structure SomeAt (H:Hp) (so:Addr) (ps:List TkR):Prop where
 at_:H so=some (.lst (ps.map fun x=>V.ref x.2))
 pk:∀x∈ps,PKy H x
 len:ps.length<=8
theorem SomeAt.kp {a:Addr} {H H':Hp} {so:Addr} {ps:List TkR} (k:Kp a H H') (w:WellAt H a) (n:so≠a) (h:SomeAt H so ps):SomeAt H' so ps:=⟨k _ _ h.at_ n,fun x hx=>(h.pk x hx).mono fun _ _ e=>k.tup w e,h.len⟩
def spTold (d:Nat):Sp:=fun vs H Q _=>∃(a so:Addr) (ps:List TkR) (e:Nat),vs=[.ref a,.ref so,natV e]/\WellAt H a/\so≠a/\SomeAt H so ps/\e<d/\∀(v:V) (t:Tm) (H':Hp),Kp a H H'->WellAt H' a->TupAt H' t v->ht t<=e+1->Wf t->(∀x∈raw t,x∈ps.map (·.1))->Q v H'
abbrev Av0:Addr->Prop:=fun _=>False
def dTk (x:Tk):D:= .tp [.fl (.int x.1),.tp (x.2.map fun k=> .fl (.int k))]
def dTks (l:List Tk):D:= .ls (l.map dTk)
theorem dens_ints {H:Hp}:∀l:List Int,DensN Av0 H (l.map fun k=> .fl (.int k)) (l.map V.int)
 | []=>rfl
 |n::ns=>⟨_,_,rfl,⟨rfl,rfl⟩,dens_ints ns⟩
theorem dens_tks {H:Hp}:∀{ps:List TkR},(∀x∈ps,PKy H x)->DensN Av0 H ((ps.map (·.1)).map dTk) (ps.map fun x=>V.ref x.2)
 | [],_=>rfl
 |x::ps,h=>by
  obtain⟨q,h1,h2⟩:=h x List.mem_cons_self
  exact⟨_,_,rfl,⟨x.2,_,rfl,h1,.cons .fl (.cons ⟨q,_,rfl,h2,dens_ints x.1.2⟩ .nil)⟩,dens_tks fun y hy=>h y (List.mem_cons_of_mem _ hy)⟩
theorem dep_ints:∀l:List Int,D.deps (l.map fun k=>D.fl (.int k))=0
 | []=>by rw [List.map_nil,D.deps]
 |n::ns=>by rw [List.map_cons,D.deps,D.dep,dep_ints ns];rfl
theorem dep_tks:∀l:List Tk,D.deps (l.map dTk)<=2
 | []=>by rw [List.map_nil,D.deps];decide
 |x::l=>by
  rw [List.map_cons,D.deps]
  refine Nat.max_le.mpr ⟨?_,dep_tks l⟩
  simp [dTk,D.dep,D.deps,dep_ints]
theorem fn_none {P:Program} {w:World} {K:W.Frag} {mg:Str->Option Value} {base:Heap} {CX:CXT} {k:Nat} {f:Addr} {fd:FuncData} {ps:List Str} {sp:Sp} (h:∀vs H Q E,¬sp vs H Q E):FnOk P w K mg base CX k f fd ps sp:=
 ⟨fun vs H Q E z=>absurd z (h vs H Q E),fun _ _ _ H _ _ vs Q E _ _ _ _ z=>absurd z (h vs H Q E)⟩
section
variable {P:Program} {w:World} {K:W.Frag} {mg:Str->Option Value} {base:Heap}
theorem scTold:FnScope ["_law_well_here","_law_some","_law_deep","_law_way","_law_one","_law_other"] ["_law_well_here","_law_some","_law_deep"] (defScope sTold):=⟨rfl,rfl,rfl,by decide+kernel,rfl,by decide+kernel,by decide+kernel⟩
theorem ok_told {f:Addr} {fd:FuncData} {d:Nat} (F:Fun K "_law_told" "_law_told" sTold f fd) (c_draw:Cal P w K mg base CX0 1 "_law_draw" ["_law_well_here","_law_most"] spDraw) (c_number:Cal P w K mg base CX0 2 "_law_number" ["_law_well_here"] spNumber)
  (c_told:Cal P w K mg base CX0 (d+2) "_law_told" ["_law_well_here","_law_some","_law_deep"] (spTold d)) (T:Txt K mg):FnOk P w K mg base CX0 (d+3) f fd ["_law_well_here","_law_some","_law_deep"] (spTold (d+1)):=by
 refine F.ok scTold (fun vs H Q E h=>?_) (fun cdv A outer s H vs Q E hr h=>?_)
 ·obtain⟨a,so,ps,e,rfl,_⟩:=h
  rfl
 ·obtain⟨a,so,ps,e,rfl,wa,na,S,hd,q⟩:=h
  have hu:=hu_of2 hr
  refine⟨_,(@pss_cons _ _ _ _ _ (ps_set (i:=3) scTold.nd rfl (Or.inl rfl) (pe_c c_draw (hr.mono (by omega)) rfl pass0 (pa_cons (pv 0) (pa_cons pe_int pa_nil)))) (@pss_cons _ _ _ _ _ (ps_if (PW.pt (pw_or (pt_cmpR op_eq (pv 2) pe_int (nomark _)) (pw_or1 (pt_cmpR op_lt (pv 3) pe_int (nomark _))))) (@pss_cons _ _ _ _ _ (ps_if (PW.pt (pw_or (pt_cmpR (op_eqD hu) (pv 1) (pe_lst pa_nil) (nomark _)) (pw_or1 (pt_cmpR op_eq (pe_c c_draw (hr.mono (by omega)) rfl pass0 (pa_cons (pv 0) (pa_cons pe_int pa_nil))) pe_int (nomark _))))) (@pss_one _ _ _ (ps_ret (pe_c c_number (hr.mono (by omega)) rfl pass0 (pa_cons (pv 0) pa_nil)))) pss_nil) (@pss_one _ _ _ (ps_ret (pe_op op_catT (pe_tup (pa_cons pe_str pa_nil)) (pe_ix ix_list (pv 1) (pe_c c_draw (hr.mono (by omega)) rfl pass0 (pa_cons (pv 0) (pa_cons (pe_callB call_len_seq (by rfl) T.len PySem.boot_len (pa_cons (pv 1) pa_nil)) pa_nil))) (fun _ _=>rfl)))))) pss_nil) (@pss_cons _ _ _ _ _ (ps_set (i:=4) scTold.nd rfl (Or.inl rfl) (pe_c c_told (hr.mono (by omega)) rfl pass0 (pa_cons (pv 0) (pa_cons (pv 1) (pa_cons (pe_op op_sub (pv 2) pe_int) pa_nil))))) (@pss_cons _ _ _ _ _ (ps_if (pt_cmpR op_eq (pv 3) pe_int (nomark _)) (@pss_one _ _ _ (ps_ret (pe_tup (pa_cons pe_str (pa_cons (pv 4) (pa_cons (pe_op op_add pe_int (pe_c c_draw (hr.mono (by omega)) rfl pass0 (pa_cons (pv 0) (pa_cons (pe_ix ix_list (pe_lst (pa_cons pe_int (pa_cons (pe_op op_pow pe_int pe_int) pa_nil))) (pe_c c_draw (hr.mono (by omega)) rfl pass0 (pa_cons (pv 0) (pa_cons pe_int pa_nil))) (fun _ _=>rfl)) pa_nil)))) pa_nil)))))) pss_nil) (@pss_cons _ _ _ _ _ (ps_set (i:=5) scTold.nd rfl (Or.inl rfl) (pe_c c_told (hr.mono (by omega)) rfl pass0 (pa_cons (pv 0) (pa_cons (pv 1) (pa_cons (pe_op op_sub (pv 2) pe_int) pa_nil))))) (@pss_cons _ _ _ _ _ (ps_if (pt_cmpR op_eq (pv 3) pe_int (nomark _)) (@pss_one _ _ _ (ps_ret (pe_tup (pa_cons pe_str (pa_cons (pv 4) (pa_cons (pv 5) (pa_cons (pe_c c_told (hr.mono (by omega)) rfl pass0 (pa_cons (pv 0) (pa_cons (pv 1) (pa_cons (pe_op op_sub (pv 2) pe_int) pa_nil)))) pa_nil))))))) pss_nil) (@pss_one _ _ _ (ps_ret (pe_tup (pa_cons (pe_ix ix_list (pe_clst rfl) (pe_c c_draw (hr.mono (by omega)) rfl pass0 (pa_cons (pv 0) (pa_cons pe_int pa_nil))) (fun _ _=>rfl)) (pa_cons (pv 4) (pa_cons (pv 5) pa_nil)))))))))))),?_⟩
  refine⟨_,rfl,a,13,rfl,wa,by decide,by decide,fun way H1 hw k1 w1=>?_⟩
  have S1:=S.kp k1 wa na
  refine(fun(leaf:(?L:Prop))=> ?main) ?leafp
  case main=>
   refine⟨_,rfl,rfl,_,rfl,?_⟩
   by_cases e0:e=0
   ·refine iteTe (decide_eq_true (by rw [e0];rfl)) ?_
    exact leaf
   refine iteFe (decide_eq_false fun z=>e0 (by have:=V.int.inj z;omega)) ?_
   refine⟨_,rfl,_,_,rfl,rfl,_,rfl,?_⟩
   by_cases w4:way<4
   ·refine iteTe (decide_eq_true (by omega)) ?_
    exact leaf
   refine iteFe (decide_eq_false (by omega)) ?_
   have lessE:∀x y:V,[x,y,V.int ((e:Int)-1)]=[x,y,natV (e-1)]:=fun x y=>by rw [show(e:Int)-1=((e-1:Nat):Int) by omega]
   refine⟨_,rfl,_,rfl,_,rfl,_,_,rfl,rfl,a,so,ps,e-1,lessE _ _,w1,na,S1,by omega,fun v1 t1 H2 k2 w2 u1 h1 f1 r1=>?_⟩
   have k02:=k1.trans k2
   have S2:=S1.kp k2 w1 na
   refine⟨_,rfl,rfl,_,rfl,?_⟩
   by_cases w4:way=4
   ·refine iteTe (decide_eq_true (by rw [w4];rfl)) ?_
    refine⟨_,rfl,_,rfl,_,_,rfl,rfl,⟨by decide,by decide,by decide⟩,by show 2<=sizeLine;decide,fun l0 hl0=>⟨_,rfl,a,2,rfl,w2.new hl0,by decide,by decide,fun r0 H5 hr0 k5' w5=>?_⟩⟩
    have l0a:l0≠a:=w2.ne hl0
    obtain⟨m,hv,m0,m1⟩:∃m:Int,([V.int 9,V.int (10 ^ 9)]:List V)[r0]? =some (.int m)/\0<m/\m<=1000000000:=by
     match r0,(show r0<2 by omega)with
     |0,_=>exact⟨9,rfl,by decide,by decide⟩
     |1,_=>exact⟨10 ^ 9,rfl,by decide,by decide⟩
    have k5:Kp a H2 H5:=(Kp.of (sameNew hl0)).trans k5'
    refine⟨l0,_,_,_,rfl,rfl,SqL.of (k5' _ _ upd_same l0a),atI_nat hv,a,m,rfl,w5,m0,by omega,fun r H6 hr6 k6 w6=>?_⟩
    refine⟨_,_,rfl,rfl,by show 3<=sizeLine;decide,fun t ht=>?_⟩
    refine q _ (.rest t1 (1+(r:Int))) _ ((k02.trans (k5.trans k6)).new ht) (w6.new ht) ⟨t,v1,rfl,upd_same,(u1.mono fun _ _ e=>(k5.trans k6).tup w2 e).mono fun c zs e=>sameNew ht _ _ e⟩ (by show _+1<=_;omega) ⟨by omega,by omega,f1⟩ r1
   refine iteFe (decide_eq_false fun z=>w4 (by have:=V.int.inj z;omega)) ?_
   refine⟨_,rfl,_,rfl,_,rfl,_,_,rfl,rfl,a,so,ps,e-1,lessE _ _,w2,na,S2,by omega,fun v2 t2 H3 k3 w3 u2 h2 f2 r2=>?_⟩
   have k03:=k02.trans k3
   have S3:=S2.kp k3 w2 na
   have u13:TupAt H3 t1 v1:=u1.mono fun _ _ e=>k3.tup w2 e
   refine⟨_,rfl,rfl,_,rfl,?_⟩
   by_cases w5:way=5
   ·refine iteTe (decide_eq_true (by rw [w5];rfl)) ?_
    refine⟨_,rfl,_,rfl,_,rfl,_,rfl,_,rfl,_,_,rfl,rfl,a,so,ps,e-1,lessE _ _,w3,na,S3,by omega,fun v3 t3 H4 k4 w4 u3 h3 f3 r3=>?_⟩
    refine⟨by show 4<=sizeLine;decide,fun t ht=>?_⟩
    have up:∀c zs,H4 c=some (.tup zs)->upd H4 t (.tup [.str "?",v1,v2,v3]) c=some (.tup zs):=fun c zs e=>sameNew ht _ _ e
    refine q _ (.cho t1 t2 t3) _ ((k03.trans k4).new ht) (w4.new ht) ⟨t,v1,v2,v3,rfl,upd_same,(u13.mono fun _ _ e=>k4.tup w3 e).mono up,(u2.mono fun _ _ e=>k4.tup w3 e).mono up,u3.mono up⟩ (by show max _ _+1<=_;omega) ⟨f1,f2,f3⟩ fun x hx=>?_
    simp only [raw,List.mem_append]at hx
    rcases hx with z|z|z
    ·exact r1 x z
    ·exact r2 x z
    ·exact r3 x z
   refine iteFe (decide_eq_false fun z=>w5 (by have:=V.int.inj z;omega)) ?_
   refine⟨by show 5<=sizeLine;decide,fun l0 hl0=>⟨_,rfl,a,5,rfl,w3.new hl0,by decide,by decide,fun r0 H5 hr0 k5' w5=>?_⟩⟩
   have l0a:l0≠a:=w3.ne hl0
   obtain⟨k,hv⟩:∃k:Fin 5,([V.str "+",V.str "-",V.str "*",V.str "min",V.str "max"]:List V)[r0]? =some (.str (opn k)):=by
    match r0,(show r0<5 by omega)with
    |0,_=>exact⟨0,rfl⟩
    |1,_=>exact⟨1,rfl⟩
    |2,_=>exact⟨2,rfl⟩
    |3,_=>exact⟨3,rfl⟩
    |4,_=>exact⟨4,rfl⟩
   have k5:Kp a H3 H5:=(Kp.of (sameNew hl0)).trans k5'
   refine⟨l0,_,_,_,rfl,rfl,SqL.of (k5' _ _ upd_same l0a),atI_nat hv,_,rfl,_,rfl,by show 3<=sizeLine;decide,fun t ht=>?_⟩
   have up:∀c zs,H5 c=some (.tup zs)->upd H5 t (.tup [.str (opn k),v1,v2]) c=some (.tup zs):=fun c zs e=>sameNew ht _ _ e
   refine q _ (.bin k t1 t2) _ ((k03.trans k5).new ht) (w5.new ht) ⟨t,v1,v2,rfl,upd_same,(u13.mono fun _ _ e=>k5.tup w3 e).mono up,(u2.mono fun _ _ e=>k5.tup w3 e).mono up⟩ (by show max _ _+1<=_;omega) ⟨f1,f2⟩ fun x hx=>?_
   simp only [raw,List.mem_append]at hx
   rcases hx with z|z
   ·exact r1 x z
   ·exact r2 x z
  case leafp=>
   refine⟨_,rfl,by show 0<=sizeLine;decide,fun d5 n5=>?_⟩
   generalize g:upd H1 d5 _=H2
   obtain⟨s2,e2⟩:=new_of n5 g
   have k2:=k1.same s2
   have w2:=w1.same s2
   have S2:SomeAt H2 so ps:=⟨s2 _ _ S1.at_,fun x hx=>(S1.pk x hx).same s2,S1.len⟩
   have dd:=dep_tks (ps.map (·.1))
   refine⟨dTks (ps.map (·.1)),.ls [],DenN.den K (Av:=Av0) _ ⟨so,_,rfl,id,S2.at_,dens_tks S2.pk⟩,DenN.den K (Av:=Av0) _ ⟨d5,_,rfl,id,e2,rfl⟩,by simp only [dTks,D.dep,D.deps];omega,?_⟩
   refine(fun(numb:∀H3,Kp a H H3->WellAt H3 a->(?N:Hp->Prop) H3)=> ?main2) ?nump
   case main2=>
    refine⟨_,rfl,?_⟩
    by_cases hz:(dTks (ps.map (·.1))).eq (.ls [])=true
    ·refine iteTe hz ?_
     refine iteT ?_
     exact numb H2 k2 w2
    ·refine iteFe (Bool.eq_false_iff.mpr hz) ?_
     have ne:ps≠[]:=fun z=>by rw [z]at hz;simp [dTks,D.eq,D.eqs]at hz
     refine⟨_,rfl,a,3,rfl,w2,by decide,by decide,fun r H3 hr3 k3 w3=>⟨rfl,_,rfl,?_⟩⟩
     have k03:=k2.trans k3
     by_cases r0:r=0
     ·refine iteTe (decide_eq_true (by rw [r0];rfl)) ?_
      exact numb H3 k03 w3
     refine iteFe (decide_eq_false fun z=>r0 (by have:=V.int.inj z;omega)) ?_
     have S3:=S2.kp k3 w2 na
     refine⟨by show 1<=sizeLine;decide,fun t1 n1=>?_⟩
     generalize g:upd H3 t1 _=H4
     obtain⟨s4,e4⟩:=new_of n1 g
     have w4:=w3.same s4
     have S4:SomeAt H4 so ps:=⟨s4 _ _ S3.at_,fun x hx=>(S3.pk x hx).same s4,S3.len⟩
     have pl:0<ps.length:=List.length_pos_iff.mpr ne
     have p8:=S.len
     refine⟨_,rfl,_,rfl,_,rfl,so,_,rfl,.inl (SqL.of S4.at_),a,(ps.length:Int),by rw [List.length_map];rfl,w4,by omega,by omega,fun i H5 hi k5 w5=>?_⟩
     have S5:=S4.kp k5 w4 na
     have il:i<ps.length:=by omega
     refine⟨so,_,_,_,rfl,rfl,SqL.of S5.at_,atI_nat (show(ps.map fun x=>V.ref x.2)[i]? =some (.ref ps[i].2) by rw [List.getElem?_map,List.getElem?_eq_getElem il];rfl),?_⟩
     obtain⟨u,h1,h2⟩:=S5.pk ps[i] (List.getElem_mem il)
     have e5:H5 t1=some (.tup [.str "take"]):=k5.tup w4 e4
     refine⟨t1,ps[i].2,_,_,rfl,rfl,SqT.of e5,SqT.of h1,by simp,by show 3<=sizeLine;decide,(fun z=>nomatch z),fun _ t ht=>?_⟩
     refine q _ (.take ps[i].1.1 ps[i].1.2) _ (((k03.same s4).trans k5).new ht) (w5.new ht) ⟨t,u,rfl,upd_same,sameNew ht _ _ h2⟩ (by show 1<=_;omega) True.intro fun x hx=>?_
     rw [List.mem_singleton.mp hx]
     exact List.mem_map.mpr ⟨ps[i],List.getElem_mem il,rfl⟩
   case nump=>
    intro H3 k3 w3
    exact⟨_,rfl,a,rfl,w3,fun v n H4 k4 w4 tu hn1 hn2=>q v (.num n) H4 (k3.trans k4) w4 tu (by show 1<=_;omega) ⟨hn1,hn2⟩ fun x hx=>nomatch hx⟩
end
end KJ
namespace KJ
open PySem PyProof.Rows L2
structure Mkr (P:Program) (w:World) (K:W.Frag) (mg:Str->Option Value) (base:Heap) (C:Addr) (x:Str) (ps:List Str) (sp:Sp):Prop where
 ex:∃f fd,FnOk P w K mg base CX0 1 f fd ps sp/\Mk K C f/\mg x=some (.ref C)/\Binds K fd ps []
theorem pe_mk {X:Cx} {C:Addr} {x:Str} {ps:List Str} {sp:Sp} {E:XK} {e:Expr} {es:List Expr} {t:TA} {p pos:Pos} (R:Mkr X.prog X.w X.K X.mg X.base C x ps sp) (hr:Room 2 X.A) (hg:Gl X x) (hx:Passes CX0 X E) (ha:PA X (e::es) t)
  (hdb:(x==("__debug__":Str))=false:=by decide) (he:starEach (e::es) X.env=(false,eval e X.env)::starEach es X.env:=by rfl) (hpl:(backTo pos (starEach es X.env)).any (·.1)=false:=by rfl):PE X (.Call (.Name x p) (e::es) [] pos) (tMake C sp [] E t):=by
 obtain⟨f,fd,F,M,hm,hb⟩:=R.ex
 exact pe_make M F hr hg hm hb .nil hx ha hdb he hpl
theorem sF {a b:Str} (h:a≠b:=by decide+kernel):decide (V.str a=V.str b)=false:=decide_eq_false fun z=>h (V.str.inj z)
theorem opn_ne (k:Fin 5):opn k≠"number"/\opn k≠"take"/\opn k≠"rest"/\opn k≠"?":=by
 match k with
 |0=>exact⟨by decide+kernel,by decide+kernel,by decide+kernel,by decide+kernel⟩
 |1=>exact⟨by decide+kernel,by decide+kernel,by decide+kernel,by decide+kernel⟩
 |2=>exact⟨by decide+kernel,by decide+kernel,by decide+kernel,by decide+kernel⟩
 |3=>exact⟨by decide+kernel,by decide+kernel,by decide+kernel,by decide+kernel⟩
 |4=>exact⟨by decide+kernel,by decide+kernel,by decide+kernel,by decide+kernel⟩
def bnm (k:Fin 5):Str:=match k with|0=>"Added"|1=>"Lessened"|2=>"Multiplied"|3=>"Least"|4=>"Most"
def spMade (N:Cn) (d:Nat):Sp:=fun vs H Q _=>∃(v:V) (t:Tm),vs=[v]/\TupAt H t v/\ht t<=d/\∀(v':V) (H':Hp),Same H H'->TrmAt N H' t v'->Q v' H'
theorem new3 {H:Hp} {x dx C:Addr} {fs:List (Str×V)} (nx:H x=none) (nd:H dx=none):Same H (upd (upd (upd H dx (.own x)) x (.ins C dx [])) x (.ins C dx fs)):=sameUpd nx (sameUpd nx (sameUpd nd (Same.refl H)))
theorem bin_done {N:Cn} {K:W.Frag} {H H1:Hp} {k:Fin 5} {t1 t2:Tm} {v1 v2:V} {Q:VK} {E:XK} (c:Cf K (N.bin k) ["one","other"]) (u1:TrmAt N H1 t1 v1) (u2:TrmAt N H1 t2 v2) (s:Same H H1) (q:∀(v':V) (H':Hp),Same H H'->TrmAt N H' (.bin k t1 t2) v'->Q v' H'):
  ∀x dx,H1 x=none->H1 dx=none->dx≠x->spI2 K "one" "other" (.ref x::([v1,v2]++[])) (upd (upd H1 dx (.own x)) x (.ins (N.bin k) dx [])) (fun v H2=>v= .non/\Q (.ref x) H2) E:=by
 intro x dx nx nd ne
 obtain⟨p1,d1,f1,rfl,h1,g1⟩:=u1
 obtain⟨p2,d2,f2,rfl,h2,g2⟩:=u2
 refine⟨x,N.bin k,dx,.ref p1,.ref p2,rfl,upd_same,c,rfl,?_⟩
 have sN:Same H1 (upd (upd (upd (upd H1 dx (.own x)) x (.ins (N.bin k) dx [])) x (.ins (N.bin k) dx [("one",.ref p1)])) x (.ins (N.bin k) dx [("one",.ref p1),("other",.ref p2)])):=sameUpd nx (new3 nx nd)
 exact q _ _ (s.trans sN) ⟨x,dx,_,rfl,upd_same,p1,d1,f1,p2,d2,f2,rfl,⟨sN _ _ h1,g1.same sN⟩,sN _ _ h2,g2.same sN⟩
section
variable {P:Program} {w:World} {K:W.Frag} {mg:Str->Option Value} {base:Heap} {N:Cn}
theorem scMade:FnScope ["_law_told_here","_law_one","_law_other"] ["_law_told_here"] (defScope sMade):=⟨rfl,rfl,rfl,by decide+kernel,rfl,by decide+kernel,by decide+kernel⟩
theorem ok_made {f:Addr} {fd:FuncData} {d:Nat} (F:Fun K "_law_made" "_law_made" sMade f fd) (c_made:Cal P w K mg base CX0 (d+2) "_law_made" ["_law_told_here"] (spMade N d))
  (R_num:Mkr P w K mg base N.num "Number" ["self","value"] (spI1 K "value")) (R_take:Mkr P w K mg base N.take "Take" ["self","back","steps"] (spI2 K "back" "steps")) (R_rest:Mkr P w K mg base N.rest "Rest" ["self","one","by"] (spI2 K "one" "by")) (R_cho:Mkr P w K mg base N.cho "Chosen" ["self","test","one","other"] (spI3 K "test" "one" "other"))
  (R_bin:∀k,Mkr P w K mg base (N.bin k) (bnm k) ["self","one","other"] (spI2 K "one" "other")) (c1:Cf K N.num ["value"]) (c2:Cf K N.take ["back","steps"]) (c3:Cf K N.rest ["one","by"]) (c4:Cf K N.cho ["test","one","other"]) (c5:∀k,Cf K (N.bin k) ["one","other"]):
  FnOk P w K mg base CX0 (d+3) f fd ["_law_told_here"] (spMade N (d+1)):=by
 refine F.ok scMade (fun vs H Q E h=>?_) (fun cdv A outer s H vs Q E hr h=>?_)
 ·obtain⟨v,t,rfl,_⟩:=h
  rfl
 ·obtain⟨v,t,rfl,tu,hd,q⟩:=h
  refine⟨_,(pss_cons (ps_if (pt_cmpR op_eq (pe_ix ix_tup (pv 0) pe_int (fun _ _=>rfl)) pe_str (nomark _)) (pss_one (ps_ret (pe_mk R_num (hr.mono (by omega)) rfl pass0 (pa_cons (pe_ix ix_tup (pv 0) pe_int (fun _ _=>rfl)) pa_nil)))) pss_nil) (pss_cons (ps_if (pt_cmpR op_eq (pe_ix ix_tup (pv 0) pe_int (fun _ _=>rfl)) pe_str (nomark _)) (pss_one (ps_ret (pe_mk R_take (hr.mono (by omega)) rfl pass0 (pa_cons (pe_ix ix_tup (pv 0) pe_int (fun _ _=>rfl)) (pa_cons (pe_ix ix_tup (pv 0) pe_int (fun _ _=>rfl)) pa_nil))))) pss_nil) (pss_cons (ps_set (i:=1) scMade.nd rfl (Or.inl rfl) (pe_c c_made (hr.mono (by omega)) rfl pass0 (pa_cons (pe_ix ix_tup (pv 0) pe_int (fun _ _=>rfl)) pa_nil))) (pss_cons (ps_if (pt_cmpR op_eq (pe_ix ix_tup (pv 0) pe_int (fun _ _=>rfl)) pe_str (nomark _)) (pss_one (ps_ret (pe_mk R_rest (hr.mono (by omega)) rfl pass0 (pa_cons (pv 1) (pa_cons (pe_ix ix_tup (pv 0) pe_int (fun _ _=>rfl)) pa_nil))))) pss_nil) (pss_cons (ps_set (i:=2) scMade.nd rfl (Or.inl rfl) (pe_c c_made (hr.mono (by omega)) rfl pass0 (pa_cons (pe_ix ix_tup (pv 0) pe_int (fun _ _=>rfl)) pa_nil))) (pss_cons (ps_if (pt_cmpR op_eq (pe_ix ix_tup (pv 0) pe_int (fun _ _=>rfl)) pe_str (nomark _)) (pss_one (ps_ret (pe_mk R_cho (hr.mono (by omega)) rfl pass0 (pa_cons (pv 1) (pa_cons (pv 2) (pa_cons (pe_c c_made (hr.mono (by omega)) rfl pass0 (pa_cons (pe_ix ix_tup (pv 0) pe_int (fun _ _=>rfl)) pa_nil)) pa_nil)))))) pss_nil) (pss_cons (ps_if (pt_cmpR op_eq (pe_ix ix_tup (pv 0) pe_int (fun _ _=>rfl)) pe_str (nomark _)) (pss_one (ps_ret (pe_mk (R_bin 0) (hr.mono (by omega)) rfl pass0 (pa_cons (pv 1) (pa_cons (pv 2) pa_nil))))) pss_nil) (pss_cons (ps_if (pt_cmpR op_eq (pe_ix ix_tup (pv 0) pe_int (fun _ _=>rfl)) pe_str (nomark _)) (pss_one (ps_ret (pe_mk (R_bin 1) (hr.mono (by omega)) rfl pass0 (pa_cons (pv 1) (pa_cons (pv 2) pa_nil))))) pss_nil) (pss_cons (ps_if (pt_cmpR op_eq (pe_ix ix_tup (pv 0) pe_int (fun _ _=>rfl)) pe_str (nomark _)) (pss_one (ps_ret (pe_mk (R_bin 2) (hr.mono (by omega)) rfl pass0 (pa_cons (pv 1) (pa_cons (pv 2) pa_nil))))) pss_nil) (pss_cons (ps_if (pt_cmpR op_eq (pe_ix ix_tup (pv 0) pe_int (fun _ _=>rfl)) pe_str (nomark _)) (pss_one (ps_ret (pe_mk (R_bin 3) (hr.mono (by omega)) rfl pass0 (pa_cons (pv 1) (pa_cons (pv 2) pa_nil))))) pss_nil) (pss_one (ps_ret (pe_mk (R_bin 4) (hr.mono (by omega)) rfl pass0 (pa_cons (pv 1) (pa_cons (pv 2) pa_nil))))))))))))))),?_⟩
  cases t with
  |num n=>
   obtain⟨p,rfl,hp⟩:=tu
   refine⟨_,rfl,p,_,_,_,rfl,rfl,SqT.of hp,rfl,rfl,_,rfl,iteTe (decide_eq_true rfl) ?_⟩
   refine⟨_,rfl,p,_,_,_,rfl,rfl,SqT.of hp,rfl,fun x dx nx nd ne=>⟨x,N.num,dx,.int n,rfl,upd_same,c1,rfl,?_⟩⟩
   exact q _ _ (new3 nx nd) ⟨x,dx,_,rfl,upd_same,rfl⟩
  |take b ss=>
   obtain⟨p,u,rfl,hp,hu⟩:=tu
   refine⟨_,rfl,p,_,_,_,rfl,rfl,SqT.of hp,rfl,rfl,_,rfl,iteFe sF ?_⟩
   refine⟨_,rfl,p,_,_,_,rfl,rfl,SqT.of hp,rfl,rfl,_,rfl,iteTe (decide_eq_true rfl) ?_⟩
   refine⟨_,rfl,p,_,_,_,rfl,rfl,SqT.of hp,rfl,_,rfl,p,_,_,_,rfl,rfl,SqT.of hp,rfl,fun x dx nx nd ne=>⟨x,N.take,dx,.int b,.ref u,rfl,upd_same,c2,rfl,?_⟩⟩
   have sN:Same H (upd (upd (upd (upd H dx (.own x)) x (.ins N.take dx [])) x (.ins N.take dx [("back",.int b)])) x (.ins N.take dx [("back",.int b),("steps",.ref u)])):=sameUpd nx (new3 nx nd)
   exact q _ _ sN ⟨x,dx,_,rfl,upd_same,u,rfl,sN _ _ hu⟩
  |rest t1 y=>
   obtain⟨p,v1,rfl,hp,tu1⟩:=tu
   have hd1:ht t1+1<=d+1:=hd
   refine⟨_,rfl,p,_,_,_,rfl,rfl,SqT.of hp,rfl,rfl,_,rfl,iteFe sF ?_⟩
   refine⟨_,rfl,p,_,_,_,rfl,rfl,SqT.of hp,rfl,rfl,_,rfl,iteFe sF ?_⟩
   refine⟨_,rfl,p,_,_,_,rfl,rfl,SqT.of hp,rfl,v1,t1,rfl,tu1,by omega,fun o1 H1 s1 u1=>?_⟩
   refine⟨_,rfl,p,_,_,_,rfl,rfl,SqT.of (s1 _ _ hp),rfl,rfl,_,rfl,iteTe (decide_eq_true rfl) ?_⟩
   obtain⟨p1,d1,f1,rfl,h1,g1⟩:=u1
   refine⟨_,rfl,_,rfl,p,_,_,_,rfl,rfl,SqT.of (s1 _ _ hp),rfl,fun x dx nx nd ne=>⟨x,N.rest,dx,.ref p1,.int y,rfl,upd_same,c3,rfl,?_⟩⟩
   have sN:Same H1 (upd (upd (upd (upd H1 dx (.own x)) x (.ins N.rest dx [])) x (.ins N.rest dx [("one",.ref p1)])) x (.ins N.rest dx [("one",.ref p1),("by",.int y)])):=sameUpd nx (new3 nx nd)
   exact q _ _ (s1.trans sN) ⟨x,dx,_,rfl,upd_same,p1,d1,f1,rfl,sN _ _ h1,g1.same sN⟩
  |cho t1 t2 t3=>
   obtain⟨p,v1,v2,v3,rfl,hp,tu1,tu2,tu3⟩:=tu
   have hd1:max (ht t1) (max (ht t2) (ht t3))+1<=d+1:=hd
   refine⟨_,rfl,p,_,_,_,rfl,rfl,SqT.of hp,rfl,rfl,_,rfl,iteFe sF ?_⟩
   refine⟨_,rfl,p,_,_,_,rfl,rfl,SqT.of hp,rfl,rfl,_,rfl,iteFe sF ?_⟩
   refine⟨_,rfl,p,_,_,_,rfl,rfl,SqT.of hp,rfl,v1,t1,rfl,tu1,by omega,fun o1 H1 s1 u1=>?_⟩
   refine⟨_,rfl,p,_,_,_,rfl,rfl,SqT.of (s1 _ _ hp),rfl,rfl,_,rfl,iteFe sF ?_⟩
   refine⟨_,rfl,p,_,_,_,rfl,rfl,SqT.of (s1 _ _ hp),rfl,v2,t2,rfl,tu2.same s1,by omega,fun o2 H2 s2 u2=>?_⟩
   have s12:=s1.trans s2
   refine⟨_,rfl,p,_,_,_,rfl,rfl,SqT.of (s12 _ _ hp),rfl,rfl,_,rfl,iteTe (decide_eq_true rfl) ?_⟩
   refine⟨_,rfl,_,rfl,_,rfl,p,_,_,_,rfl,rfl,SqT.of (s12 _ _ hp),rfl,v3,t3,rfl,tu3.same s12,by omega,fun o3 H3 s3 u3=>?_⟩
   obtain⟨p1,d1,f1,rfl,h1,g1⟩:=(u1.same s2).same s3
   obtain⟨p2,d2,f2,rfl,h2,g2⟩:=u2.same s3
   obtain⟨p3,d3,f3,rfl,h3,g3⟩:=u3
   refine fun x dx nx nd ne=>⟨x,N.cho,dx,.ref p1,.ref p2,.ref p3,rfl,upd_same,c4,rfl,?_⟩
   have sN:Same H3 (upd (upd (upd (upd (upd H3 dx (.own x)) x (.ins N.cho dx [])) x (.ins N.cho dx [("test",.ref p1)])) x (.ins N.cho dx [("test",.ref p1),("one",.ref p2)])) x (.ins N.cho dx [("test",.ref p1),("one",.ref p2),("other",.ref p3)])):=sameUpd nx (sameUpd nx (new3 nx nd))
   exact q _ _ (s12.trans (s3.trans sN)) ⟨x,dx,_,rfl,upd_same,p1,d1,f1,p2,d2,f2,p3,d3,f3,rfl,⟨sN _ _ h1,g1.same sN⟩,⟨sN _ _ h2,g2.same sN⟩,sN _ _ h3,g3.same sN⟩
  |bin k t1 t2=>
   obtain⟨p,v1,v2,rfl,hp,tu1,tu2⟩:=tu
   have hd1:max (ht t1) (ht t2)+1<=d+1:=hd
   obtain⟨n1,n2,n3,n4⟩:=opn_ne k
   refine⟨_,rfl,p,_,_,_,rfl,rfl,SqT.of hp,rfl,rfl,_,rfl,iteFe (sF n1) ?_⟩
   refine⟨_,rfl,p,_,_,_,rfl,rfl,SqT.of hp,rfl,rfl,_,rfl,iteFe (sF n2) ?_⟩
   refine⟨_,rfl,p,_,_,_,rfl,rfl,SqT.of hp,rfl,v1,t1,rfl,tu1,by omega,fun o1 H1 s1 u1=>?_⟩
   refine⟨_,rfl,p,_,_,_,rfl,rfl,SqT.of (s1 _ _ hp),rfl,rfl,_,rfl,iteFe (sF n3) ?_⟩
   refine⟨_,rfl,p,_,_,_,rfl,rfl,SqT.of (s1 _ _ hp),rfl,v2,t2,rfl,tu2.same s1,by omega,fun o2 H2 s2 u2=>?_⟩
   have s12:=s1.trans s2
   have hp2:=s12 _ _ hp
   have u12:=u1.same s2
   refine⟨_,rfl,p,_,_,_,rfl,rfl,SqT.of hp2,rfl,rfl,_,rfl,iteFe (sF n4) ?_⟩
   match k,hp2,q with
   |0,hp2,q=>
    refine⟨_,rfl,p,_,_,_,rfl,rfl,SqT.of hp2,rfl,rfl,_,rfl,iteTe (decide_eq_true rfl) ?_⟩
    exact⟨_,rfl,_,rfl,bin_done (c5 0) u12 u2 s12 q⟩
   |1,hp2,q=>
    refine⟨_,rfl,p,_,_,_,rfl,rfl,SqT.of hp2,rfl,rfl,_,rfl,iteFe sF ?_⟩
    refine⟨_,rfl,p,_,_,_,rfl,rfl,SqT.of hp2,rfl,rfl,_,rfl,iteTe (decide_eq_true rfl) ?_⟩
    exact⟨_,rfl,_,rfl,bin_done (c5 1) u12 u2 s12 q⟩
   |2,hp2,q=>
    refine⟨_,rfl,p,_,_,_,rfl,rfl,SqT.of hp2,rfl,rfl,_,rfl,iteFe sF ?_⟩
    refine⟨_,rfl,p,_,_,_,rfl,rfl,SqT.of hp2,rfl,rfl,_,rfl,iteFe sF ?_⟩
    refine⟨_,rfl,p,_,_,_,rfl,rfl,SqT.of hp2,rfl,rfl,_,rfl,iteTe (decide_eq_true rfl) ?_⟩
    exact⟨_,rfl,_,rfl,bin_done (c5 2) u12 u2 s12 q⟩
   |3,hp2,q=>
    refine⟨_,rfl,p,_,_,_,rfl,rfl,SqT.of hp2,rfl,rfl,_,rfl,iteFe sF ?_⟩
    refine⟨_,rfl,p,_,_,_,rfl,rfl,SqT.of hp2,rfl,rfl,_,rfl,iteFe sF ?_⟩
    refine⟨_,rfl,p,_,_,_,rfl,rfl,SqT.of hp2,rfl,rfl,_,rfl,iteFe sF ?_⟩
    refine⟨_,rfl,p,_,_,_,rfl,rfl,SqT.of hp2,rfl,rfl,_,rfl,iteTe (decide_eq_true rfl) ?_⟩
    exact⟨_,rfl,_,rfl,bin_done (c5 3) u12 u2 s12 q⟩
   |4,hp2,q=>
    refine⟨_,rfl,p,_,_,_,rfl,rfl,SqT.of hp2,rfl,rfl,_,rfl,iteFe sF ?_⟩
    refine⟨_,rfl,p,_,_,_,rfl,rfl,SqT.of hp2,rfl,rfl,_,rfl,iteFe sF ?_⟩
    refine⟨_,rfl,p,_,_,_,rfl,rfl,SqT.of hp2,rfl,rfl,_,rfl,iteFe sF ?_⟩
    refine⟨_,rfl,p,_,_,_,rfl,rfl,SqT.of hp2,rfl,rfl,_,rfl,iteFe sF ?_⟩
    exact⟨_,rfl,_,rfl,bin_done (c5 4) u12 u2 s12 q⟩
end
end KJ
namespace KJ
open PySem PyProof.Rows L2
theorem atI0 {α:Type} {x:α} {r:List α}:atI (x::r) 0=some x:=atI_nat (show(x::r)[0]? =some x from rfl)
theorem cut_one (x:V) (xs:List V):cutV (x::xs) (some 1) none=xs:=by
 unfold cutV
 have e1:HT.sIx (x::xs).length 0 (some 1)=1:=by
  rw [show(some (1:Int))=some ((1:Nat):Int)from rfl,HT.sIx_nat]
  simp
 have e2:HT.sIx (x::xs).length (x::xs).length none=(x::xs).length:=rfl
 rw [e1,e2]
 simp
theorem cut_not (x:V) (xs:List V):¬(HT.sIx (x::xs).length 0 (some 1)=0/\HT.sIx (x::xs).length (x::xs).length none=(x::xs).length):=fun⟨h,_⟩=>by
 rw [show(some (1:Int))=some ((1:Nat):Int)from rfl,HT.sIx_nat]at h
 simp at h
def Itm (H:Hp):Option Tm->V->Prop
 |some k,v=>TupAt H k v
 |none,v=>∃n,v= .int n
def its:Tm->List (Option Tm)
 | .num _=>[none]
 | .take _ _=>[]
 | .rest t _=>[some t,none]
 | .cho a b c=>[some a,some b,some c]
 | .bin _ a b=>[some a,some b]
def rawO:Option Tm->List Tk
 |some k=>raw k
 |none=>[]
def wrd:Tm->Str
 | .num _=>"number"
 | .take _ _=>"take"
 | .rest _ _=>"rest"
 | .cho _ _ _=>"?"
 | .bin k _ _=>opn k
theorem its_kids (t:Tm):(its t).filterMap id=kids t:=by cases t<;>rfl
theorem its_raw {t:Tm} (h:∀b ss,t≠ .take b ss) (x:Tk):x∈(its t).flatMap rawO↔x∈raw t:=by
 cases t with
 |take b ss=>exact absurd rfl (h b ss)
 |num n=>simp [its,raw,rawO]
 |rest a y=>simp [its,raw,rawO]
 |cho a b c=>simp [its,raw,rawO]
 |bin k a b=>simp [its,raw,rawO]
theorem its_len (t:Tm):(its t).length<=3:=by cases t<;>simp [its]
theorem its_mem {t k:Tm} (h:some k∈its t):k∈kids t:=by rw [<-its_kids];exact List.mem_filterMap.mpr ⟨some k,h,rfl⟩
theorem tup_items {H:Hp}:∀{t:Tm} {v:V},(∀b ss,t≠ .take b ss)->TupAt H t v->∃p xs,v= .ref p/\H p=some (.tup (.str (wrd t)::xs))/\Paired (Itm H) (its t) xs
 | .num n,_,_,⟨p,e,h⟩=>⟨p,_,e,h,.cons ⟨n,rfl⟩ .nil⟩
 | .take b ss,_,h,_=>absurd rfl (h b ss)
 | .rest _ y,_,_,⟨p,u,e,h,h2⟩=>⟨p,_,e,h,.cons h2 (.cons ⟨y,rfl⟩ .nil)⟩
 | .cho _ _ _,_,_,⟨p,x,y,z,e,h,h1,h2,h3⟩=>⟨p,_,e,h,.cons h1 (.cons h2 (.cons h3 .nil))⟩
 | .bin _ _ _,_,_,⟨p,x,y,e,h,h1,h2⟩=>⟨p,_,e,h,.cons h1 (.cons h2 .nil)⟩
theorem wrd_take {t:Tm} (h:∀b ss,t≠ .take b ss):wrd t≠"take":=by
 cases t with
 |take b ss=>exact absurd rfl (h b ss)
 |num n=>show("number":Str)≠"take";decide+kernel
 |rest a y=>show("rest":Str)≠"take";decide+kernel
 |cho a b c=>show("?":Str)≠"take";decide+kernel
 |bin k a b=>exact(opn_ne k).2.1
def spLTk (d:Nat):Sp:=fun vs H Q _=>∃(v:V) (t:Tm),vs=[v]/\TupAt H t v/\ht t<=d/\(∃ks:List Tk,ks.length<18/\∀x∈raw t,x∈ks)/\
 ∀(l:Addr) (ps:List TkR) (H':Hp),Same H H'->H l=none->H' l=some (.lst (ps.map fun x=>V.ref x.2))->(∀x∈ps,PKy H' x)->IsTks t (ps.map (·.1))->Q (.ref l) H'
section
variable {P:Program} {w:World} {K:W.Frag} {mg:Str->Option Value} {base:Heap}
theorem scTakes:FnScope ["_law_told_here","_law_found","_law_part"] ["_law_told_here"] (defScope sTakes):=⟨rfl,rfl,rfl,by decide+kernel,rfl,by decide+kernel,by decide+kernel⟩
theorem ok_takes {f:Addr} {fd:FuncData} {d:Nat} (F:Fun K "_law_takes" "_law_takes" sTakes f fd) (c_takes:Cal P w K mg base CX0 (d+1) "_law_takes" ["_law_told_here"] (spLTk d)) (T:Txt K mg):FnOk P w K mg base CX0 (d+2) f fd ["_law_told_here"] (spLTk (d+1)):=by
 refine F.ok scTakes (fun vs H Q E h=>?_) (fun cdv A outer s H vs Q E hr h=>?_)
 ·obtain⟨v,t,rfl,_⟩:=h
  rfl
 ·obtain⟨v,t,rfl,tu,hd,⟨ks,kl,km⟩,q⟩:=h
  refine⟨_,(pss_cons (ps_if (pt_cmpR op_eq (pe_ix ix_tup (pv 0) pe_int (fun _ _=>rfl)) pe_str (nomark _)) (pss_one (ps_ret (pe_lst pa_nil))) pss_nil) (pss_cons (ps_if (pt_cmpR op_eq (pe_ix ix_tup (pv 0) pe_int (fun _ _=>rfl)) pe_str (nomark _)) (pss_one (ps_ret (pe_lst (pa_cons (pe_slice sl_tup (pv 0) (po_some pe_int) po_none) pa_nil)))) pss_nil) (pss_cons (ps_set (i:=1) scTakes.nd rfl (Or.inl rfl) (pe_lst pa_nil)) (pss_cons (ps_for PassesOwn.never rfl (pi_tup (pe_slice sl_tup (pv 0) (po_some pe_int) po_none)) (pg_name (i:=2) scTakes.nd rfl (Or.inl rfl)) (pss_one (ps_if (pt_val (pe_callB call_isinst rfl T.isinstance boot_isinstance (pa_cons (pv 2) (pa_cons (pe_ty rfl T.tuple boot_tuple) pa_nil)))) (pss_one (ps_set (i:=1) scTakes.nd rfl (Or.inl rfl) (pe_op op_cat (pv 1) (pe_c c_takes (hr.mono (by omega)) rfl pass0 (pa_cons (pv 2) pa_nil))))) pss_nil))) (pss_one (ps_ret (pe_callB (call_sortedP (hu_40 hr) rfl) rfl T.sorted boot_sorted (pa_cons (pe_callTy (call_setP (hu_20 hr) rfl) rfl T.set boot_set (pa_cons (pv 1) pa_nil)) pa_nil)))))))),?_⟩
  by_cases isT:∃b ss,t= .take b ss
  ·obtain⟨b,ss,rfl⟩:=isT
   obtain⟨p,u,rfl,hp,hu⟩:=tu
   refine⟨_,rfl,p,_,_,_,rfl,rfl,SqT.of hp,rfl,rfl,_,rfl,iteFe sF ?_⟩
   refine⟨_,rfl,p,_,_,_,rfl,rfl,SqT.of hp,rfl,rfl,_,rfl,iteTe (decide_eq_true rfl) ?_⟩
   refine⟨_,rfl,1,rfl,p,_,rfl,SqT.of hp,cut_not _ _,fun t1 n1=>?_⟩
   rw [cut_one]
   generalize e:upd H t1 _=H1
   obtain⟨s1,e1⟩:=new_of n1 e
   refine⟨by show 1<=sizeLine;decide,fun l n2=>?_⟩
   generalize e:upd H1 l _=H2
   obtain⟨s2,e2⟩:=new_of n2 e
   refine q l [((b,ss),t1)] H2 (s1.trans s2) (s1.free n2) e2 (fun x hx=>?_) ⟨List.pairwise_singleton ..,fun x=>Iff.rfl⟩
   rw [List.mem_singleton.mp hx]
   exact⟨u,s2 _ _ e1,s2 _ _ (s1 _ _ hu)⟩
  have nt:∀b ss,t≠ .take b ss:=fun b ss z=>isT ⟨b,ss,z⟩
  by_cases isN:∃n,t= .num n
  ·obtain⟨n,rfl⟩:=isN
   obtain⟨p,rfl,hp⟩:=tu
   refine⟨_,rfl,p,_,_,_,rfl,rfl,SqT.of hp,rfl,rfl,_,rfl,iteTe (decide_eq_true rfl) ?_⟩
   exact⟨by show 0<=sizeLine;decide,fun l hl=>q l [] _ (sameNew hl) hl upd_same (fun _ h=>nomatch h) ⟨List.Pairwise.nil,fun x=>Iff.rfl⟩⟩
  obtain⟨p,xs,rfl,hp,pit⟩:=tup_items nt tu
  have wn:wrd t≠"number":=by
   cases t with
   |num n=>exact absurd ⟨n,rfl⟩ isN
   |take b ss=>exact absurd rfl (nt b ss)
   |rest a y=>show("rest":Str)≠"number";decide+kernel
   |cho a b c=>show("?":Str)≠"number";decide+kernel
   |bin k a b=>exact(opn_ne k).1
  refine⟨_,rfl,p,_,_,_,rfl,rfl,SqT.of hp,atI0,rfl,_,rfl,iteFe (sF wn) ?_⟩
  refine⟨_,rfl,p,_,_,_,rfl,rfl,SqT.of hp,atI0,rfl,_,rfl,iteFe (sF (wrd_take nt)) ?_⟩
  refine⟨by show 0<=sizeLine;decide,fun l0 n0=>?_⟩
  generalize e:upd H l0 _=H1
  obtain⟨s1,e1⟩:=new_of n0 e
  refine⟨_,rfl,1,rfl,p,_,rfl,SqT.of (s1 _ _ hp),cut_not _ _,fun t1 n1=>?_⟩
  rw [cut_one]
  generalize e:upd H1 t1 _=H2
  obtain⟨s2,e2⟩:=new_of n1 e
  have s02:=s1.trans s2
  have il3:=its_len t
  have xl:=Paired.length pit
  refine⟨t1,rfl,⟨_,SqT.of e2⟩,?_⟩
  refine for_tup (K:=K) (a:=t1) (xs:=xs) (fun i σ H3=>∃(v2:Option V) (fo:Addr) (ps:List TkR),σ=[some (.ref p),some (.ref fo),v2]/\Same H2 H3/\H3 fo=some (.lst (ps.map fun x=>V.ref x.2))/\(∀x∈ps,PKy H3 x)/\ps.length<=17*i/\∀x,x∈ps.map (·.1)↔x∈((its t).take i).flatMap rawO)
   ⟨none,l0,[],rfl,Same.refl _,s2 _ _ e1,(fun _ h=>nomatch h),Nat.zero_le _,fun x=>by simp⟩ (fun i σ H3 _ ⟨_,_,_,_,s3,_⟩=>SqT.of (s3 _ _ e2)) ?_ ?_
  ·rintro i x σ H3 hx ⟨v2,fo,ps,rfl,s3,hf3,pk3,len3,mem3⟩
   obtain⟨o,ho,io⟩:=L2.Paired.get2 pit hx
   have ilx:i<xs.length:=(List.getElem?_eq_some_iff.mp hx).1
   have tk1:∀x,x∈((its t).take (i+1)).flatMap rawO↔x∈((its t).take i).flatMap rawO∨x∈rawO o:=fun x=>by
    rw [List.take_succ,ho,List.flatMap_append,List.mem_append]
    simp
   cases o with
   |none=>
    obtain⟨n,rfl⟩:=io
    refine⟨_,rfl,_,_,_,_,rfl,.int _,rfl,_,rfl,iteF ?_⟩
    exact⟨_,fo,ps,rfl,s3,hf3,pk3,by omega,fun x=>by rw [mem3 x,tk1 x];simp [rawO]⟩
   |some k=>
    have io3:TupAt H3 k x:=(show TupAt H k x from io).same (s02.trans s3)
    have kk:=its_mem (List.mem_of_getElem? ho)
    have hk':=kid_ht kk
    obtain⟨pp,ys,rfl,hpp⟩:=io3.ref
    refine⟨_,rfl,_,_,_,_,rfl,.tup hpp,rfl,_,rfl,iteT ?_⟩
    refine⟨_,rfl,_,rfl,_,k,rfl,io3,by omega,⟨ks,kl,fun x hx=>km x (kid_raw kk x hx)⟩,fun l2 ps2 H4 s4 hl2 e4 pk4 tk4=>?_⟩
    have l17:ps2.length<=17:=by
     have:=(nodup_srt tk4.1).length_le_of_subset (l₂:=ks) fun x hx=>km x (kid_raw kk x ((tk4.2 x).mp hx))
     rw [List.length_map]at this
     omega
    refine⟨fo,l2,_,_,rfl,rfl,s4 _ _ hf3,e4,by rw [List.length_map,List.length_map,sizeLine_eq];omega,fun l3 hl3=>?_⟩
    generalize e:upd H4 l3 _=H5
    obtain⟨s5,e5⟩:=new_of hl3 e
    refine⟨_,l3,ps++ps2,rfl,s3.trans (s4.trans s5),by rw [e5,List.map_append],fun x hx=>?_,by rw [List.length_append];omega,fun x=>?_⟩
    ·rcases List.mem_append.mp hx with m|m
     ·exact((pk3 x m).same s4).same s5
     ·exact(pk4 x m).same s5
    ·rw [List.map_append,List.mem_append,mem3 x,tk4.2 x,tk1 x]
     exact Iff.rfl
  ·rintro σ H3 ⟨v2,fo,ps,rfl,s3,hf3,pk3,len3,mem3⟩
   rw [<-xl,List.take_length]at mem3
   have inK:∀x∈ps,x.1∈ks:=fun x hx=>km _ ((its_raw nt _).mp ((mem3 _).mp (List.mem_map.mpr ⟨x,hx,rfl⟩)))
   refine⟨_,rfl,fo,ps,rfl,SqL.of hf3,pk3,by omega,⟨ks,kl,inK⟩,fun l2 zs hl2 nd sub cov zl=>?_⟩
   generalize e:upd H3 l2 _=H4
   obtain⟨s4,e4⟩:=new_of hl2 e
   refine⟨l2,zs,rfl,e4,fun x hx=>(pk3 x (sub x hx)).same s4,?_,fun l3 ys hl3' py sy=>?_⟩
   ·have:=nd.length_le_of_subset (l₂:=ks) fun x hx=>by
     obtain⟨z,hz,rfl⟩:=List.mem_map.mp hx
     exact inK z (sub z hz)
    rw [List.length_map]at this
    omega
   generalize e:upd H4 l3 _=H5
   obtain⟨s5,e5⟩:=new_of hl3' e
   refine q l3 ys H5 (s02.trans (s3.trans (s4.trans s5))) (s02.free (s3.free (s4.free hl3'))) e5 (fun x hx=>((pk3 x (sub x (py.mem_iff.mp hx))).same s4).same s5) ⟨List.pairwise_map.mpr sy,fun x=>?_⟩
   rw [<-its_raw nt x, <-mem3 x,List.mem_map,List.mem_map]
   constructor
   ·rintro⟨y,hy,e⟩
    exact⟨y,sub y (py.mem_iff.mp hy),e⟩
   ·rintro⟨y,hy,e⟩
    obtain⟨z,hz,ez⟩:=cov y hy
    exact⟨z,py.mem_iff.mpr hz,ez.trans e⟩
end
open KG (pe_gint)
abbrev PW3:List Str:=["thing","least","most"]
def spAreSteps:Sp:=fun vs H Q _=>∃(q:Addr) (ss:List Int),vs=[.ref q]/\H q=some (.tup (ss.map V.int))/\1<=ss.length/\ss.length<=3/\(∀s∈ss, -9<=s/\s<=9)/\∀H',Same H H'->Q (.bl true) H'
def OwnOk:Tm->Prop
 | .num n=> -1000000000000<=n/\n<=1000000000000
 | .take b ss=>GoodT (b,ss)/\1<=ss.length/\ss.length<=3
 | .rest _ y=>1<=y/\y<=1000000000
 |_=>True
def AllOk (t:Tm):Prop:=Wf t/\∀x∈raw t,GoodT x/\1<=x.2.length/\x.2.length<=3
theorem AllOk.own:∀{t:Tm},AllOk t->OwnOk t
 | .num _,h=>h.1
 | .take b ss,h=>h.2 (b,ss) List.mem_cons_self
 | .rest _ _,h=>⟨h.1.1,h.1.2.1⟩
 | .cho _ _ _,_=>True.intro
 | .bin _ _ _,_=>True.intro
theorem kid_wf:∀{t k:Tm},k∈kids t->Wf t->Wf k
 | .rest t _,k,h,w=>by rw [List.mem_singleton.mp h];exact w.2.2
 | .cho a b c,k,h,w=>by
  simp only [kids,List.mem_cons,List.not_mem_nil,or_false]at h
  rcases h with rfl|rfl|rfl
  ·exact w.1
  ·exact w.2.1
  ·exact w.2.2
 | .bin _ a b,k,h,w=>by
  simp only [kids,List.mem_cons,List.not_mem_nil,or_false]at h
  rcases h with rfl|rfl
  ·exact w.1
  ·exact w.2
theorem AllOk.kid {t k:Tm} (h:k∈kids t) (a:AllOk t):AllOk k:=⟨kid_wf h a.1,fun x hx=>a.2 x (kid_raw h x hx)⟩
def spFault (N:Cn) (C:Addr):Sp:=fun vs H Q _=>∃(p dx:Addr) (fs:List (Str×V)) (t:Tm),vs=[.ref p]/\H p=some (.ins (cls N t) dx fs)/\FldAt N H fs t/\cls N t=C/\OwnOk t/\∀H',Same H H'->Q .non H'
section
variable {P:Program} {w:World} {K:W.Frag} {mg:Str->Option Value} {base:Heap} {N:Cn}
abbrev NAreSteps:List Str:=["thing"]
theorem scAreSteps:FnScope ["thing"] ["thing"] (defScope sAreSteps):=⟨rfl,rfl,rfl,by decide+kernel,rfl,by decide+kernel,by decide+kernel⟩
theorem ok_areSteps {f:Addr} {fd:FuncData} (F:Fun K "are_steps" "are_steps" sAreSteps f fd) (c_within:Cal P w K mg base CX0 2 "is_within" PW3 KG.spWithin) (T:Txt K mg):FnOk P w K mg base CX0 3 f fd ["thing"] spAreSteps:=by
 refine F.ok scAreSteps (fun vs H Q E h=>?_) (fun cdv A outer s H vs Q E hr h=>?_)
 ·obtain⟨q,ss,rfl,_⟩:=h
  rfl
 ·obtain⟨q,ss,rfl,hq,l1,l3,bd,k⟩:=h
  obtain⟨_,g_MOST_STEPS⟩:=T.mst
  obtain⟨_,g_GREATEST_STEP⟩:=T.gst
  refine⟨_,(pss_cons (ps_if (PW.pt (pw_or (pt_not (pt_val (pe_callB call_isinst rfl T.isinstance boot_isinstance (pa_cons (pv 0) (pa_cons (pe_ty rfl T.tuple boot_tuple) pa_nil))))) (pw_or1 (pt_not (pt_chain op_le op_le pe_int (pe_callB call_len_seq (by rfl) T.len PySem.boot_len (pa_cons (pv 0) pa_nil)) (pe_gint rfl g_MOST_STEPS)))))) (pss_one (ps_ret pe_bl)) pss_nil) (pss_one (ps_ret (pe_callB call_all rfl T.all boot_all (pa_cons (pe_cp (own:=["step"]) (cap:=[]) (g:=gName 0) (defScope sAreSteps) NAreSteps rfl rfl (fun x h=>cell_has h) (by decide+kernel) rfl (pi_tup (pv 0)) (fun cl C s2 H2 fp=>(pg_name (i:=0) (show(["step"]:List Str).Nodup by decide+kernel) rfl (Or.inl rfl) (Or.inr rfl))) (fun cl C s2 H2 fp=>(pe_c c_within (hr.mono (by decide)) rfl pass0 (pa_cons (pv 0) (pa_cons (pe_un un_neg (pe_gint rfl g_GREATEST_STEP)) (pa_cons (pe_gint rfl g_GREATEST_STEP) pa_nil)))))) pa_nil))))),?_⟩
  refine⟨_,rfl,_,"tuple",_,true,rfl,.tup hq,rfl,_,rfl,iteF ?_⟩
  refine⟨_,rfl,q,_,rfl,.inr (SqT.of hq),_,_,rfl,rfl,_,rfl,iteTe (decide_eq_true (by rw [List.length_map];omega)) ⟨_,_,rfl,rfl,_,rfl,iteNS (by rw [List.length_map];omega) ?_⟩⟩
  refine⟨_,rfl,q,rfl,⟨_,SqT.of hq⟩,fun D hD=>?_⟩
  refine comp_tup (K:=K) (a:=q) (xs:=ss.map V.int) (fun i acc σ H2=>(∃v0,σ=[v0])/\Same H H2/\H2 D=some (.lst acc)/\acc=(List.replicate i true).map V.bl) ⟨⟨_,rfl⟩,sameNew hD,upd_same,rfl⟩ (fun i acc σ H2 _ ⟨_,s2,_⟩=>SqT.of (s2 _ _ hq)) ?_ ?_
  ·rintro i x acc σ H2 hi hx ⟨⟨v0,rfl⟩,s2,hD2,rfl⟩
   obtain⟨n,rfl,hn⟩:=KG.get_map hx
   have b9:=bd n (List.mem_of_getElem? hn)
   rw [List.length_map]at hi
   refine⟨_,rfl,_,rfl,n, -9,9,rfl,?_⟩
   rw [decide_eq_true b9]
   refine cturn hD2 (small (by rw [List.length_map,List.length_replicate];omega)) (by rw [List.length_map];exact hi) ⟨⟨_,rfl⟩,sameUpd hD s2,upd_same,?_⟩
   rw [List.replicate_succ',List.map_append]
   rfl
  ·rintro acc σ H2 ⟨_,s2,hD2,rfl⟩
   refine⟨D,_,rfl,SqL.of hD2,rfl,?_⟩
   have e:(List.replicate (ss.map V.int).length true).all id=true:=by rw [List.all_replicate];simp
   rw [e]
   exact k H2 s2
theorem scTFault:FnScope ["self"] ["self"] (defScope sTFault):=⟨rfl,rfl,rfl,by decide+kernel,rfl,by decide+kernel,by decide+kernel⟩
theorem ok_tfault {f C:Addr} {fd:FuncData} (F:Fun K "own_fault" "Term.own_fault" sTFault f fd):FnOk P w K mg base CX0 1 f fd ["self"] (spFault N C):=by
 refine F.ok scTFault (fun vs H Q E h=>?_) (fun cdv A outer s H vs Q E hr h=>?_)
 ·obtain⟨p,dx,fs,t,rfl,_⟩:=h
  rfl
 ·obtain⟨p,dx,fs,t,rfl,hp,hf,hc,ok,q⟩:=h
  exact⟨_,(pss_one (ps_ret pe_non)),q H (Same.refl H)⟩
theorem scNFault:FnScope ["self"] ["self"] (defScope sNFault):=⟨rfl,rfl,rfl,by decide+kernel,rfl,by decide+kernel,by decide+kernel⟩
theorem ok_nfault {f C:Addr} {fd:FuncData} (F:Fun K "own_fault" "Number.own_fault" sNFault f fd) (c:Cf K C ["value"]) (hC:∀t,cls N t=C->∃n,t= .num n) (c_within:Cal P w K mg base CX0 2 "is_within" PW3 KG.spWithin) (T:Txt K mg):FnOk P w K mg base CX0 3 f fd ["self"] (spFault N C):=by
 refine F.ok scNFault (fun vs H Q E h=>?_) (fun cdv A outer s H vs Q E hr h=>?_)
 ·obtain⟨p,dx,fs,t,rfl,_⟩:=h
  rfl
 ·obtain⟨p,dx,fs,t,rfl,hp,hf,hc,ok,q⟩:=h
  obtain⟨_,g_GREATEST_NUMBER⟩:=T.gn
  refine⟨_,(pss_cons (ps_if (pt_val (pe_c c_within (hr.mono (by decide)) rfl pass0 (pa_cons (pe_fld (pv 0) rfl) (pa_cons (pe_un un_neg (pe_gint rfl g_GREATEST_NUMBER)) (pa_cons (pe_gint rfl g_GREATEST_NUMBER) pa_nil))))) (pss_one (ps_ret pe_non)) pss_nil) (pss_one (ps_ret pe_str))),?_⟩
  obtain⟨n,rfl⟩:=hC t hc
  rw [hc]at hp
  obtain rfl:=hf
  refine⟨_,rfl,p,C,dx,_,_,rfl,hp,c.cl,c.na _ (by simp),rfl,_,rfl,n,_,_,rfl,_,rfl,iteTe (decide_eq_true ok) (q H (Same.refl H))⟩
theorem scKFault:FnScope ["self"] ["self"] (defScope sKFault):=⟨rfl,rfl,rfl,by decide+kernel,rfl,by decide+kernel,by decide+kernel⟩
theorem ok_kfault {f C:Addr} {fd:FuncData} (F:Fun K "own_fault" "Take.own_fault" sKFault f fd) (c:Cf K C ["back","steps"]) (hC:∀t,cls N t=C->∃b ss,t= .take b ss) (c_within:Cal P w K mg base CX0 2 "is_within" PW3 KG.spWithin) (c_areSteps:Cal P w K mg base CX0 3 "are_steps" ["thing"] spAreSteps) (T:Txt K mg):FnOk P w K mg base CX0 4 f fd ["self"] (spFault N C):=by
 refine F.ok scKFault (fun vs H Q E h=>?_) (fun cdv A outer s H vs Q E hr h=>?_)
 ·obtain⟨p,dx,fs,t,rfl,_⟩:=h
  rfl
 ·obtain⟨p,dx,fs,t,rfl,hp,hf,hc,ok,q⟩:=h
  obtain⟨_,g_GREATEST_BACK⟩:=T.gb
  refine⟨_,(pss_cons (ps_if (pt_not (pt_val (pe_c c_within (hr.mono (by decide)) rfl pass0 (pa_cons (pe_fld (pv 0) rfl) (pa_cons pe_int (pa_cons (pe_gint rfl g_GREATEST_BACK) pa_nil)))))) (pss_one (ps_ret pe_str)) pss_nil) (pss_cons (ps_if (pt_not (pt_val (pe_c c_areSteps (hr.mono (by decide)) rfl pass0 (pa_cons (pe_fld (pv 0) rfl) pa_nil)))) (pss_one (ps_ret pe_str)) pss_nil) (pss_one (ps_ret pe_non)))),?_⟩
  obtain⟨b,ss,rfl⟩:=hC t hc
  rw [hc]at hp
  obtain⟨u,rfl,hu⟩:=hf
  obtain⟨⟨b1,b3,bd⟩,l1,l3⟩:=ok
  refine⟨_,rfl,p,C,dx,_,_,rfl,hp,c.cl,c.na _ (by simp),rfl,b,1,3,rfl,_,rfl,iteNS ⟨b1,b3⟩ ?_⟩
  exact⟨_,rfl,p,C,dx,_,_,rfl,hp,c.cl,c.na _ (by simp),rfl,u,ss,rfl,hu,l1,l3,bd,fun H1 s1=>⟨_,rfl,iteF (q H1 s1)⟩⟩
theorem scRFault:FnScope ["self"] ["self"] (defScope sRFault):=⟨rfl,rfl,rfl,by decide+kernel,rfl,by decide+kernel,by decide+kernel⟩
theorem ok_rfault {f C:Addr} {fd:FuncData} (F:Fun K "own_fault" "Rest.own_fault" sRFault f fd) (c:Cf K C ["one","by"]) (hC:∀t,cls N t=C->∃a y,t= .rest a y) (c_within:Cal P w K mg base CX0 2 "is_within" PW3 KG.spWithin) (T:Txt K mg):FnOk P w K mg base CX0 3 f fd ["self"] (spFault N C):=by
 refine F.ok scRFault (fun vs H Q E h=>?_) (fun cdv A outer s H vs Q E hr h=>?_)
 ·obtain⟨p,dx,fs,t,rfl,_⟩:=h
  rfl
 ·obtain⟨p,dx,fs,t,rfl,hp,hf,hc,ok,q⟩:=h
  obtain⟨_,g_GREATEST_DIVISOR⟩:=T.gd
  refine⟨_,(pss_cons (ps_if (pt_val (pe_c c_within (hr.mono (by decide)) rfl pass0 (pa_cons (pe_fld (pv 0) rfl) (pa_cons pe_int (pa_cons (pe_gint rfl g_GREATEST_DIVISOR) pa_nil))))) (pss_one (ps_ret pe_non)) pss_nil) (pss_one (ps_ret pe_str))),?_⟩
  obtain⟨a,y,rfl⟩:=hC t hc
  rw [hc]at hp
  obtain⟨pa,da,fa,rfl,ha,ga⟩:=hf
  exact⟨_,rfl,p,C,dx,_,_,rfl,hp,c.cl,c.na _ (by simp),rfl,y,1,_,rfl,_,rfl,iteTe (decide_eq_true ok) (q H (Same.refl H))⟩
end
open KG (pe_gint)
def rLenT (K:W.Frag):List V->Hp->VK->Prop:=fun xs H Q=>∃p ys,xs=[.ref p]/\SqT K H p ys/\Q (.int ys.length) H
theorem call_lenTK {X:Cx} {K:W.Frag} (h:X.K=K):CallR X (.builtin "len") (rLenT K):=by
 subst h
 intro pins s σ H xs us Q I r hq
 obtain⟨p,ys,rfl,h1,q⟩:=hq
 exact call_len_seq pins s σ H _ us Q I r ⟨p,ys,rfl,.inr h1,q⟩
def IsLn (l:List Tk) (zs:List Nat):Prop:=zs∈subs3/\∀z,z∈zs↔ ∃x∈l,x.2.length=z
theorem subs3_self {zs:List Nat} (h:zs∈subs3):zs=[1,2,3].filter fun z=>decide (z∈zs):=by
 simp only [subs3,List.mem_cons,List.not_mem_nil,or_false]at h
 rcases h with rfl|rfl|rfl|rfl|rfl|rfl|rfl|rfl<;>decide
theorem pow_max {a b m:Nat} (h:a<=m) (hb:b<=3 ^ a):b<=3 ^ m:=Nat.le_trans hb (Nat.pow_le_pow_right (by decide) h)
theorem prts_le:∀t:Tm,2*prts t+1<=3 ^ ht t
 | .num _=>by simp [prts,ht]
 | .take _ _=>by simp [prts,ht]
 | .rest t _=>by
  have h:=prts_le t
  have:0<3 ^ ht t:=Nat.pow_pos (by decide)
  simp only [prts,ht,Nat.pow_succ]
  omega
 | .cho a b c=>by
  have h1:=pow_max (m:=max (ht a) (max (ht b) (ht c))) (by omega) (prts_le a)
  have h2:=pow_max (m:=max (ht a) (max (ht b) (ht c))) (by omega) (prts_le b)
  have h3:=pow_max (m:=max (ht a) (max (ht b) (ht c))) (by omega) (prts_le c)
  simp only [prts,ht,Nat.pow_succ]
  omega
 | .bin _ a b=>by
  have h1:=pow_max (m:=max (ht a) (ht b)) (by omega) (prts_le a)
  have h2:=pow_max (m:=max (ht a) (ht b)) (by omega) (prts_le b)
  simp only [prts,ht,Nat.pow_succ]
  omega
theorem prts_small {d:Nat} (hd:d<=4) (t:Tm) (h:ht t<=d):prts t<=1000:=by
 have:=pow_max (m:=4) (Nat.le_trans h hd) (prts_le t)
 omega
def spFF (N:Cn) (d:Nat):Sp:=fun vs H Q _=>∃(p dx:Addr) (fs:List (Str×V)) (t:Tm),vs=[.ref p]/\H p=some (.ins (cls N t) dx fs)/\FldAt N H fs t/\ht t<=d/\AllOk t/\∀H',Same H H'->Q .non H'
def Ln (t:Tm) (n:Nat):Prop:=(n=1∨n=2∨n=3)/\(∀x∈raw t,x.2.length=n)/\∃ks:List Tk,ks.length<=6/\∀x∈raw t,x∈ks
theorem Ln.k18 {t:Tm} {n:Nat} (h:Ln t n):∃ks:List Tk,ks.length<18/\∀x∈raw t,x∈ks:=let⟨_,_,ks,h1,h2⟩:=h;⟨ks,by omega,h2⟩
theorem Ln.m3 {t:Tm} {n:Nat} (h:Ln t n):∀x∈raw t,x.2.length∈[1,2,3]:=fun x hx=>by
 rw [h.2.1 x hx]
 rcases h.1 with rfl|rfl|rfl<;>simp
def spLinesN (N:Cn) (d:Nat):Sp:=fun vs H Q _=>∃(p dx:Addr) (fs:List (Str×V)) (t:Tm) (n:Nat),vs=[.ref p]/\H p=some (.ins (cls N t) dx fs)/\FldAt N H fs t/\ht t<=d/\Ln t n/\∀v H',(v= .non∨v=natV n)->Same H H'->Q v H'
def spCheckT (N:Cn) (d:Nat):Sp:=fun vs H Q _=>∃(p dx:Addr) (fs:List (Str×V)) (t:Tm) (n:Nat),vs=[.ref p]/\H p=some (.ins (cls N t) dx fs)/\FldAt N H fs t/\ht t<=d/\AllOk t/\Ln t n/\∀H',Same H H'->Q .non H'
theorem ln_few {t:Tm} {n:Nat} {zs:List Nat} (h:Ln t n) (l:IsLn (raw t) zs):zs=[]∨zs=[n]:=by
 have all:∀z∈zs,z=n:=fun z hz=>by
  obtain⟨x,hx,e⟩:=(l.2 z).mp hz
  rw [<-e]
  exact h.2.1 x hx
 have hs:=l.1
 simp only [subs3,List.mem_cons,List.not_mem_nil,or_false]at hs
 rcases hs with rfl|rfl|rfl|rfl|rfl|rfl|rfl|rfl
 all_goals simp at all
 all_goals first
  |exact .inl rfl
  |(right;rw [all])
  |(exfalso;omega)
section
variable {P:Program} {w:World} {K:W.Frag} {mg:Str->Option Value} {base:Heap} {N:Cn}
theorem scFirst:FnScope ["term","part","fault"] ["term"] (defScope sFirst):=⟨rfl,rfl,rfl,by decide+kernel,rfl,by decide+kernel,by decide+kernel⟩
theorem ok_ff {f:Addr} {fd:FuncData} {d:Nat} (F:Fun K "first_fault" "first_fault" sFirst f fd) (c_ff:Cal P w K mg base CX0 (d+4) "first_fault" ["term"] (spFF N d)) (D_inner:Dis P w K mg base CX0 1 (IsC N) "inner" ["self"] (spInner N)) (D_fault:Dis P w K mg base CX0 4 (IsC N) "own_fault" ["self"] (spFault N))
  (nI:∀(t:Tm) (fs:List (Str×V)) H,FldAt N H fs t->fs.lookup ("inner":Str)=none) (nF:∀(t:Tm) (fs:List (Str×V)) H,FldAt N H fs t->fs.lookup ("own_fault":Str)=none):FnOk P w K mg base CX0 (d+5) f fd ["term"] (spFF N (d+1)):=by
 refine F.ok scFirst (fun vs H Q E h=>?_) (fun cdv A outer s H vs Q E hr h=>?_)
 ·obtain⟨p,dx,fs,t,rfl,_⟩:=h
  rfl
 ·obtain⟨p,dx,fs,t,rfl,hp,hf,hd,ok,q⟩:=h
  refine⟨_,(pss_cons (ps_for PassesOwn.never rfl (pi_list (pe_methD0 (pv 0) D_inner (hr.mono (by omega)) pass0)) (pg_name (i:=1) scFirst.nd rfl (Or.inl rfl)) (pss_cons (ps_set (i:=2) scFirst.nd rfl (Or.inl rfl) (pe_c c_ff (hr.mono (by omega)) rfl pass0 (pa_cons (pv 1) pa_nil))) (pss_one (ps_if (pt_cmpR op_notN (pv 2) pe_non (nomark _)) (pss_one (ps_ret (pv 2))) pss_nil)))) (pss_one (ps_ret (pe_methD0 (pv 0) D_fault (hr.mono (by omega)) pass0)))),?_⟩
  refine⟨_,rfl,p,_,dx,fs,rfl,hp,isC N t,nI t fs H hf,p,dx,fs,t,rfl,hp,hf,rfl,fun l xs H2 s2 hl e2 pk=>⟨l,rfl,⟨_,SqL.of e2⟩,?_⟩⟩
  refine for_list (K:=K) (a:=l) (xs:=xs) (fun i σ H3=>(∃v1 v2,σ=[some (.ref p),v1,v2])/\Same H2 H3) ⟨⟨_,_,rfl⟩,Same.refl H2⟩ (fun i σ H3 _ ⟨_,s3⟩=>SqL.of (s3 _ _ e2)) ?_ ?_
  ·rintro i x σ H3 hx ⟨⟨v1,v2,rfl⟩,s3⟩
   obtain⟨k,hk,tr⟩:=L2.Paired.get2 pk hx
   have km:=List.mem_of_getElem? hk
   obtain⟨a,da,fa,rfl,ha,fla⟩:=tr.same (s2.trans s3)
   have hk':=kid_ht km
   refine⟨_,rfl,a,da,fa,k,rfl,ha,fla,by omega,ok.kid km,fun H4 s4=>?_⟩
   exact⟨_,rfl,rfl,_,rfl,iteNS rfl ⟨⟨_,_,rfl⟩,s3.trans s4⟩⟩
  ·rintro σ H3 ⟨⟨v1,v2,rfl⟩,s3⟩
   have s23:=s2.trans s3
   exact⟨_,rfl,p,_,dx,fs,rfl,s23 _ _ hp,isC N t,nF t fs H hf,p,dx,fs,t,rfl,s23 _ _ hp,hf.same s23,rfl,ok.own,fun H4 s4=>q H4 (s23.trans s4)⟩
abbrev NLinesOf:List Str:=["term","counts"]
theorem scLinesOf:FnScope ["term","counts"] ["term"] (defScope sLinesOf):=⟨rfl,rfl,rfl,by decide+kernel,rfl,by decide+kernel,by decide+kernel⟩
theorem ok_linesN {f:Addr} {fd:FuncData} {d:Nat} (F:Fun K "lines_of" "lines_of" sLinesOf f fd) (D_takes:Dis P w K mg base CX0 (d+1) (IsC N) "takes" ["self"] (spTakes N d)) (T:Txt K mg)
  (nT:∀(t:Tm) (fs:List (Str×V)) H,FldAt N H fs t->fs.lookup ("takes":Str)=none/\fs.lookup ("inner":Str)=none):FnOk P w K mg base CX0 (d+3) f fd ["term"] (spLinesN N d):=by
 refine F.ok scLinesOf (fun vs H Q E h=>?_) (fun cdv A outer s H vs Q E hr h=>?_)
 ·obtain⟨p,dx,fs,t,n,rfl,_⟩:=h
  rfl
 ·obtain⟨p,dx,fs,t,n,rfl,hp,hf,hd,ln0,q1⟩:=h
  have kk:=ln0.k18
  have r3:=ln0.m3
  refine⟨_,(pss_cons (ps_set (i:=1) scLinesOf.nd rfl (Or.inl rfl) (pe_callB (call_sorted3 rfl) rfl T.sorted boot_sorted (pa_cons (pe_callTy (call_set3 rfl) rfl T.set boot_set (pa_cons (pe_cp (own:=["take"]) (cap:=[]) (g:=gName 0) (defScope sLinesOf) NLinesOf rfl rfl (fun x h=>cell_has h) (by decide+kernel) rfl (pi_list (pe_methD0 (pv 0) D_takes (hr.mono (by omega)) pass0)) (fun cl C s2 H2 fp=>(pg_name (i:=0) (show(["take"]:List Str).Nodup by decide+kernel) rfl (Or.inl rfl) (Or.inr rfl))) (fun cl C s2 H2 fp=>(pe_callB (r:=rLenT K) (call_lenTK rfl) (by rfl) T.len PySem.boot_len (pa_cons (pe_ix (r:=rIxT K) ix_tup (pv 0) pe_int (fun _ _=>rfl)) pa_nil)))) pa_nil)) pa_nil))) (pss_cons (ps_if (pt_cmpR op_gt (pe_callB call_len_seq (by rfl) T.len PySem.boot_len (pa_cons (pv 1) pa_nil)) pe_int (nomark _)) (pss_one ps_never) pss_nil) (pss_cons (ps_if (pt_cmpR op_eq (pe_callB call_len_seq (by rfl) T.len PySem.boot_len (pa_cons (pv 1) pa_nil)) pe_int (nomark _)) (pss_one (ps_ret pe_non)) pss_nil) (pss_one (ps_ret (pe_ix ix_list (pv 1) pe_int (fun _ _=>rfl))))))),?_⟩
  refine⟨_,rfl,p,_,dx,fs,rfl,hp,isC N t,(nT t fs H hf).1,p,dx,fs,t,rfl,hp,hf,rfl,hd,kk,fun l ps H1 s1 hl e1 pk tk=>?_⟩
  have pl:ps.length<=17:=by
   obtain⟨ks,kl,km⟩:=kk
   have:=(nodup_srt tk.1).length_le_of_subset (l₂:=ks) fun x hx=>km x ((tk.2 x).mp hx)
   rw [List.length_map]at this
   omega
  refine⟨l,rfl,⟨_,SqL.of e1⟩,fun D hD=>?_⟩
  refine comp_list (K:=K) (a:=l) (xs:=ps.map fun x=>V.ref x.2) (fun i acc σ H3=>(∃v0,σ=[v0])/\Same H1 H3/\H3 D=some (.lst acc)/\acc=natVs ((ps.take i).map fun x=>x.1.2.length)) ⟨⟨_,rfl⟩,sameNew hD,upd_same,rfl⟩ (fun i acc σ H3 _ ⟨_,s3,_⟩=>SqL.of (s3 _ _ e1)) ?_ ?_
  ·rintro i x acc σ H3 hi hx ⟨⟨v0,rfl⟩,s3,hD3,rfl⟩
   rw [List.getElem?_map]at hx
   obtain⟨y,hy,rfl⟩:∃y,ps[i]? =some y/\x= .ref y.2:=by
    cases g:ps[i]? with
    |none=>rw [g]at hx;cases hx
    |some b=>rw [g]at hx;cases hx;exact⟨b,rfl,rfl⟩
   obtain⟨q,h1,h2⟩:=(pk y (List.mem_of_getElem? hy)).same s3
   rw [List.length_map]at hi
   refine⟨_,rfl,y.2,_,_,_,rfl,rfl,SqT.of h1,rfl,q,_,rfl,SqT.of h2,?_⟩
   refine cturn hD3 (small ?_) (by rw [List.length_map];exact hi) ⟨⟨_,rfl⟩,sameUpd hD s3,upd_same,?_⟩
   ·unfold natVs;rw [List.length_map,List.length_map,List.length_take];omega
   ·unfold natVs;rw [List.take_succ,hy,List.map_append,List.map_append,List.length_map];rfl
  ·rintro acc σ H3 ⟨_,s3,hD3,rfl⟩
   rw [List.length_map,List.take_length]at hD3
   refine⟨D,_,rfl,SqL.of hD3,fun n hn=>?_,fun l2 zs hl2 zsub zm=>?_⟩
   ·obtain⟨x,hx,rfl⟩:=List.mem_map.mp hn
    exact r3 _ ((tk.2 _).mp (List.mem_map.mpr ⟨x,hx,rfl⟩))
   have ln:IsLn (raw t) zs:=⟨zsub,fun z=>by
    rw [zm z,List.mem_map]
    constructor
    ·rintro⟨x,hx,e⟩
     exact⟨x.1,(tk.2 _).mp (List.mem_map.mpr ⟨x,hx,rfl⟩),e⟩
    ·rintro⟨x,hx,e⟩
     obtain⟨y,hy,rfl⟩:=List.mem_map.mp ((tk.2 _).mpr hx)
     exact⟨y,hy,e⟩⟩
   generalize e:upd H3 l2 _=H4
   obtain⟨s4,e4⟩:=new_of hl2 e
   refine⟨l2,zs,rfl,e4,fun l3 hl3=>?_⟩
   generalize e:upd H4 l3 _=H5
   obtain⟨s5,e5⟩:=new_of hl3 e
   have s05:=s1.trans (s3.trans (s4.trans s5))
   have nl:(natVs zs).length=zs.length:=by unfold natVs;rw [List.length_map]
   refine⟨_,rfl,l3,_,rfl,.inl (SqL.of e5),_,_,rfl,rfl,_,rfl,?_⟩
   rw [nl]
   rcases ln_few ln0 ln with rfl|rfl
   ·refine iteFe (decide_eq_false (by simp)) ?_
    refine⟨_,rfl,l3,_,rfl,.inl (SqL.of e5),rfl,_,rfl,?_⟩
    exact iteTe rfl (q1 _ H5 (.inl rfl) s05)
   ·refine iteFe (decide_eq_false (by simp)) ?_
    refine⟨_,rfl,l3,_,rfl,.inl (SqL.of e5),rfl,_,rfl,?_⟩
    exact iteFe (decide_eq_false fun z=>by have:=V.int.inj z;simp [natVs]at this) ⟨_,rfl,l3,_,_,_,rfl,rfl,SqL.of e5,rfl,q1 _ H5 (.inr rfl) s05⟩
theorem scCheckT:FnScope ["term","fault"] ["term"] (defScope sCheckT):=⟨rfl,rfl,rfl,by decide+kernel,rfl,by decide+kernel,by decide+kernel⟩
theorem ok_checkT {f:Addr} {fd:FuncData} (F:Fun K "check_term" "check_term" sCheckT f fd) (c_ff:Cal P w K mg base CX0 8 "first_fault" ["term"] (spFF N 4)) (c_linesOf:Cal P w K mg base CX0 7 "lines_of" ["term"] (spLinesN N 4)) (D_takes:Dis P w K mg base CX0 5 (IsC N) "takes" ["self"] (spTakes N 4)) (D_depth:Dis P w K mg base CX0 5 (IsC N) "depth" ["self"] (spNum N ht 4)) (D_parts:Dis P w K mg base CX0 5 (IsC N) "parts" ["self"] (spNum N prts 4)) (T:Txt K mg)
  (nT:∀(t:Tm) (fs:List (Str×V)) H,FldAt N H fs t->fs.lookup ("takes":Str)=none/\fs.lookup ("depth":Str)=none/\fs.lookup ("parts":Str)=none):FnOk P w K mg base CX0 9 f fd ["term"] (spCheckT N 4):=by
 refine F.ok scCheckT (fun vs H Q E h=>?_) (fun cdv A outer s H vs Q E hr h=>?_)
 ·obtain⟨p,dx,fs,t,n,rfl,_⟩:=h
  rfl
 ·obtain⟨p,dx,fs,t,n,rfl,hp,hf,hd,ok,ln,q⟩:=h
  obtain⟨_,g_MOST_DEPTH⟩:=T.mdp
  obtain⟨_,g_MOST_PARTS⟩:=T.mpa
  obtain⟨_,g_MOST_TAKES⟩:=T.mtk
  obtain⟨n1,n2,n3⟩:=nT t fs H hf
  refine⟨_,(pss_cons (ps_set (i:=1) scCheckT.nd rfl (Or.inl rfl) (pe_c c_ff (hr.mono (by omega)) rfl pass0 (pa_cons (pv 0) pa_nil))) (pss_cons (ps_if (pt_cmpR op_notN (pv 1) pe_non (nomark _)) (pss_one ps_never) pss_nil) (pss_cons (ps_expr (pe_c c_linesOf (hr.mono (by omega)) rfl pass0 (pa_cons (pv 0) pa_nil))) (pss_cons (ps_if (pt_cmpR op_gt (pe_methD0 (pv 0) D_depth (hr.mono (by omega)) pass0) (pe_gint rfl g_MOST_DEPTH) (nomark _)) (pss_one ps_never) pss_nil) (pss_cons (ps_if (pt_cmpR op_gt (pe_methD0 (pv 0) D_parts (hr.mono (by omega)) pass0) (pe_gint rfl g_MOST_PARTS) (nomark _)) (pss_one ps_never) pss_nil) (pss_one (ps_if (pt_cmpR op_gt (pe_callB call_len_seq (by rfl) T.len PySem.boot_len (pa_cons (pe_methD0 (pv 0) D_takes (hr.mono (by omega)) pass0) pa_nil)) (pe_gint rfl g_MOST_TAKES) (nomark _)) (pss_one ps_never) pss_nil))))))),?_⟩
  refine⟨_,rfl,p,dx,fs,t,rfl,hp,hf,hd,ok,fun H1 s1=>⟨_,rfl,rfl,_,rfl,iteNS rfl ?_⟩⟩
  refine⟨_,rfl,p,dx,fs,t,n,rfl,s1 _ _ hp,hf.same s1,hd,ln,fun vL H2 _ s2'=>?_⟩
  have s2:=s1.trans s2'
  have pr:prts t<=40:=by
   have h1:=prts_le t
   have h2:3 ^ ht t<=3 ^ 4:=Nat.pow_le_pow_right (by decide) hd
   omega
  refine⟨_,rfl,p,_,dx,fs,rfl,s2 _ _ hp,isC N t,n2,p,dx,fs,t,rfl,s2 _ _ hp,hf.same s2,rfl,hd,fun H3 s3=>⟨_,_,rfl,rfl,_,rfl,iteFe (decide_eq_false (by omega)) ?_⟩⟩
  have s23:=s2.trans s3
  refine⟨_,rfl,p,_,dx,fs,rfl,s23 _ _ hp,isC N t,n3,p,dx,fs,t,rfl,s23 _ _ hp,hf.same s23,rfl,hd,fun H4 s4=>⟨_,_,rfl,rfl,_,rfl,iteFe (decide_eq_false (by omega)) ?_⟩⟩
  have s24:=s23.trans s4
  refine⟨_,rfl,p,_,dx,fs,rfl,s24 _ _ hp,isC N t,n1,p,dx,fs,t,rfl,s24 _ _ hp,hf.same s24,rfl,hd,ln.k18,fun l ps H5 s5 hl e5 pk tk=>?_⟩
  have pl:ps.length<=6:=by
   obtain⟨_,_,ks,kl,km⟩:=ln
   have:=(nodup_srt tk.1).length_le_of_subset (l₂:=ks) fun x hx=>km x ((tk.2 x).mp hx)
   rw [List.length_map]at this
   omega
  refine⟨l,_,rfl,.inl (SqL.of e5),_,_,rfl,rfl,_,rfl,iteFe (decide_eq_false ?_) (q H5 (s24.trans s5))⟩
  rw [List.length_map]
  omega
end
open KG (pe_gint)
def RowsT (H:Hp):List V->List (List Int)->Prop:=Paired fun v l=>∃a,v= .ref a/\H a=some (.lst (l.map V.int))
theorem RowsT.same {H H':Hp} (s:Same H H') {xs:List V} {ls:List (List Int)} (h:RowsT H xs ls):RowsT H' xs ls:=Paired.mapP h fun _ _ ⟨a,e,q⟩=>⟨a,e,s _ _ q⟩
def GoodR (many:Nat) (m:Int) (l:List Int):Prop:=l.length=many/\∀x∈l,0<=x/\x<=m-1
def spIsRow:Sp:=fun vs H Q _=>∃(a:Addr) (l:List Int) (many:Nat) (m:Int),vs=[.ref a,natV many,.int m]/\H a=some (.lst (l.map V.int))/\GoodR many m l/\many<=1000/\∀H',Same H H'->Q (.bl true) H'
def spAreRows:Sp:=fun vs H Q _=>∃(a:Addr) (xs:List V) (ls:List (List Int)) (many:Nat) (m:Int),vs=[.ref a,natV ls.length,natV many,.int m]/\H a=some (.lst xs)/\RowsT H xs ls/\(∀l∈ls,GoodR many m l)/\many<=1000/\ls.length<=1000/\∀H',Same H H'->Q (.bl true) H'
def dpt (l:List Tk):Int:=l.foldl (fun m x=>max m x.1) 1
theorem dpt_le:∀(l:List Tk) (m:Int),m<=l.foldl (fun m x=>max m x.1) m/\∀x∈l,x.1<=l.foldl (fun m x=>max m x.1) m
 | [],m=>⟨Int.le_refl _,fun x hx=>nomatch hx⟩
 |y::l,m=>by
  obtain⟨h1,h2⟩:=dpt_le l (max m y.1)
  refine⟨by rw [List.foldl_cons];omega,fun x hx=>?_⟩
  rw [List.foldl_cons]
  rcases List.mem_cons.mp hx with rfl|hx
  ·omega
  ·exact h2 x hx
theorem dpt_mem:∀(l:List Tk) (m:Int),l.foldl (fun m x=>max m x.1) m=m∨∃x∈l,l.foldl (fun m x=>max m x.1) m=x.1
 | [],m=> .inl rfl
 |y::l,m=>by
  rw [List.foldl_cons]
  rcases dpt_mem l (max m y.1)with h|⟨x,hx,h⟩
  ·rw [h]
   rcases Int.le_total m y.1 with z|z
   ·exact .inr ⟨y,List.mem_cons_self,by omega⟩
   ·exact .inl (by omega)
  ·exact .inr ⟨x,List.mem_cons_of_mem _ hx,h⟩
theorem dpt_of {l:List Tk} {m:Int} (pos:∀x∈l,1<=x.1) (h1:∃x∈l,x.1=m) (h2:∀x∈l,x.1<=m):dpt l=m:=by
 obtain⟨x,hx,rfl⟩:=h1
 have a:=(dpt_le l 1).2 x hx
 rcases dpt_mem l 1 with z|⟨y,hy,z⟩
 ·have:=pos x hx
  unfold dpt
  omega
 ·have:=h2 y hy
  unfold dpt
  omega
def spDeep (CJ:Addr):Sp:=fun vs H Q _=>∃(j dx tk:Addr) (fs:List (Str×V)) (ps:List TkR),vs=[.ref j]/\H j=some (.ins CJ dx fs)/\fs.lookup ("taken":Str)=some (.ref tk)/\H tk=some (.lst (ps.map fun x=>V.ref x.2))/\(∀x∈ps,PKy H x/\1<=x.1.1)/\ps.length<=100/\∀H',Same H H'->Q (.int (dpt (ps.map (·.1)))) H'
section
variable {P:Program} {w:World} {K:W.Frag} {mg:Str->Option Value} {base:Heap} {N:Cn} {CJ:Addr}
abbrev NIsRow:List Str:=["thing","many","modulus"]
theorem scIsRow:FnScope ["thing","many","modulus"] ["thing","many","modulus"] (defScope sIsRow):=⟨rfl,rfl,rfl,by decide+kernel,rfl,by decide+kernel,by decide+kernel⟩
theorem ok_isRow {f:Addr} {fd:FuncData} (F:Fun K "is_row" "is_row" sIsRow f fd) (c_within:Cal P w K mg base CX0 2 "is_within" PW3 KG.spWithin) (T:Txt K mg):FnOk P w K mg base CX0 3 f fd ["thing","many","modulus"] spIsRow:=by
 refine F.ok scIsRow (fun vs H Q E h=>?_) (fun cdv A outer s H vs Q E hr h=>?_)
 ·obtain⟨a,l,many,m,rfl,_⟩:=h
  rfl
 ·obtain⟨a,l,many,m,rfl,ha,⟨hl,bd⟩,hm,k⟩:=h
  refine⟨_,(pss_cons (ps_if (PW.pt (pw_or (pt_not (pt_val (pe_callB call_isinst rfl T.isinstance boot_isinstance (pa_cons (pv 0) (pa_cons (pe_ty rfl T.list boot_list) pa_nil))))) (pw_or1 (pt_cmpR op_ne (pe_callB call_len_seq (by rfl) T.len PySem.boot_len (pa_cons (pv 0) pa_nil)) (pv 1) (nomark _))))) (pss_one (ps_ret pe_bl)) pss_nil) (pss_one (ps_ret (pe_callB call_all rfl T.all boot_all (pa_cons (pe_cp (own:=["worth"]) (cap:=[("modulus",2)]) (g:=gName 0) (defScope sIsRow) NIsRow rfl rfl (fun x h=>cell_has h) (by decide+kernel) rfl (pi_list (pv 0)) (fun cl C s2 H2 fp=>(pg_name (i:=0) (show(["worth","modulus"]:List Str).Nodup by decide+kernel) rfl (Or.inl rfl) (Or.inr rfl))) (fun cl C s2 H2 fp=>(pe_c c_within (hr.mono (by decide)) rfl pass0 (pa_cons (pv 0) (pa_cons pe_int (pa_cons (pe_op op_sub (pv 1) pe_int) pa_nil)))))) pa_nil))))),?_⟩
  refine⟨_,rfl,_,"list",_,true,rfl,.lst ha,rfl,_,rfl,iteF ?_⟩
  refine⟨_,rfl,a,_,rfl,.inl (SqL.of ha),_,rfl,rfl,_,rfl,iteNS (by rw [List.length_map,hl]) ?_⟩
  refine⟨_,rfl,a,rfl,⟨_,SqL.of ha⟩,fun D hD=>?_⟩
  refine comp_list (K:=K) (a:=a) (xs:=l.map V.int) (fun i acc σ H2=>(∃v0,σ=[v0,some (.int m)])/\Same H H2/\H2 D=some (.lst acc)/\acc=(List.replicate i true).map V.bl) ⟨⟨_,rfl⟩,sameNew hD,upd_same,rfl⟩ (fun i acc σ H2 _ ⟨_,s2,_⟩=>SqL.of (s2 _ _ ha)) ?_ ?_
  ·rintro i x acc σ H2 hi hx ⟨⟨v0,rfl⟩,s2,hD2,rfl⟩
   obtain⟨n,rfl,hn⟩:=KG.get_map hx
   have b9:=bd n (List.mem_of_getElem? hn)
   rw [List.length_map]at hi
   refine⟨_,rfl,_,rfl,_,_,rfl,rfl,n,0,m-1,rfl,?_⟩
   rw [decide_eq_true b9]
   refine cturn hD2 (small (by rw [List.length_map,List.length_replicate];omega)) (by rw [List.length_map];exact hi) ⟨⟨_,rfl⟩,sameUpd hD s2,upd_same,?_⟩
   rw [List.replicate_succ',List.map_append]
   rfl
  ·rintro acc σ H2 ⟨_,s2,hD2,rfl⟩
   refine⟨D,_,rfl,SqL.of hD2,rfl,?_⟩
   have e:(List.replicate (l.map V.int).length true).all id=true:=by rw [List.all_replicate];simp
   rw [e]
   exact k H2 s2
abbrev NAreRows:List Str:=["thing","deep","many","modulus"]
theorem scAreRows:FnScope ["thing","deep","many","modulus"] ["thing","deep","many","modulus"] (defScope sAreRows):=⟨rfl,rfl,rfl,by decide+kernel,rfl,by decide+kernel,by decide+kernel⟩
theorem ok_areRows {f:Addr} {fd:FuncData} (F:Fun K "are_rows" "are_rows" sAreRows f fd) (c_isRow:Cal P w K mg base CX0 3 "is_row" ["thing","many","modulus"] spIsRow) (T:Txt K mg):FnOk P w K mg base CX0 4 f fd ["thing","deep","many","modulus"] spAreRows:=by
 refine F.ok scAreRows (fun vs H Q E h=>?_) (fun cdv A outer s H vs Q E hr h=>?_)
 ·obtain⟨a,xs,ls,many,m,rfl,_⟩:=h
  rfl
 ·obtain⟨a,xs,ls,many,m,rfl,ha,rw_,gd,hm,hls,k⟩:=h
  have xl:xs.length=ls.length:=Paired.length rw_
  refine⟨_,(pss_cons (ps_if (PW.pt (pw_or (pt_not (pt_val (pe_callB call_isinst rfl T.isinstance boot_isinstance (pa_cons (pv 0) (pa_cons (pe_ty rfl T.list boot_list) pa_nil))))) (pw_or1 (pt_cmpR op_ne (pe_callB call_len_seq (by rfl) T.len PySem.boot_len (pa_cons (pv 0) pa_nil)) (pv 1) (nomark _))))) (pss_one (ps_ret pe_bl)) pss_nil) (pss_one (ps_ret (pe_callB call_all rfl T.all boot_all (pa_cons (pe_cp (own:=["row"]) (cap:=[("many",2),("modulus",3)]) (g:=gName 0) (defScope sAreRows) NAreRows rfl rfl (fun x h=>cell_has h) (by decide+kernel) rfl (pi_list (pv 0)) (fun cl C s2 H2 fp=>(pg_name (i:=0) (show(["row","many","modulus"]:List Str).Nodup by decide+kernel) rfl (Or.inl rfl) (Or.inr rfl))) (fun cl C s2 H2 fp=>(pe_c c_isRow (hr.mono (by decide)) rfl pass0 (pa_cons (pv 0) (pa_cons (pv 1) (pa_cons (pv 2) pa_nil)))))) pa_nil))))),?_⟩
  refine⟨_,rfl,_,"list",_,true,rfl,.lst ha,rfl,_,rfl,iteF ?_⟩
  refine⟨_,rfl,a,_,rfl,.inl (SqL.of ha),_,rfl,rfl,_,rfl,iteNS (by rw [xl]) ?_⟩
  refine⟨_,rfl,a,rfl,⟨_,SqL.of ha⟩,fun D hD=>?_⟩
  refine comp_list (K:=K) (a:=a) (xs:=xs) (fun i acc σ H2=>(∃v0,σ=[v0,some (natV many),some (.int m)])/\Same H H2/\H2 D=some (.lst acc)/\acc=(List.replicate i true).map V.bl) ⟨⟨_,rfl⟩,sameNew hD,upd_same,rfl⟩ (fun i acc σ H2 _ ⟨_,s2,_⟩=>SqL.of (s2 _ _ ha)) ?_ ?_
  ·rintro i x acc σ H2 hi hx ⟨⟨v0,rfl⟩,s2,hD2,rfl⟩
   obtain⟨l,hl,b,rfl,hb⟩:=Paired.get rw_ hx
   refine⟨_,rfl,_,rfl,_,rfl,b,l,many,m,rfl,s2 _ _ hb,gd l (List.mem_of_getElem? hl),hm,fun H3 s3=>?_⟩
   refine cturn (s3 _ _ hD2) (small (by rw [List.length_map,List.length_replicate];omega)) hi ⟨⟨_,rfl⟩,sameUpd hD (s2.trans s3),upd_same,?_⟩
   rw [List.replicate_succ',List.map_append]
   rfl
  ·rintro acc σ H2 ⟨_,s2,hD2,rfl⟩
   refine⟨D,_,rfl,SqL.of hD2,rfl,?_⟩
   have e:(List.replicate xs.length true).all id=true:=by rw [List.all_replicate];simp
   rw [e]
   exact k H2 s2
abbrev NDeep:List Str:=["self"]
theorem scDeep:FnScope ["self"] ["self"] (defScope sDeep):=⟨rfl,rfl,rfl,by decide+kernel,rfl,by decide+kernel,by decide+kernel⟩
theorem ok_deep {f:Addr} {fd:FuncData} (F:Fun K "deep" "Job.deep" sDeep f fd) (c:Cf K CJ ["taken"]) (T:Txt K mg):FnOk P w K mg base CX0 1 f fd ["self"] (spDeep CJ):=by
 refine F.ok scDeep (fun vs H Q E h=>?_) (fun cdv A outer s H vs Q E hr h=>?_)
 ·obtain⟨j,dx,tk,fs,ps,rfl,_⟩:=h
  rfl
 ·obtain⟨j,dx,tk,fs,ps,rfl,hj,lk,hk,pk,pl,q⟩:=h
  refine⟨_,(pss_one (ps_ret (pe_callBK (call_maxD rfl) rfl T.max boot_max (pa_cons (pe_cp (own:=["take"]) (cap:=[]) (g:=gName 0) (defScope sDeep) NDeep rfl rfl (fun x h=>cell_has h) (by decide+kernel) rfl (pi_list (pe_fld (pv 0) rfl)) (fun cl C s2 H2 fp=>(pg_name (i:=0) (show(["take"]:List Str).Nodup by decide+kernel) rfl (Or.inl rfl) (Or.inr rfl))) (fun cl C s2 H2 fp=>(pe_ix (r:=rIxT K) ix_tup (pv 0) pe_int (fun _ _=>rfl)))) pa_nil) (pk_cons pe_int pk_nil)))),?_⟩
  refine⟨_,rfl,j,CJ,dx,fs,_,rfl,hj,c.cl,c.na _ (by simp),lk,tk,rfl,⟨_,SqL.of hk⟩,fun D hD=>?_⟩
  refine comp_list (K:=K) (a:=tk) (xs:=ps.map fun x=>V.ref x.2) (fun i acc σ H3=>(∃v0,σ=[v0])/\Same H H3/\H3 D=some (.lst acc)/\acc=((ps.take i).map fun x=>x.1.1).map V.int) ⟨⟨_,rfl⟩,sameNew hD,upd_same,rfl⟩ (fun i acc σ H3 _ ⟨_,s3,_⟩=>SqL.of (s3 _ _ hk)) ?_ ?_
  ·rintro i x acc σ H3 hi hx ⟨⟨v0,rfl⟩,s3,hD3,rfl⟩
   rw [List.length_map]at hi
   have hx':x= .ref ps[i].2:=by
    rw [List.getElem?_map,List.getElem?_eq_getElem hi]at hx
    exact(Option.some.inj hx).symm
   subst hx'
   obtain⟨q',h1,h2⟩:=(pk ps[i] (List.getElem_mem hi)).1.same s3
   refine⟨_,rfl,ps[i].2,_,_,_,rfl,rfl,SqT.of h1,rfl,?_⟩
   refine cturn hD3 (small ?_) (by rw [List.length_map];exact hi) ⟨⟨_,rfl⟩,sameUpd hD s3,upd_same,?_⟩
   ·rw [List.length_map,List.length_map,List.length_take];omega
   ·rw [List.take_succ,List.getElem?_eq_getElem hi,List.map_append,List.map_append];rfl
  ·rintro acc σ H3 ⟨_,s3,hD3,rfl⟩
   rw [List.length_map,List.take_length]at hD3
   dsimp only [tNil,tCons,tC]
   refine⟨D,_,.int 1,rfl,rfl,SqL.of hD3,fun e=>?_,fun m hm hx=>?_⟩
   ·have:ps=[]:=by simpa using e
    subst this
    exact q H3 s3
   ·have:=q H3 s3
    rw [dpt_of (m:=m)]at this
    ·exact this
    ·intro x hx
     obtain⟨y,hy,rfl⟩:=List.mem_map.mp hx
     exact(pk y hy).2
    ·obtain⟨y,hy,rfl⟩:=List.mem_map.mp hm
     exact⟨y.1,List.mem_map.mpr ⟨y,hy,rfl⟩,rfl⟩
    ·intro x hx2
     obtain⟨y,hy,rfl⟩:=List.mem_map.mp hx2
     exact hx _ (List.mem_map.mpr ⟨y,hy,rfl⟩)
end
end KJ
namespace KJ
open PySem PyProof.Rows L2 G3
open KG (pe_gint GridAt)
theorem prodL_pos:∀(ns:List Int) (a:Int),(∀n∈ns,OkSize n)->1<=a->1<=ns.foldl (fun a n=>a*n) a
 | [],a,_,h=>h
 |n::ns,a,hn,h=>by
  have h1:=(hn n List.mem_cons_self).1
  rw [List.foldl_cons]
  refine prodL_pos ns (a*n) (fun m hm=>hn m (List.mem_cons_of_mem _ hm)) ?_
  have:1*1<=a*n:=Int.mul_le_mul h h1 (by decide) (by omega)
  omega
def many (ns:List Int):Nat:=(prodL ns).toNat
theorem many_eq {ns:List Int} (g:GoodSizes ns):V.int (prodL ns)=natV (many ns)/\(many ns:Int)=prodL ns/\1<=many ns/\many ns<=40:=by
 have h1:1<=prodL ns:=prodL_pos ns 1 g.ok (by decide)
 have h2:=g.many
 have e:(many ns:Int)=prodL ns:=Int.toNat_of_nonneg (by omega)
 refine⟨?_,e,by omega,by omega⟩
 show V.int (prodL ns)=V.int (many ns:Int)
 rw [e]
def KpB (H H':Hp):Prop:=∀b o,H b=some o->(∀C dx,o≠ .ins C dx [])->H' b=some o
theorem Kp.toB {j C dx:Addr} {H H':Hp} (k:Kp j H H') (e:H j=some (.ins C dx [])):KpB H H':=fun b o h n=>k b o h fun z=>by
 rw [z,e]at h
 cases h
 exact n _ _ rfl
theorem GridAt.keepB {C g:Addr} {H H':Hp} {ns:List Int} {xs:List V} {rs:List Rim} (s:KpB H H') (h:GridAt C H g ns xs rs):GridAt C H' g ns xs rs:=by
 obtain⟨⟨dx,p,q,h1,h2,h3⟩,h4,h5,h6⟩:=h
 exact⟨⟨dx,p,q,s _ _ h1 (by intro _ _ z;cases z),s _ _ h2 (by intro _ _ z;cases z),s _ _ h3 (by intro _ _ z;cases z)⟩,h4.mono fun b ys e=>s _ _ e (by intro _ _ z;cases z),h5,h6⟩
theorem GridAt.same {C g:Addr} {H H':Hp} {ns:List Int} {xs:List V} {rs:List Rim} (s:Same H H') (h:GridAt C H g ns xs rs):GridAt C H' g ns xs rs:=GridAt.keepB (fun b o e _=>s b o e) h
theorem RowsT.keepB {H H':Hp} (s:KpB H H') {xs:List V} {ls:List (List Int)} (h:RowsT H xs ls):RowsT H' xs ls:=Paired.mapP h fun _ _ ⟨a,e,q⟩=>⟨a,e,s _ _ q (by intro _ _ z;cases z)⟩
structure Mks (N:Cn) (CG:Addr) (H:Hp) (g p fq:Addr) (t:Tm) (ns:List Int) (xs:List V) (rs:List Rim) (m:Int) (r:Nat) (ls:List (List Int)):Prop where
 ga:GridAt CG H g ns xs rs
 tr:∃dx fs,H p=some (.ins (cls N t) dx fs)/\FldAt N H fs t
 hd:ht t<=4
 ok:AllOk t
 ln:Ln t ns.length
 m2:2<=m/\m<=1000000000
 r12:r<=12/\r*many ns<=120
 fi:∃ys,H fq=some (.lst ys)/\RowsT H ys ls
 rw_:∀l∈ls,GoodR (many ns) m l
 dp:∀tks,IsTks t tks->(ls.length:Int)=dpt tks
 few:ls.length<=3
abbrev jfs (tk g p:Addr) (m:Int) (r:Nat) (fq:Addr):List (Str×V):=[("taken",.ref tk),("grid",.ref g),("term",.ref p),("modulus",.int m),("rounds",natV r),("first",.ref fq)]
def spJInit (N:Cn) (CG CJ:Addr):Sp:=fun vs H Q _=>∃(j dx g p fq:Addr) (t:Tm) (ns:List Int) (xs:List V) (rs:List Rim) (m:Int) (r:Nat) (ls:List (List Int)),vs=[.ref j,.ref g,.ref p,.int m,natV r,.ref fq]/\H j=some (.ins CJ dx [])/\Mks N CG H g p fq t ns xs rs m r ls/\
 ∀(tk f2:Addr) (ps:List TkR) (H':Hp),Kp j H H'->H' j=some (.ins CJ dx (jfs tk g p m r f2))->H' tk=some (.lst (ps.map fun x=>V.ref x.2))->(∀x∈ps,PKy H' x)->IsTks t (ps.map (·.1))->Q .non H'
theorem Kp.at_ {j:Addr} {H H1:Hp} {o:HO} (k:Kp j H H1):Kp j H (L2.upd H1 j o):=fun b u e n=>by rw [upd_ne n];exact k b u e n
section
variable {P:Program} {w:World} {K:W.Frag} {mg:Str->Option Value} {base:Heap} {N:Cn} {CG CJ:Addr}
abbrev NJInit:List Str:=["self","grid","term","modulus","rounds","first"]
theorem scJInit:FnScope ["self","grid","term","modulus","rounds","first"] ["self","grid","term","modulus","rounds","first"] (defScope sJInit):=⟨rfl,rfl,rfl,by decide+kernel,rfl,by decide+kernel,by decide+kernel⟩
theorem ok_jinit {f:Addr} {fd:FuncData} (F:Fun K "__init__" "Job.__init__" sJInit f fd) (c:Cf K CJ ["taken","grid","term","modulus","rounds","first"]) (c_checkT:Cal P w K mg base CX0 9 "check_term" ["term"] (spCheckT N 4)) (c_linesOf:Cal P w K mg base CX0 7 "lines_of" ["term"] (spLinesN N 4)) (c_within:Cal P w K mg base CX0 2 "is_within" PW3 KG.spWithin)
  (c_areRows:Cal P w K mg base CX0 4 "are_rows" ["thing","deep","many","modulus"] spAreRows) (D_takes:Dis P w K mg base CX0 5 (IsC N) "takes" ["self"] (spTakes N 4)) (D_lines:Dis P w K mg base CX0 1 (·=CG) "lines" ["self"] (fun _=>KG.spLines CG)) (D_many:Dis P w K mg base CX0 2 (·=CG) "places_many" ["self"] (fun _=>KG.spMany CG)) (D_deep:Dis P w K mg base CX0 1 (·=CJ) "deep" ["self"] (fun _=>spDeep CJ)) (T:Txt K mg)
  (nT:∀(t:Tm) (fs:List (Str×V)) H,FldAt N H fs t->fs.lookup ("takes":Str)=none):FnOk P w K mg base CX0 10 f fd ["self","grid","term","modulus","rounds","first"] (spJInit N CG CJ):=by
 refine F.ok scJInit (fun vs H Q E h=>?_) (fun cdv A outer s H vs Q E hr h=>?_)
 ·obtain⟨j,dx,g,p,fq,t,ns,xs,rs,m,r,ls,rfl,_⟩:=h
  rfl
 ·obtain⟨j,dx,g,p,fq,t,ns,xs,rs,m,r,ls,rfl,hj,M,q⟩:=h
  obtain⟨_,g_GREATEST_MODULUS⟩:=T.gmo
  obtain⟨_,g_MOST_ROUNDS⟩:=T.mro
  obtain⟨_,g_MOST_SPOTS⟩:=T.msp
  obtain⟨dp,fs,hp,hf⟩:=M.tr
  obtain⟨me,mi,m1,m40⟩:=many_eq M.ga.good
  obtain⟨r12,rm⟩:=M.r12
  refine⟨_,(pss_cons (ps_expr (pe_c c_checkT (hr.mono (by decide)) rfl pass0 (pa_cons (pv 2) pa_nil))) (pss_cons (ps_if (pt_cmpR op_notIn_seq (pe_c c_linesOf (hr.mono (by decide)) rfl pass0 (pa_cons (pv 2) pa_nil)) (pe_tup (pa_cons pe_non (pa_cons (pe_methD0 (pv 1) D_lines (hr.mono (by decide)) pass0) pa_nil))) rfl) (pss_one ps_never) pss_nil) (pss_cons (ps_if (pt_not (pt_val (pe_c c_within (hr.mono (by decide)) rfl pass0 (pa_cons (pv 3) (pa_cons pe_int (pa_cons (pe_gint rfl g_GREATEST_MODULUS) pa_nil)))))) (pss_one ps_never) pss_nil) (pss_cons (ps_if (PW.pt (pw_or (pt_not (pt_val (pe_c c_within (hr.mono (by decide)) rfl pass0 (pa_cons (pv 4) (pa_cons pe_int (pa_cons (pe_gint rfl g_MOST_ROUNDS) pa_nil)))))) (pw_or1 (pt_cmpR op_gt (pe_op op_mul (pv 4) (pe_methD0 (pv 1) D_many (hr.mono (by decide)) pass0)) (pe_gint rfl g_MOST_SPOTS) (nomark _))))) (pss_one ps_never) pss_nil) (pss_cons (ps_fld (pv 0) (pe_methD0 (pv 2) D_takes (hr.mono (by decide)) pass0) rfl) (pss_cons (ps_if (pt_not (pt_val (pe_c c_areRows (hr.mono (by decide)) rfl pass0 (pa_cons (pv 5) (pa_cons (pe_methD0 (pv 0) D_deep (hr.mono (by decide)) pass0) (pa_cons (pe_methD0 (pv 1) D_many (hr.mono (by decide)) pass0) (pa_cons (pv 3) pa_nil))))))) (pss_one ps_never) pss_nil) (pss_cons (ps_fld (pv 0) (pv 1) rfl) (pss_cons (ps_fld (pv 0) (pv 2) rfl) (pss_cons (ps_fld (pv 0) (pv 3) rfl) (pss_cons (ps_fld (pv 0) (pv 4) rfl) (pss_one (ps_fld (pv 0) (pe_cp (own:=["row"]) (cap:=[]) (g:=gName 0) (defScope sJInit) NJInit rfl rfl (fun x h=>cell_has h) (by decide+kernel) rfl (pi_list (pv 5)) (fun cl C s2 H2 fp=>(pg_name (i:=0) (show(["row"]:List Str).Nodup by decide+kernel) rfl (Or.inl rfl) (Or.inr rfl))) (fun cl C s2 H2 fp=>(pe_callTy (r:=rListK K) (call_listK rfl) rfl T.list boot_list (pa_cons (pv 0) pa_nil)))) rfl)))))))))))),?_⟩
  refine⟨_,rfl,p,dp,fs,t,_,rfl,hp,hf,M.hd,M.ok,M.ln,fun H1 s1=>?_⟩
  refine⟨_,rfl,p,dp,fs,t,_,rfl,s1 _ _ hp,hf.same s1,M.hd,M.ln,fun v H2 hv s2'=>?_⟩
  have s2:=s1.trans s2'
  have G2:=GridAt.same s2 M.ga
  obtain⟨dg,sa,ra,hg,_⟩:=G2.ob
  refine⟨_,rfl,g,CG,dg,_,rfl,hg,rfl,KG.flds_no _ _ (by decide+kernel) (by decide+kernel),g,ns,xs,rs,rfl,G2,by show 2<=sizeLine;decide,fun t1 n1=>?_⟩
  generalize e:upd H2 t1 _=H3
  obtain⟨s3',e3⟩:=new_of n1 e
  have s3:=s2.trans s3'
  have hin:flatV v=true/\inV v [V.non,V.int (ns.length:Int)]=true:=by
   rcases hv with rfl|rfl
   ·exact⟨rfl,rfl⟩
   ·exact⟨rfl,by simp [inV,eqV]⟩
  refine⟨t1,_,rfl,.inr (SqT.of e3),hin.1,rfl,_,rfl,?_⟩
  rw [hin.2]
  refine iteF ?_
  refine⟨_,rfl,m,2,_,rfl,_,rfl,iteNS M.m2 ?_⟩
  refine⟨_,rfl,(r:Int),0,_,rfl,_,rfl,?_⟩
  rw [decide_eq_true (show 0<=(r:Int)/\(r:Int)<=12 by omega)]
  refine iteF ?_
  have G3:=GridAt.same s3 M.ga
  obtain⟨dg,sa,ra,hg,_⟩:=G3.ob
  refine⟨_,rfl,_,rfl,g,CG,dg,_,rfl,hg,rfl,KG.flds_no _ _ (by decide+kernel) (by decide+kernel),g,ns,xs,rs,rfl,G3,_,_,rfl,rfl,.inl ⟨by omega,by omega⟩,_,_,rfl,rfl,_,rfl,iteFe (decide_eq_false ?_) ?_⟩
  ·rw [<-mi]
   have:((r*many ns:Nat):Int)<=120:=by omega
   rw [Int.natCast_mul]at this
   omega
  refine⟨_,rfl,p,_,dp,fs,rfl,s3 _ _ hp,isC N t,nT t fs H hf,p,dp,fs,t,rfl,s3 _ _ hp,hf.same s3,rfl,M.hd,M.ln.k18,fun tk ps H4 s4' htk e4 pk4 tks=>?_⟩
  have s4:=s3.trans s4'
  refine⟨_,rfl,j,CJ,dx,[],rfl,s4 _ _ hj,c.cl,c.na _ (by simp),by decide,?_⟩
  generalize e:upd H4 j _=H5
  have k5:Kp j H H5:=by rw [<-e];exact(Kp.of s4).at_
  have e5:H5 j=some (.ins CJ dx [("taken",.ref tk)]):=by rw [<-e];exact upd_same
  have tkj:tk≠j:=fun z=>by rw [z,s4 _ _ hj]at e4;cases e4
  have k45:Kp j H4 H5:=by rw [<-e];exact(Kp.of (Same.refl H4)).at_
  have et5:H5 tk=some (.lst (ps.map fun x=>V.ref x.2)):=k45 _ _ e4 tkj
  have pk5:∀x∈ps,PKy H5 x:=fun x hx=>by
   obtain⟨u,h1,h2⟩:=pk4 x hx
   have nj:∀b zs,H4 b=some (.tup zs)->H5 b=some (.tup zs):=fun b zs eb=>k45 _ _ eb fun z=>by rw [z,s4 _ _ hj]at eb;cases eb
   exact⟨u,nj _ _ h1,nj _ _ h2⟩
  have B5:=k5.toB hj
  have G5:=GridAt.keepB B5 M.ga
  obtain⟨ys,hys,rws⟩:=M.fi
  have psl:ps.length<=100:=by
   obtain⟨_,_,ks,kl,km⟩:=M.ln
   have:=(nodup_srt tks.1).length_le_of_subset (l₂:=ks) fun x hx=>km x ((tks.2 x).mp hx)
   rw [List.length_map]at this
   omega
  have pos:∀x∈ps,1<=x.1.1:=fun x hx=>(M.ok.2 x.1 ((tks.2 _).mp (List.mem_map.mpr ⟨x,hx,rfl⟩))).1.1
  refine⟨_,rfl,_,rfl,j,CJ,dx,_,rfl,e5,rfl,rfl,j,dx,tk,_,ps,rfl,e5,rfl,et5,fun x hx=>⟨pk5 x hx,pos x hx⟩,psl,fun H6 s6=>?_⟩
  have G6:=GridAt.same s6 G5
  obtain⟨dg,sa,ra,hg,_⟩:=G6.ob
  refine⟨_,rfl,g,CG,dg,_,rfl,hg,rfl,KG.flds_no _ _ (by decide+kernel) (by decide+kernel),g,ns,xs,rs,rfl,G6,_,rfl,?_⟩
  have nbl:∀(zs:List V) (C dx:Addr),HO.lst zs≠ .ins C dx []:=fun _ _ _ z=>nomatch z
  have B6:KpB H H6:=fun b o eb nb=>s6 _ _ (B5 b o eb nb)
  refine⟨fq,ys,ls,many ns,m,by rw [me, <-M.dp _ tks];rfl,B6 _ _ hys (nbl _),rws.keepB B6,M.rw_,by omega,by have:=M.few;omega,fun H7 s7=>⟨_,rfl,iteF ?_⟩⟩
  have s57:=s6.trans s7
  have e7:=s57 _ _ e5
  refine⟨_,rfl,_,rfl,j,CJ,dx,_,rfl,e7,c.cl,c.na _ (by simp),by show(1:Nat)<1000;decide,?_⟩
  refine⟨_,rfl,_,rfl,j,CJ,dx,_,rfl,upd_same,c.cl,c.na _ (by simp),by show(2:Nat)<1000;decide,?_⟩
  refine⟨_,rfl,_,rfl,j,CJ,dx,_,rfl,upd_same,c.cl,c.na _ (by simp),by show(3:Nat)<1000;decide,?_⟩
  refine⟨_,rfl,_,rfl,j,CJ,dx,_,rfl,upd_same,c.cl,c.na _ (by simp),by show(4:Nat)<1000;decide,?_⟩
  generalize e:upd _ j (HO.ins CJ dx (putF "rounds" _ _))=H8
  have k58:Kp j H5 H8:=by rw [<-e];exact((((Kp.of s57).at_).at_).at_).at_
  have e8:H8 j=some (.ins CJ dx [("taken",.ref tk),("grid",.ref g),("term",.ref p),("modulus",.int m),("rounds",natV r)]):=by rw [<-e];exact upd_same
  have B8:KpB H H8:=(k5.trans k58).toB hj
  have hy8:=B8 _ _ hys (nbl _)
  refine⟨_,rfl,fq,rfl,⟨_,SqL.of hy8⟩,fun D hD=>?_⟩
  have yl:ys.length<=3:=by rw [Paired.length rws];exact M.few
  refine comp_list (K:=K) (a:=fq) (xs:=ys) (fun i acc σ H9=>(∃v0,σ=[v0])/\Same H8 H9/\H9 D=some (.lst acc)/\acc.length=i) ⟨⟨_,rfl⟩,sameNew hD,upd_same,rfl⟩ (fun i acc σ H9 _ ⟨_,s9,_⟩=>SqL.of (s9 _ _ hy8)) ?_ ?_
  ·rintro i x acc σ H9 hi hx ⟨⟨v0,rfl⟩,s9,hD9,al⟩
   obtain⟨l,hl,b,rfl,hb⟩:=Paired.get (rws.keepB B8) hx
   refine⟨_,rfl,b,_,rfl,.inl (SqL.of (s9 _ _ hb)),fun l2 nl2=>?_⟩
   have nD:D≠l2:=ne_of_none hD9 nl2
   refine cturn (by rw [upd_ne nD];exact hD9) (small (by omega)) hi ⟨⟨_,rfl⟩,sameUpd hD (s9.trans (sameNew nl2)),upd_same,by rw [List.length_append,al];rfl⟩
  ·rintro acc σ H9 ⟨_,s9,hD9,al⟩
   refine⟨_,rfl,j,CJ,dx,_,rfl,s9 _ _ e8,c.cl,c.na _ (by simp),by show(5:Nat)<1000;decide,?_⟩
   have k89:Kp j H8 H9:=Kp.of s9
   have k5A:=(k58.trans k89)
   refine q tk D ps _ ((k5.trans k5A).at_) upd_same ?_ (fun x hx=>?_) tks
   ·rw [upd_ne tkj];exact k5A _ _ et5 tkj
   ·obtain⟨u,h1,h2⟩:=pk5 x hx
    have nj:∀b zs,H5 b=some (.tup zs)->∀o,upd H9 j o b=some (.tup zs):=fun b zs eb o=>by
     have nb:b≠j:=fun z=>by rw [z,e5]at eb;cases eb
     rw [upd_ne nb]
     exact k5A _ _ eb nb
    exact⟨u,nj _ _ h1 _,nj _ _ h2 _⟩
end
end KJ
namespace KJ
open PySem PyProof.Rows L2 G3
open KG (pe_gint GridAt)
structure JobAt (CG CJ:Addr) (H:Hp) (j tk g:Addr) (ps:List TkR) (ns:List Int) (xs:List V) (rs:List Rim) (r:Nat):Prop where
 ob:∃dx p m f2,H j=some (.ins CJ dx (jfs tk g p m r f2))
 tk_:H tk=some (.lst (ps.map fun x=>V.ref x.2))
 pk:∀x∈ps,PKy H x
 ga:GridAt CG H g ns xs rs
 pl:ps.length<=6
 gd:∀x∈ps,GoodT x.1/\x.1.2.length=ns.length
 r12:r<=12/\r*many ns<=120
theorem JobAt.same {CG CJ:Addr} {H H':Hp} {j tk g:Addr} {ps:List TkR} {ns:List Int} {xs:List V} {rs:List Rim} {r:Nat} (s:Same H H') (h:JobAt CG CJ H j tk g ps ns xs rs r):JobAt CG CJ H' j tk g ps ns xs rs r:=
 ⟨let⟨dx,p,m,f2,e⟩:=h.ob;⟨dx,p,m,f2,s _ _ e⟩,s _ _ h.tk_,fun x hx=>(h.pk x hx).same s,GridAt.same s h.ga,h.pl,h.gd,h.r12⟩
def SptsT (H:Hp):List V->List Tk->Prop:=Paired fun v x=>∃a,v= .ref a/\PKy H (x,a)
theorem SptsT.mono {H H':Hp} (k:∀b xs,H b=some (.tup xs)->H' b=some (.tup xs)) {xs:List V} {ls:List Tk} (h:SptsT H xs ls):SptsT H' xs ls:=Paired.mapP h fun _ _ ⟨a,e,q⟩=>⟨a,e,q.mono k⟩
def row (ns:List Int) (i:Nat):List Tk:=(places ns).map fun p=>((1:Int)+i,p)
def spots (ns:List Int) (r:Nat):List Tk:=(List.range r).flatMap (row ns)
theorem spots_succ (ns:List Int) (r:Nat):spots ns (r+1)=spots ns r++row ns r:=by unfold spots;rw [List.range_succ,List.flatMap_append];simp
theorem spots_len (ns:List Int):∀r,(spots ns r).length=r*(places ns).length
 |0=>by simp [spots]
 |r+1=>by rw [spots_succ,List.length_append,spots_len ns r,row,List.length_map,Nat.succ_mul]
def spSpots (CG CJ:Addr):Sp:=fun vs H Q _=>∃(j tk g:Addr) (ps:List TkR) (ns:List Int) (xs:List V) (rs:List Rim) (r:Nat),vs=[.ref j]/\JobAt CG CJ H j tk g ps ns xs rs r/\
 ∀(l:Addr) (vs:List V) (H':Hp),Same H H'->H l=none->H' l=some (.lst vs)->SptsT H' vs (spots ns r)->Q (.ref l) H'
section
variable {P:Program} {w:World} {K:W.Frag} {mg:Str->Option Value} {base:Heap} {N:Cn} {CG CJ:Addr}
abbrev FJ:List Str:=["taken","grid","term","modulus","rounds","first"]
end
end KJ
namespace KJ
open PySem PyProof.Rows L2 G3
open KG (pe_gint GridAt)
theorem wl_len (ps:List (List Int)) (n:Int):(wl ps n).length=ps.length*n.toNat:=by
 unfold wl
 induction ps with
 |nil=>simp
 |cons p ps ih=>
  rw [List.flatMap_cons,List.length_append,ih,List.length_map,List.length_range,List.length_cons,Nat.succ_mul]
  omega
theorem fold_len:∀(ns:List Int) (ps:List (List Int)) (a:Int),(∀n∈ns,OkSize n)->0<=a->ps.length=a.toNat->(ns.foldl wl ps).length=(ns.foldl (fun a n=>a*n) a).toNat
 | [],ps,a,_,_,h=>h
 |n::ns,ps,a,hn,h0,h=>by
  have h1:=(hn n List.mem_cons_self).1
  rw [List.foldl_cons,List.foldl_cons]
  refine fold_len ns _ _ (fun m hm=>hn m (List.mem_cons_of_mem _ hm)) (Int.mul_nonneg h0 (by omega)) ?_
  rw [wl_len,h,Int.toNat_mul h0 (by omega)]
theorem places_len {ns:List Int} (g:GoodSizes ns):(places ns).length=many ns:=fold_len ns [[]] 1 g.ok (by decide) rfl
section
variable {P:Program} {w:World} {K:W.Frag} {mg:Str->Option Value} {base:Heap} {N:Cn} {CG CJ:Addr}
theorem scIsSpot:FnScope ["self","thing"] ["self","thing"] (defScope sIsSpot):=⟨rfl,rfl,rfl,by decide+kernel,rfl,by decide+kernel,by decide+kernel⟩
abbrev NSpots:List Str:=["self","places","spots","round_at"]
theorem scSpots:FnScope ["self","places","spots","round_at"] ["self"] (defScope sSpots):=⟨rfl,rfl,rfl,by decide+kernel,rfl,by decide+kernel,by decide+kernel⟩
theorem ok_spots {f:Addr} {fd:FuncData} (F:Fun K "all_spots" "Job.all_spots" sSpots f fd) (c:Cf K CJ FJ) (D_all:Dis P w K mg base CX0 2 (·=CG) "all_places" ["self"] (fun _=>KG.spAll CG)) (T:Txt K mg):FnOk P w K mg base CX0 3 f fd ["self"] (spSpots CG CJ):=by
 refine F.ok scSpots (fun vs H Q E h=>?_) (fun cdv A outer s H vs Q E hr h=>?_)
 ·obtain⟨j,tk,g,ps,ns,xs,rs,r,rfl,_⟩:=h
  rfl
 ·obtain⟨j,tk,g,ps,ns,xs,rs,r,rfl,J,q⟩:=h
  obtain⟨dx,p,m,f2,hj⟩:=J.ob
  obtain⟨dg,sa,ra,hg,_⟩:=J.ga.ob
  obtain⟨r12,rm⟩:=J.r12
  have pln:=places_len J.ga.good
  obtain⟨_,_,_,m40⟩:=many_eq J.ga.good
  refine⟨_,(pss_cons (ps_set (i:=1) scSpots.nd rfl (Or.inl rfl) (pe_methD0 (pe_fld (pv 0) rfl) D_all (hr.mono (by decide)) pass0)) (pss_cons (ps_set (i:=2) scSpots.nd rfl (Or.inl rfl) (pe_lst pa_nil)) (pss_cons (ps_for PassesOwn.never rfl (pi_range2 rfl T.range (pa_cons pe_int (pa_cons (pe_op op_add (pe_fld (pv 0) rfl) pe_int) pa_nil))) (pg_name (i:=3) scSpots.nd rfl (Or.inr rfl)) (pss_one (ps_expr (pe_bm PySem.F.plainAttrs_list PySem.F.slot_list_extend PySem.F.type_list_extend mt_extend (pv 2) (pa_cons (pe_cp (own:=["place"]) (cap:=[("round_at",3)]) (g:=gName 0) (defScope sSpots) NSpots rfl rfl (fun x h=>cell_has h) (by decide+kernel) rfl (pi_list (pv 1)) (fun cl C s2 H2 fp=>(pg_name (i:=0) (show(["place","round_at"]:List Str).Nodup by decide+kernel) rfl (Or.inl rfl) (Or.inr rfl))) (fun cl C s2 H2 fp=>(pe_tup (pa_cons (pv 1) (pa_cons (pv 0) pa_nil))))) pa_nil))))) (pss_one (ps_ret (pv 2)))))),?_⟩
  refine⟨_,rfl,j,CJ,dx,_,_,rfl,hj,c.cl,c.na _ (by simp),rfl,g,CG,dg,_,rfl,hg,rfl,KG.flds_no _ _ (by decide+kernel) (by decide+kernel),g,ns,xs,rs,rfl,J.ga,fun pl ys H1 s1 e1 pt1=>?_⟩
  refine⟨by show 0<=sizeLine;decide,fun sp nsp=>?_⟩
  have nsp0:H sp=none:=s1.free nsp
  generalize e:upd H1 sp _=H2
  obtain⟨s2,e2⟩:=new_of nsp e
  have plsp:pl≠sp:=ne_of_none e1 nsp
  refine⟨_,rfl,j,CJ,dx,_,_,rfl,s2 _ _ (s1 _ _ hj),c.cl,c.na _ (by simp),rfl,_,_,rfl,rfl,1,(r:Int)+1,rfl,⟨by decide,by decide,by omega,by omega⟩,?_⟩
  have er:((r:Int)+1-1).toNat=r:=by omega
  rw [er]
  have yl:ys.length=many ns:=by rw [<-pln];exact Paired.length pt1
  refine for_range (lo:=1) (n:=r) (fun i σ H3=>(∃v3,σ=[some (.ref j),some (.ref pl),some (.ref sp),v3])/\Same H1 H3/\∃vs,H3 sp=some (.lst vs)/\SptsT H3 vs (spots ns i)) ⟨⟨_,rfl⟩,s2,[],e2,.nil⟩ ?_ ?_
  ·rintro i σ H3 hi ⟨⟨v3,rfl⟩,s3,vs,hv,sp3⟩
   have hpl3:=s3 _ _ e1
   refine⟨_,rfl,.inl ⟨rfl,_,SqL.of hv⟩,_,rfl,pl,rfl,⟨_,SqL.of hpl3⟩,fun D hD=>?_⟩
   have nD:sp≠D:=ne_of_none hv hD
   refine comp_list (K:=K) (a:=pl) (xs:=ys) (fun k acc σ H4=>(∃v0,σ=[v0,some (.int (1+(i:Int)))])/\Same H3 H4/\H4 D=some (.lst acc)/\SptsT H4 acc (((places ns).take k).map fun p=>((1:Int)+i,p))) ⟨⟨_,rfl⟩,sameNew hD,upd_same,.nil⟩ (fun k acc σ H4 _ ⟨_,s4,_⟩=>SqL.of (s4 _ _ hpl3)) ?_ ?_
   ·rintro k x acc σ H4 hk hx ⟨⟨v0,rfl⟩,s4,hD4,sp4⟩
    obtain⟨pt,hpt,a,rfl,ha⟩:=Paired.get pt1 hx
    refine⟨_,rfl,_,rfl,by show 2<=sizeLine;decide,fun t1 n1=>?_⟩
    have nt:t1≠D:=Ne.symm (ne_of_none hD4 n1)
    have up:∀b zs,H4 b=some (.tup zs)->upd (upd H4 t1 (.tup [.int (1+(i:Int)),.ref a])) D (.lst (acc++[V.ref t1])) b=some (.tup zs):=fun b zs e=>by
     have bD:b≠D:=fun z=>by rw [z,hD4]at e;cases e
     rw [upd_ne bD,upd_ne (ne_of_none e n1)]
     exact e
    have al:acc.length<=k:=by rw [Paired.length sp4,List.length_map,List.length_take];omega
    refine cturn (by rw [upd_ne (Ne.symm nt)];exact hD4) (small (by omega)) hk ⟨⟨_,rfl⟩,sameUpd hD (s4.trans (sameNew n1)),upd_same,?_⟩
    rw [List.take_succ,hpt,List.map_append]
    exact Paired.snoc' (sp4.mono up) ⟨t1,rfl,a,by rw [upd_ne nt,upd_same],up _ _ (s4 _ _ (s3 _ _ ha))⟩
   ·rintro acc σ H4 ⟨_,s4,hD4,sp4⟩
    rw [yl, <-pln,List.take_length]at sp4
    have vl:vs.length=i*many ns:=by rw [Paired.length sp3,spots_len,pln]
    have al:acc.length=many ns:=by rw [Paired.length sp4,List.length_map,pln]
    have b1:i*many ns+many ns<=120:=by
     have:(i+1)*many ns<=r*many ns:=Nat.mul_le_mul_right _ hi
     rw [Nat.succ_mul]at this
     omega
    have hv4:=s4 _ _ hv
    refine⟨sp,D,vs,acc,rfl,rfl,hv4,hD4,by rw [vl,al,sizeLine_eq];omega,?_⟩
    refine⟨⟨_,rfl⟩,fun b o eb=>?_,_,upd_same,?_⟩
    ·have nb:b≠sp:=ne_of_none eb nsp
     rw [upd_ne nb]
     exact s4 _ _ (s3 _ _ eb)
    ·rw [spots_succ]
     have up:∀b zs,H4 b=some (.tup zs)->upd H4 sp (.lst (vs++acc)) b=some (.tup zs):=fun b zs e=>by
      rw [upd_ne (fun z=>by rw [z,hv4]at e;cases e)]
      exact e
     exact Paired.app (sp3.mono fun b zs e=>up b zs (s4 _ _ e)) (sp4.mono up)
  ·rintro σ H3 ⟨⟨v3,rfl⟩,s3,vs,hv,sp3⟩
   exact⟨_,rfl,q sp vs H3 (s1.trans s3) nsp0 hv sp3⟩
end
end KJ
namespace KJ
open PySem PyProof.Rows L2 G3
open KG (pe_gint GridAt RimsAt)
structure JW (H:Hp) (wd sa ra fq:Addr) (ns:List Int) (xs:List V) (rs:List Rim) (tv:V) (t:Tm) (m:Int) (r:Nat) (ls:List (List Int)):Prop where
 dk:∃kvs,H wd=some (.dK kvs)/\valV kvs (.inr "sizes":Key)=some (.ref sa)/\valV kvs (.inr "rims":Key)=some (.ref ra)/\valV kvs (.inr "told":Key)=some tv/\valV kvs (.inr "modulus":Key)=some (.int m)/\valV kvs (.inr "rounds":Key)=some (natV r)/\valV kvs (.inr "first":Key)=some (.ref fq)
 sz:H sa=some (.lst (ns.map V.int))
 ra_:H ra=some (.lst xs)
 rims:RimsAt H xs rs
 len:rs.length=ns.length
 good:GoodSizes ns
 tu:TupAt H t tv
 hd:ht t<=4
 ok:AllOk t
 ln:Ln t ns.length
 m2:2<=m/\m<=1000000000
 r12:r<=12/\r*many ns<=120
 fi:∃ys,H fq=some (.lst ys)/\RowsT H ys ls
 rw_:∀l∈ls,GoodR (many ns) m l
 dp:∀tks,IsTks t tks->(ls.length:Int)=dpt tks
 few:ls.length<=3
def spJob:Sp:=fun vs H Q _=>∃a:Addr,vs=[.ref a]/\WellAt H a/\∀(wd sa ra fq:Addr) (ns:List Int) (xs:List V) (rs:List Rim) (tv:V) (t:Tm) (m:Int) (r:Nat) (ls:List (List Int)) (H':Hp),Kp a H H'->JW H' wd sa ra fq ns xs rs tv t m r ls->Q (.ref wd) H'
theorem prod_take {ns:List Int} {i:Nat} {n:Int} (h:ns[i]? =some n):prodL (ns.take (i+1))=prodL (ns.take i)*n:=by rw [KG.take_snoc h,prodL_snoc]
theorem prod_le:∀(ns:List Int) (a:Int),(∀n∈ns,OkSize n)->1<=a->a<=ns.foldl (fun a n=>a*n) a
 | [],a,_,_=>Int.le_refl a
 |n::ns,a,hn,h=>by
  have h1:=(hn n List.mem_cons_self).1
  rw [List.foldl_cons]
  have h2:a*1<=a*n:=Int.mul_le_mul_of_nonneg_left h1 (by omega)
  have:=prod_le ns (a*n) (fun m hm=>hn m (List.mem_cons_of_mem _ hm)) (by omega)
  omega
theorem prod_take_le {ns:List Int} (g:GoodSizes ns) (i:Nat):1<=prodL (ns.take i)/\prodL (ns.take i)<=40:=by
 have h1:1<=prodL (ns.take i):=prodL_pos _ 1 (fun n hn=>g.ok n (List.mem_of_mem_take hn)) (by decide)
 refine⟨h1,?_⟩
 have h2:=prod_le (ns.drop i) (prodL (ns.take i)) (fun n hn=>g.ok n (List.mem_of_mem_drop hn)) h1
 have e:prodL ns=(ns.drop i).foldl (fun a n=>a*n) (prodL (ns.take i)):=by
  unfold prodL
  rw [<-List.foldl_append,List.take_append_drop]
 have:=g.many
 omega
theorem maxD_dpt {K:W.Frag} {H:Hp} {p:Addr} {qs:List TkR} {Q:VK} (hq:SqL K H p ((qs.map fun x=>x.1.1).map V.int)) (pos:∀x∈qs,1<=x.1.1) (k:Q (.int (dpt (qs.map (·.1)))) H):rMaxD K [.ref p] [.int 1] H Q:=by
 refine⟨p,_,.int 1,rfl,rfl,hq,fun e=>?_,fun m hm hx=>?_⟩
 ·have:qs=[]:=by simpa using e
  subst this
  exact k
 ·rw [dpt_of (m:=m)]at k
  ·exact k
  ·intro x hx
   obtain⟨y,hy,rfl⟩:=List.mem_map.mp hx
   exact pos y hy
  ·obtain⟨y,hy,rfl⟩:=List.mem_map.mp hm
   exact⟨y.1,List.mem_map.mpr ⟨y,hy,rfl⟩,rfl⟩
  ·intro x hx2
   obtain⟨y,hy,rfl⟩:=List.mem_map.mp hx2
   exact hx _ (List.mem_map.mpr ⟨y,hy,rfl⟩)
theorem dpt_bd {l:List Tk} (h:∀x∈l,x.1<=3):1<=dpt l/\dpt l<=3:=by
 refine⟨(dpt_le l 1).1,?_⟩
 rcases dpt_mem l 1 with z|⟨x,hx,z⟩
 ·unfold dpt;omega
 ·have:=h x hx
  unfold dpt
  omega
def RowsN (a d:Addr) (H:Hp):List V->List (List Int)->Prop:=Paired fun v l=>∃b,v= .ref b/\b≠a/\b≠d/\H b=some (.lst (l.map V.int))
theorem RowsN.kp {a d:Addr} {H H':Hp} (k:∀b o,H b=some o->b≠a->b≠d->H' b=some o) {xs:List V} {ls:List (List Int)} (h:RowsN a d H xs ls):RowsN a d H' xs ls:=Paired.mapP h fun _ _ ⟨b,e,n1,n2,q⟩=>⟨b,e,n1,n2,k _ _ q n1 n2⟩
section
variable {P:Program} {w:World} {K:W.Frag} {mg:Str->Option Value} {base:Heap} {N:Cn}
abbrev NJob:List Str:=["_law_well_here","_law_sizes_here","_law_rims","_law_many","_law_size","_law_told_here","_law_modulus","_law_rounds","_law_deep","_law_first","_law_world"]
theorem scJob:FnScope ["_law_well_here","_law_sizes_here","_law_rims","_law_many","_law_size","_law_told_here","_law_modulus","_law_rounds","_law_deep","_law_first","_law_world"] ["_law_well_here"] (defScope sJob):=⟨rfl,rfl,rfl,by decide+kernel,rfl,by decide+kernel,by decide+kernel⟩
abbrev NJ:List Str:=["_law_well_here","_law_sizes_here","_law_rims","_law_many","_law_size","_law_told_here","_law_modulus","_law_rounds","_law_deep","_law_first","_law_world"]
abbrev XJ (P:Program) (w:World) (K:W.Frag) (mg:Str->Option Value) (base:Heap) (f:Addr) (cdv:Value) (A:Around) (outer:List Env) (s:Shared) (H:Hp) (E:XK):Cx:=(cxOf CX0 P w K mg base NJ "_law_job" (defScope sJob) f cdv A outer s H E).nox
structure J9 (a sa D:Addr) (ns:List Int) (xs:List V) (rs:List Rim) (tv:V) (t:Tm) (m:Int) (r:Nat) (H:Hp):Prop where
 wa:WellAt H a
 sz:H sa=some (.lst (ns.map V.int))
 nsa:sa≠a
 ra_:H D=some (.lst xs)
 nD:D≠a
 rims:RimsAt H xs rs
 len:rs.length=ns.length
 good:GoodSizes ns
 tu:TupAt H t tv
 hd:ht t<=4
 ok:AllOk t
 ln:Ln t ns.length
 m2:2<=m/\m<=1000000000
 r12:r<=12/\r*many ns<=120
theorem job_end {f:Addr} {cdv:Value} {A:Around} {outer:List Env} {s:Shared} {H:Hp} {E:XK} (hr:Room 6 (XJ P w K mg base f cdv A outer s H E).A) (c_draw:Cal P w K mg base CX0 1 "_law_draw" ["_law_well_here","_law_most"] spDraw) (c_takes:Cal P w K mg base CX0 5 "_law_takes" ["_law_told_here"] (spLTk 4)) (T:Txt K mg):
  ∃t,PSs (XJ P w K mg base f cdv A outer s H E) ((defBody sJob).drop 7) t/\∀(nx:L2.St->Hp->Prop) (Q:VK) (a sa D:Addr) (ns:List Int) (xs:List V) (rs:List Rim) (tv:V) (tm:Tm) (m:Int) (r:Nat) (v4:Option V) (H9:Hp),J9 a sa D ns xs rs tv tm m r H9->
   (∀(wd sa ra fq:Addr) (ns:List Int) (xs:List V) (rs:List Rim) (tv:V) (t:Tm) (m:Int) (r:Nat) (ls:List (List Int)) (H':Hp),Kp a H9 H'->JW H' wd sa ra fq ns xs rs tv t m r ls->Q (.ref wd) H')->
   t {nx:=nx,rt:=Q} [some (.ref a),some (.ref sa),some (.ref D),some (natV (many ns)),v4,some tv,some (.int m),some (natV r),none,none,none] H9:=by
 refine⟨_,(pss_cons (ps_set (i:=8) scJob.nd rfl (Or.inl rfl) (pe_callBK (call_maxD rfl) rfl T.max boot_max (pa_cons (pe_cp (own:=["_law_back","_law_steps_here"]) (cap:=[]) (g:=gPair K 0 1) (defScope sJob) NJob rfl rfl (fun x h=>cell_has h) (by decide+kernel) rfl (pi_list (pe_c c_takes (hr.mono (by decide)) rfl pass0 (pa_cons (pv 5) pa_nil))) (fun cl C s2 H2 fp=>(pg_tup rfl (pgs_cons (pg_name (i:=0) (show(["_law_back","_law_steps_here"]:List Str).Nodup by decide+kernel) rfl (Or.inl rfl) (Or.inr rfl)) (pgs_cons (pg_name (i:=1) (show(["_law_back","_law_steps_here"]:List Str).Nodup by decide+kernel) rfl (Or.inl rfl) (Or.inr rfl)) pgs_nil)))) (fun cl C s2 H2 fp=>(pv 0))) pa_nil) (pk_cons pe_int pk_nil))) (pss_cons (ps_cpC (i:=9) scJob.nd rfl (Or.inl rfl) (own:=["_law_turn"]) (cap:=[("_law_well_here",0),("_law_many",3),("_law_modulus",6)]) (defScope sJob) NJob rfl rfl (fun x h=>cell_has h) (by decide+kernel) rfl (pi_range1 rfl T.range (pa_cons (pv 8) pa_nil)) (fun cs cf C s2 H2 fp=>(pg_name (i:=0) (show(["_law_turn","_law_well_here","_law_many","_law_modulus"]:List Str).Nodup by decide+kernel) rfl (Or.inl rfl) (Or.inr rfl))) (fun cs cf C s2 H2 fp=>(pe_cpN (own:=["_law_k"]) (icap:=[("_law_well_here",1),("_law_modulus",3)]) (g:=gName 0) (defScope sJob) cf rfl rfl (by decide+kernel) rfl (pi_range1 rfl T.range (pa_cons (pv 2) pa_nil)) (fun cl C' s3 H3 fp'=>(pg_name (i:=0) (show(["_law_k","_law_well_here","_law_modulus"]:List Str).Nodup by decide+kernel) rfl (Or.inl rfl) (Or.inr rfl))) (fun cl C' s3 H3 fp'=>(pe_c c_draw (hr.mono (by decide)) rfl pass0 (pa_cons (pv 1) (pa_cons (pv 2) pa_nil))))))) (pss_cons (ps_set (i:=10) scJob.nd rfl (Or.inl rfl) (pe_disp (pps_cons pe_str (pv 1) (pps_cons pe_str (pv 2) (pps_cons pe_str (pv 5) (pps_cons pe_str (pv 6) pps_nil)))) rfl rfl (fun z=>nomatch z) (by decide))) (pss_cons (ps_expr (pe_dupd (pv 10) (pe_disp (pps_cons pe_str (pv 7) (pps_cons pe_str (pv 9) pps_nil)) rfl rfl (fun z=>nomatch z) (by decide)) ⟨rfl,rfl,rfl,rfl⟩)) (pss_one (ps_ret (pv 10))))))),?_⟩
 intro nx Q a sa D ns xs rs tv t m r v4 H9 J q
 have lnT:=J.ln
 have w9:=J.wa
 have gT:∀x∈raw t,GoodT x:=fun x hx=>(J.ok.2 x hx).1
 obtain⟨me,mi,m1,m40⟩:=many_eq J.good
 refine⟨_,rfl,tv,t,rfl,J.tu,J.hd,lnT.k18,fun lt qs HA sA hlt eA pkA tksA=>⟨lt,rfl,⟨_,SqL.of eA⟩,fun D2 hD2=>?_⟩⟩
 have ql:qs.length<=6:=by
  obtain⟨_,_,ks,kl,km⟩:=lnT
  have:=(nodup_srt tksA.1).length_le_of_subset (l₂:=ks) fun x hx=>km x ((tksA.2 x).mp hx)
  rw [List.length_map]at this
  omega
 have qg:∀x∈qs,GoodT x.1:=fun x hx=>gT x.1 ((tksA.2 _).mp (List.mem_map.mpr ⟨x,hx,rfl⟩))
 refine comp_listG (K:=K) (a:=lt) (xs:=qs.map fun x=>V.ref x.2) (fun i acc σ HB=>(∃v0 v1,σ=[v0,v1])/\Same HA HB/\HB D2=some (.lst acc)/\acc=((qs.take i).map fun x=>x.1.1).map V.int) ⟨⟨_,_,rfl⟩,sameNew hD2,upd_same,rfl⟩ (fun i acc σ HB _ ⟨_,sB,_⟩=>SqL.of (sB _ _ eA)) ?_ ?_
 ·rintro i x acc σ HB hi hx ⟨⟨v0,v1,rfl⟩,sB,hDB,rfl⟩
  rw [List.length_map]at hi
  have hx':x= .ref qs[i].2:=by
   rw [List.getElem?_map,List.getElem?_eq_getElem hi]at hx
   exact(Option.some.inj hx).symm
  subst hx'
  obtain⟨u,g1,g2⟩:=(pkA qs[i] (List.getElem_mem hi)).same sB
  refine⟨qs[i].2,_,rfl,SqT.of g1,rfl,_,_,rfl,_,_,rfl,rfl,_,rfl,?_⟩
  refine cturn hDB (small ?_) (by rw [List.length_map];exact hi) ⟨⟨_,_,rfl⟩,sameUpd hD2 sB,upd_same,?_⟩
  ·rw [List.length_map,List.length_map,List.length_take];omega
  ·rw [List.take_succ,List.getElem?_eq_getElem hi,List.map_append,List.map_append];rfl
 rintro acc σ HB ⟨_,sB,hDB,rfl⟩
 rw [List.length_map,List.take_length]at hDB
 dsimp only [tNil,tCons,tC]
 refine maxD_dpt (SqL.of hDB) (fun x hx=>(qg x hx).1) ?_
 obtain⟨dp1,dp3⟩:=dpt_bd (l:=qs.map (·.1)) fun x hx=>by
  obtain⟨y,hy,rfl⟩:=List.mem_map.mp hx
  exact(qg y hy).2.1
 generalize hdp:dpt (qs.map (·.1))=dp
 rw [hdp]at dp1 dp3
 have wB:WellAt HB a:=(w9.same sA).same sB
 refine⟨_,rfl,dp,rfl,by omega,by omega,fun D3 hD3=>?_⟩
 have sAB:=sA.trans sB
 have kB:Kp a H9 HB:=Kp.of sAB
 have hD3a:D3≠a:=wB.ne hD3
 refine comp_range (fun i acc σ HC=>(∃v0,σ=[v0,some (.ref a),some (natV (many ns)),some (.int m)])/\Kp a HB HC/\WellAt HC a/\HC D3=some (.lst acc)/\∃ls,RowsN a D3 HC acc ls/\ls.length=i/\∀l∈ls,GoodR (many ns) m l) ⟨⟨_,rfl⟩,(Kp.of (Same.refl HB)).new hD3,wB.new hD3,upd_same,[],.nil,rfl,fun _ h=>nomatch h⟩ ?_ ?_
 ·rintro i acc σ HC hi ⟨⟨v0,rfl⟩,kC,wC,hDC,ls,rN,ll,lg⟩
  refine⟨_,rfl,(many ns:Int),rfl,by omega,by omega,fun D4 hD4=>?_⟩
  have hD4a:D4≠a:=wC.ne hD4
  have hD43:D4≠D3:=Ne.symm (ne_of_none hDC hD4)
  refine comp_range (fun k ac2 σ HD=>(∃v0,σ=[v0,some (.ref a),some (.int m)])/\Kp a HC HD/\WellAt HD a/\HD D4=some (.lst ac2)/\∃l:List Int,ac2=l.map V.int/\l.length=k/\∀x∈l,0<=x/\x<=m-1) ⟨⟨_,rfl⟩,(Kp.of (Same.refl HC)).new hD4,wC.new hD4,upd_same,[],rfl,rfl,fun _ h=>nomatch h⟩ ?_ ?_
  ·rintro k ac2 σ HD hk ⟨⟨v1,rfl⟩,kD,wD,hDD,l,rfl,l1,lb⟩
   have m2:=J.m2
   refine⟨_,rfl,_,rfl,a,m,rfl,wD,by omega,by omega,fun n HE hn kE wE=>?_⟩
   refine cturn (kE _ _ hDD hD4a) (small (by rw [List.length_map];omega)) hk ⟨⟨_,rfl⟩,(kD.trans kE).upd hD4,wE.upd hD4a,upd_same,l++[(n:Int)],by rw [List.map_append];rfl,by rw [List.length_append,l1];rfl,fun x hx=>?_⟩
   rcases List.mem_append.mp hx with z|z
   ·exact lb x z
   ·rw [List.mem_singleton.mp z];omega
  ·rintro ac2 σ HD ⟨⟨v1,rfl⟩,kD,wD,hDD,l,rfl,l1,lb⟩
   have hD3D:=kD _ _ hDC hD3a
   have al:acc.length=i:=by rw [Paired.length rN,ll]
   have up:∀b o,HD b=some o->b≠D3->upd HD D3 (.lst (acc++[V.ref D4])) b=some o:=fun b o e n=>by rw [upd_ne n];exact e
   refine cturn hD3D (small (by omega)) hi ⟨⟨_,rfl⟩,(kC.trans kD).upd hD3,wD.upd hD3a,upd_same,ls++[l],Paired.snoc' (rN.kp fun b o e n1 n2=>up b o (kD _ _ e n1) n2) ⟨D4,rfl,hD4a,hD43,up _ _ hDD hD43⟩,by rw [List.length_append,ll];rfl,fun x hx=>?_⟩
   rcases List.mem_append.mp hx with z|z
   ·exact lg x z
   ·rw [List.mem_singleton.mp z]
    exact⟨by omega,lb⟩
 rintro acc σ HC ⟨_,kC,wC,hDC,ls,rN,ll,lg⟩
 have k9C:Kp a H9 HC:=kB.trans kC
 refine fun p1 m1'=>?_
 generalize e:upd HC p1 _=HD
 obtain⟨sD,eD⟩:=new_of m1' e
 refine⟨_,rfl,_,rfl,_,rfl,_,rfl,eD,[(.inr "sizes",.ref sa),(.inr "rims",.ref D),(.inr "told",tv),(.inr "modulus",.int m)],rfl,by show 4<=15;decide,?_⟩
 generalize e:upd HD p1 _=HE
 have sE:Same HC HE:=by rw [<-e];exact sameUpd m1' sD
 have eE:HE p1=some (.dK (mergeK [] [(.inr "sizes",.ref sa),(.inr "rims",.ref D),(.inr "told",tv),(.inr "modulus",.int m)])):=by rw [<-e];exact upd_same
 refine⟨_,rfl,p1,rfl,.inl ⟨_,.inl eE⟩,fun p2 m2'=>?_⟩
 generalize e:upd HE p2 _=HF
 obtain⟨sF',eF⟩:=new_of m2' e
 refine⟨_,rfl,_,rfl,eF,[(.inr "rounds",natV r),(.inr "first",.ref D3)],rfl,by show 2<=15;decide,?_⟩
 have n12:p1≠p2:=ne_of_none eE m2'
 generalize e:upd HF p2 _=HG
 have sG:Same HE HG:=by rw [<-e];exact sameUpd m2' sF'
 have eG:HG p2=some (.dK (mergeK [] [(.inr "rounds",natV r),(.inr "first",.ref D3)])):=by rw [<-e];exact upd_same
 refine⟨p2,_,_,rfl,sG _ _ eE,eG,n12,Nat.le_trans (Nat.add_le_add (length_mergeK _ _) (length_mergeK _ _)) (by show 0+4+(0+2)<=1000;decide),?_⟩
 generalize e:upd HG p1 _=HI
 have sI:Same HC HI:=by rw [<-e];exact sameUpd m1' (sE.trans sG)
 have eI:HI p1=some (.dK (mergeK (mergeK [] [(.inr "sizes",.ref sa),(.inr "rims",.ref D),(.inr "told",tv),(.inr "modulus",.int m)]) (mergeK [] [(.inr "rounds",natV r),(.inr "first",.ref D3)]))):=by rw [<-e];exact upd_same
 have kI:Kp a H9 HI:=k9C.same sI
 have dpE:(ls.length:Int)=dp:=by rw [ll];omega
 refine⟨_,rfl,q p1 sa D D3 ns xs rs tv t m r ls HI kI ⟨⟨_,eI,rfl,rfl,rfl,rfl,rfl,rfl⟩,kI _ _ J.sz J.nsa,kI _ _ J.ra_ J.nD,KG.RimsAt.mono (fun b ys e=>kI.tup J.wa e) J.rims,J.len,J.good,J.tu.mono fun b ys e=>kI.tup J.wa e,J.hd,J.ok,J.ln,J.m2,J.r12,⟨acc,sI _ _ hDC,Paired.mapP rN fun _ _ ⟨b,e1,_,_,e2⟩=>⟨b,e1,sI _ _ e2⟩⟩,lg,fun tks htks=>?_,by omega⟩⟩
 rw [dpE, <-hdp,tksA.uniq htks]
theorem ok_job {f:Addr} {fd:FuncData} (F:Fun K "_law_job" "_law_job" sJob f fd) (c_draw:Cal P w K mg base CX0 1 "_law_draw" ["_law_well_here","_law_most"] spDraw) (c_sizes:Cal P w K mg base CX0 2 "_law_sizes" ["_law_well_here"] KG.spSizes) (c_rim:Cal P w K mg base CX0 2 "_law_rim" ["_law_well_here"] KG.spRim) (c_some:Cal P w K mg base CX0 3 "_law_some_takes" ["_law_well_here","_law_lines"] spSome)
  (c_told:Cal P w K mg base CX0 6 "_law_told" ["_law_well_here","_law_some","_law_deep"] (spTold 4)) (c_takes:Cal P w K mg base CX0 5 "_law_takes" ["_law_told_here"] (spLTk 4)) (T:Txt K mg):FnOk P w K mg base CX0 7 f fd ["_law_well_here"] spJob:=by
 refine F.ok scJob (fun vs H Q E h=>?_) (fun cdv A outer s H vs Q E hr h=>?_)
 ·obtain⟨a,rfl,_⟩:=h
  rfl
 ·obtain⟨a,rfl,wa,q⟩:=h
  obtain⟨tR,hR,rR⟩:=job_end (f:=f) (cdv:=cdv) (A:=A) (outer:=outer) (s:=s) (H:=H) (E:=E) hr c_draw c_takes T
  refine⟨_,(pss_cons (ps_set (i:=1) scJob.nd rfl (Or.inl rfl) (pe_c c_sizes (hr.mono (by decide)) rfl pass0 (pa_cons (pv 0) pa_nil))) (pss_cons (ps_cp (i:=2) scJob.nd rfl (Or.inl rfl) (own:=["_law_size"]) (cap:=[("_law_well_here",0)]) (g:=gName 0) (defScope sJob) NJob rfl rfl (fun x h=>cell_has h) (by decide+kernel) rfl (pi_list (pv 1)) (fun cl C s2 H2 fp=>(pg_name (i:=0) (show(["_law_size","_law_well_here"]:List Str).Nodup by decide+kernel) rfl (Or.inl rfl) (Or.inr rfl))) (fun cl C s2 H2 fp=>(pe_c c_rim (hr.mono (by decide)) rfl pass0 (pa_cons (pv 1) pa_nil)))) (pss_cons (ps_set (i:=3) scJob.nd rfl (Or.inr rfl) pe_int) (pss_cons (ps_for PassesOwn.never rfl (pi_list (pv 1)) (pg_name (i:=4) scJob.nd rfl (Or.inl rfl)) (pss_one (ps_set (i:=3) scJob.nd rfl (Or.inr rfl) (pe_op op_mul (pv 3) (pv 4))))) (pss_cons (ps_set (i:=5) scJob.nd rfl (Or.inl rfl) (pe_c c_told (hr.mono (by decide)) rfl pass0 (pa_cons (pv 0) (pa_cons (pe_c c_some (hr.mono (by decide)) rfl pass0 (pa_cons (pv 0) (pa_cons (pe_callB call_len_seq (by rfl) T.len PySem.boot_len (pa_cons (pv 1) pa_nil)) pa_nil))) (pa_cons pe_int pa_nil))))) (pss_cons (ps_set (i:=6) scJob.nd rfl (Or.inr rfl) (pe_op op_add pe_int (pe_c c_draw (hr.mono (by decide)) rfl pass0 (pa_cons (pv 0) (pa_cons (pe_ix ix_list (pe_lst (pa_cons pe_int (pa_cons pe_int (pa_cons (pe_op op_sub (pe_op op_pow pe_int pe_int) pe_int) pa_nil)))) (pe_c c_draw (hr.mono (by decide)) rfl pass0 (pa_cons (pv 0) (pa_cons pe_int pa_nil))) (fun _ _=>rfl)) pa_nil))))) (pss_cons (ps_set (i:=7) scJob.nd rfl (Or.inl rfl) (pe_op op_mul (pe_op op_add pe_int (pe_c c_draw (hr.mono (by decide)) rfl pass0 (pa_cons (pv 0) (pa_cons (pe_callB (call_min2 rfl) rfl T.min boot_min (pa_cons pe_int (pa_cons (pe_op op_fdiv pe_int (pv 3)) pa_nil))) pa_nil)))) (pe_callTy call_int1 rfl T.int boot_int (pa_cons (pe_cmpR op_ne (pe_c c_draw (hr.mono (by decide)) rfl pass0 (pa_cons (pv 0) (pa_cons pe_int pa_nil))) pe_int (nomark _)) pa_nil)))) hR))))))),?_⟩
  refine⟨_,rfl,a,rfl,wa,fun sa ns H1 k1' w1' nsa e1 good=>?_⟩
  have k1:Kp a H H1:=k1'
  have w1:WellAt H1 a:=w1'
  have nsaa:sa≠a:=wa.ne nsa
  refine⟨_,rfl,sa,rfl,⟨_,SqL.of e1⟩,fun D hD=>?_⟩
  have hDa:D≠a:=w1.ne hD
  have nsD:sa≠D:=ne_of_none e1 hD
  have nl3:=good.few
  refine comp_list (K:=K) (a:=sa) (xs:=ns.map V.int) (fun i acc σ H2=>(∃v0,σ=[v0,some (.ref a)])/\Kp a H1 H2/\WellAt H2 a/\H2 D=some (.lst acc)/\∃rs,RimsAt H2 acc rs/\rs.length=i) ⟨⟨_,rfl⟩,(Kp.of (Same.refl H1)).new hD,w1.new hD,upd_same,[],.nil,rfl⟩ (fun i acc σ H2 _ ⟨_,k2,_⟩=>SqL.of (k2 _ _ e1 nsaa)) ?_ ?_
  ·rintro i x acc σ H2 hi hx ⟨⟨v0,rfl⟩,k2,w2,hD2,rs,ri,rl⟩
   rw [List.length_map]at hi
   refine⟨_,rfl,a,rfl,w2,fun p1 rm H3 k3' w3' e3 ok=>?_⟩
   have k3:Kp a H2 H3:=k3'
   have w3:WellAt H3 a:=w3'
   have hD3:=k3 _ _ hD2 hDa
   have al:acc.length=i:=by rw [Paired.length ri,rl]
   have up:∀b zs,H3 b=some (.tup zs)->upd H3 D (.lst (acc++[V.ref p1])) b=some (.tup zs):=fun b zs e=>by
    rw [upd_ne (fun z=>by rw [z,hD3]at e;cases e)]
    exact e
   exact cturn hD3 (small (by omega)) (by rw [List.length_map];exact hi) ⟨⟨_,rfl⟩,(k2.trans k3).upd hD,w3.upd hDa,upd_same,rs++[rm],Paired.snoc' (KG.RimsAt.mono (fun b ys e=>up b ys (k3.tup w2 e)) ri) ⟨p1,rfl,up _ _ e3,ok⟩,by rw [List.length_append,rl];rfl⟩
  rintro xs σ H2 ⟨_,k2,w2,hD2,rs,ri,rl⟩
  rw [List.length_map]at rl
  have e2:=k2 _ _ e1 nsaa
  refine⟨_,rfl,sa,rfl,⟨_,SqL.of e2⟩,?_⟩
  refine for_list (K:=K) (a:=sa) (xs:=ns.map V.int) (fun i σ H3=>H3=H2/\∃v4,σ=[some (.ref a),some (.ref sa),some (.ref D),some (.int (prodL (ns.take i))),v4,none,none,none,none,none,none]) ⟨rfl,none,rfl⟩ (fun i σ H3 _ ⟨e,_⟩=>by rw [e];exact SqL.of e2) ?_ ?_
  ·rintro i x σ H3 hx ⟨rfl,v4,rfl⟩
   obtain⟨n,rfl,hn⟩:=KG.get_map hx
   have b1:=prod_take_le good i
   exact⟨_,rfl,_,rfl,_,_,rfl,rfl,.inl ⟨by omega,by omega⟩,rfl,_,by rw [prod_take hn];rfl⟩
  rintro σ H3 ⟨rfl,v4,rfl⟩
  rw [List.length_map,List.take_length]
  obtain⟨me,mi,m1,m40⟩:=many_eq good
  rw [me]
  have k2':Kp a H H3:=k1.trans k2
  refine⟨_,rfl,_,rfl,_,rfl,sa,_,rfl,.inl (SqL.of e2),a,ns.length,by rw [List.length_map];rfl,w2,nl3,fun so ps H4 k4 w4 hso e4 pk4 len4=>?_⟩
  have nso:so≠a:=w2.ne hso
  have S4:SomeAt H4 so ps:=⟨e4,fun x hx=>(pk4 x hx).1,by omega⟩
  refine⟨a,so,ps,3,rfl,w4,nso,S4,by decide,fun tv t H5 k5 w5 tu5 h5 f5 r5=>?_⟩
  have gT:∀x∈raw t,GoodT x/\x.2.length=ns.length:=fun x hx=>by
   obtain⟨y,hy,rfl⟩:=List.mem_map.mp (r5 x hx)
   exact⟨(pk4 y hy).2.2,(pk4 y hy).2.1⟩
  have n1:=good.one
  have okT:AllOk t:=⟨f5,fun x hx=>⟨(gT x hx).1,by rw [(gT x hx).2];omega,by rw [(gT x hx).2];omega⟩⟩
  have lnT:Ln t ns.length:=⟨by omega,fun x hx=>(gT x hx).2,ps.map (·.1),by rw [List.length_map];omega,r5⟩
  refine⟨_,rfl,_,_,rfl,rfl,⟨by decide,by decide,by decide⟩,_,_,rfl,rfl,by show 3<=sizeLine;decide,fun l0 hl0=>⟨_,rfl,a,3,rfl,w5.new hl0,by decide,by decide,fun r0 H6 hr0 k6' w6=>?_⟩⟩
  have l0a:l0≠a:=w5.ne hl0
  obtain⟨mm,hv,mm0,mm1⟩:∃v:Nat,([V.int 5,V.int 200,V.int (10 ^ 9-1)]:List V)[r0]? =some (natV v)/\0<v/\v<=999999999:=by
   match r0,(show r0<3 by omega)with
   |0,_=>exact⟨5,rfl,by decide,by decide⟩
   |1,_=>exact⟨200,rfl,by decide,by decide⟩
   |2,_=>exact⟨999999999,rfl,by decide,by decide⟩
  have k6:Kp a H5 H6:=(Kp.of (sameNew hl0)).trans k6'
  refine⟨l0,_,_,_,rfl,rfl,SqL.of (k6' _ _ upd_same l0a),atI_nat hv,a,(mm:Int),rfl,w6,by omega,by omega,fun n7 H7 hn7 k7 w7=>⟨_,_,rfl,rfl,?_⟩⟩
  have d48:1<=(48:Int) / (many ns:Int)/\(many ns:Int)*((48:Int) / (many ns:Int))<=48:=by
   refine⟨?_,Int.mul_ediv_self_le (by omega)⟩
   have:=(Int.le_ediv_iff_mul_le (c:=(many ns:Int)) (a:=1) (b:=48) (by omega)).mpr (by omega)
   exact this
  refine⟨_,rfl,_,rfl,_,_,rfl,rfl,⟨by show 0<(many ns:Int);omega,by show(many ns:Int)<_;omega⟩,_,_,rfl,a,_,rfl,w7,by show 0<(if(48:Int) / (many ns:Int)<12 then(48:Int) / (many ns:Int)else 12);split<;>omega,by show(if(48:Int) / (many ns:Int)<12 then(48:Int) / (many ns:Int)else 12)<_;split<;>omega,fun n8 H8 hn8 k8 w8=>⟨_,_,rfl,rfl,?_⟩⟩
  refine⟨_,rfl,a,16,rfl,w8,by decide,by decide,fun n9 H9 hn9 k9 w9=>⟨rfl,.inr ⟨_,rfl,_,_,rfl,rfl,.inr (by split<;>exact⟨by decide,by decide⟩),?_⟩⟩⟩
  obtain⟨rr,er,rr1,rr2⟩:∃rr:Nat,V.int ((1+(n8:Int))*(if(!decide (natV n9=V.int 7))=true then 1 else 0))=natV rr/\rr<=12/\rr*many ns<=120:=by
   have h12:(n8:Int)<12/\(n8:Int)<48 / (many ns:Int):=by
    have:(n8:Int)<(if(48:Int) / (many ns:Int)<12 then(48:Int) / (many ns:Int)else 12):=hn8
    split at this<;>omega
   by_cases z:natV n9=V.int 7
   ·refine⟨0,by rw [decide_eq_true z];simp,by omega,by omega⟩
   ·refine⟨1+n8,by rw [decide_eq_false z];simp,by omega,?_⟩
    have h1:(many ns:Int)*(1+(n8:Int))<=(many ns:Int)*(48 / (many ns:Int)):=Int.mul_le_mul_of_nonneg_left (by omega) (by omega)
    have h2:(((1+n8)*many ns:Nat):Int)<=48:=by
     rw [Int.natCast_mul,Int.mul_comm]
     have:((1+n8:Nat):Int)=1+(n8:Int):=by omega
     rw [this]
     omega
    omega
  have k59:Kp a H5 H9:=k6.trans (k7.trans (k8.trans k9))
  have k39:Kp a H3 H9:=k4.trans (k5.trans k59)
  have:=rR (fun _ H'=>Q .non H') Q a sa D ns xs rs tv t (2+(n7:Int)) rr v4 H9 ⟨w9,k39 _ _ e2 nsaa,nsaa,k39 _ _ hD2 hDa,hDa,KG.RimsAt.mono (fun b ys e=>k39.tup w2 e) ri,rl,good,tu5.mono fun b zs e=>k59.tup w5 e,h5,okT,lnT,by omega,rr1,rr2⟩ fun wd sa ra fq ns xs rs tv t m r ls H' k' J'=>q wd sa ra fq ns xs rs tv t m r ls H' (k2'.trans (k39.trans k')) J'
  rw [<-er]at this
  exact this
end
end KJ
namespace KJ
open PySem PyProof.Rows L2 G3
open KG (pe_gint GridAt RimsAt)
theorem JW.kp {H H':Hp} {wd sa ra fq:Addr} {ns:List Int} {xs:List V} {rs:List Rim} {tv:V} {t:Tm} {m:Int} {r:Nat} {ls:List (List Int)} (s:Same H H') (h:JW H wd sa ra fq ns xs rs tv t m r ls):JW H' wd sa ra fq ns xs rs tv t m r ls:=
 ⟨let⟨kvs,e,k⟩:=h.dk;⟨kvs,s _ _ e,k⟩,s _ _ h.sz,s _ _ h.ra_,KG.RimsAt.mono (fun b ys e=>s _ _ e) h.rims,h.len,h.good,h.tu.same s,h.hd,h.ok,h.ln,h.m2,h.r12,let⟨ys,e,k⟩:=h.fi;⟨ys,s _ _ e,k.same s⟩,h.rw_,h.dp,h.few⟩
structure Mkk (P:Program) (w:World) (K:W.Frag) (mg:Str->Option Value) (base:Heap) (k:Nat) (C:Addr) (x:Str) (ps:List Str) (sp:Sp):Prop where
 ex:∃f fd,FnOk P w K mg base CX0 k f fd ps sp/\Mk K C f/\mg x=some (.ref C)/\Binds K fd ps []
theorem pe_mkk {X:Cx} {k:Nat} {C:Addr} {x:Str} {ps:List Str} {sp:Sp} {E:XK} {e:Expr} {es:List Expr} {t:TA} {p pos:Pos} (R:Mkk X.prog X.w X.K X.mg X.base k C x ps sp) (hr:Room (k+1) X.A) (hg:Gl X x) (hx:Passes CX0 X E) (ha:PA X (e::es) t)
  (hdb:(x==("__debug__":Str))=false:=by decide) (he:starEach (e::es) X.env=(false,eval e X.env)::starEach es X.env:=by rfl) (hpl:(backTo pos (starEach es X.env)).any (·.1)=false:=by rfl):PE X (.Call (.Name x p) (e::es) [] pos) (tMake C sp [] E t):=by
 obtain⟨f,fd,F,M,hm,hb⟩:=R.ex
 exact pe_make M F hr hg hm hb .nil hx ha hdb he hpl
theorem dget {H:Hp} {a:Addr} {kvs:List (Key×V)} {k:Str} {v:V} (e:H a=some (.dK kvs)) (l:valV kvs (.inr k:Key)=some v):DGet H a (.str k) (some v):=by
 have:=DGet.k (k:= .inr k) e
 rw [l]at this
 exact this
theorem make_same {H H':Hp} {x dx:Addr} {o:HO} (nx:H x=none) (nd:H dx=none) (k:Kp x (upd (upd H dx (.own x)) x o) H'):Same H H':=fun b u e=>by
 have n1:=ne_of_none e nx
 refine k b u ?_ n1
 rw [upd_ne n1,upd_ne (ne_of_none e nd)]
 exact e
def spJobOf (CG CJ:Addr):Sp:=fun vs H Q _=>∃(wd sa ra fq:Addr) (ns:List Int) (xs:List V) (rs:List Rim) (tv:V) (t:Tm) (m:Int) (r:Nat) (ls:List (List Int)),vs=[.ref wd]/\JW H wd sa ra fq ns xs rs tv t m r ls/\
 ∀(j tk g:Addr) (ps:List TkR) (xs':List V) (H':Hp),Same H H'->JobAt CG CJ H' j tk g ps ns xs' rs r->IsTks t (ps.map (·.1))->Q (.ref j) H'
section
variable {P:Program} {w:World} {K:W.Frag} {mg:Str->Option Value} {base:Heap} {N:Cn} {CG CJ:Addr}
abbrev NJobOf:List Str:=["_law_world","_law_first","_law_grid"]
theorem scJobOf:FnScope ["_law_world","_law_first","_law_grid"] ["_law_world"] (defScope sJobOf):=⟨rfl,rfl,rfl,by decide+kernel,rfl,by decide+kernel,by decide+kernel⟩
theorem ok_jobOf {f:Addr} {fd:FuncData} (F:Fun K "_law_job_of" "_law_job_of" sJobOf f fd) (R_grid:Mkk P w K mg base 5 CG "Grid" ["self","sizes","rims"] (KG.spInit CG)) (R_job:Mkk P w K mg base 10 CJ "Job" ["self","grid","term","modulus","rounds","first"] (spJInit N CG CJ)) (c_made:Cal P w K mg base CX0 6 "_law_made" ["_law_told_here"] (spMade N 4)) (T:Txt K mg):FnOk P w K mg base CX0 12 f fd ["_law_world"] (spJobOf CG CJ):=by
 refine F.ok scJobOf (fun vs H Q E h=>?_) (fun cdv A outer s H vs Q E hr h=>?_)
 ·obtain⟨wd,sa,ra,fq,ns,xs,rs,tv,t,m,r,ls,rfl,_⟩:=h
  rfl
 ·obtain⟨wd,sa,ra,fq,ns,xs,rs,tv,t,m,r,ls,rfl,W,q⟩:=h
  have hu:=hu_of hr
  refine⟨_,(pss_cons (ps_cp (i:=1) scJobOf.nd rfl (Or.inl rfl) (own:=["_law_row"]) (cap:=[]) (g:=gName 0) (defScope sJobOf) NJobOf rfl rfl (fun x h=>cell_has h) (by decide+kernel) rfl (pi_list (pe_dget (hu_of hr) (pv 0) pe_str (fun _ _=>rfl))) (fun cl C s2 H2 fp=>(pg_name (i:=0) (show(["_law_row"]:List Str).Nodup by decide+kernel) rfl (Or.inl rfl) (Or.inr rfl))) (fun cl C s2 H2 fp=>(pe_callTy (r:=rListK K) (call_listK rfl) rfl T.list boot_list (pa_cons (pv 0) pa_nil)))) (pss_cons (ps_set (i:=2) scJobOf.nd rfl (Or.inl rfl) (pe_mkk R_grid (hr.mono (by decide)) rfl pass0 (pa_cons (pe_callTy call_list_of rfl T.list boot_list (pa_cons (pe_dget (hu_of hr) (pv 0) pe_str (fun _ _=>rfl)) pa_nil)) (pa_cons (pe_callTy call_list_of rfl T.list boot_list (pa_cons (pe_dget (hu_of hr) (pv 0) pe_str (fun _ _=>rfl)) pa_nil)) pa_nil)))) (pss_one (ps_ret (pe_mkk R_job (hr.mono (by decide)) rfl pass0 (pa_cons (pv 2) (pa_cons (pe_c c_made (hr.mono (by decide)) rfl pass0 (pa_cons (pe_dget (hu_of hr) (pv 0) pe_str (fun _ _=>rfl)) pa_nil)) (pa_cons (pe_dget (hu_of hr) (pv 0) pe_str (fun _ _=>rfl)) (pa_cons (pe_dget (hu_of hr) (pv 0) pe_str (fun _ _=>rfl)) (pa_cons (pv 1) pa_nil)))))))))),?_⟩
  obtain⟨kvs,hwd,v1,v2,v3,v4,v5,v6⟩:=W.dk
  obtain⟨ys,hys,rws⟩:=W.fi
  refine⟨_,rfl,wd,_,rfl,dget hwd v6,fq,rfl,⟨_,SqL.of hys⟩,fun D hD=>?_⟩
  have yl:ys.length=ls.length:=Paired.length rws
  have few:=W.few
  refine comp_list (K:=K) (a:=fq) (xs:=ys) (fun i acc σ H1=>(∃v0,σ=[v0])/\Same H H1/\H1 D=some (.lst acc)/\Paired (fun v l=>∃b,v= .ref b/\b≠D/\H1 b=some (.lst (l.map V.int))) acc (ls.take i)) ⟨⟨_,rfl⟩,sameNew hD,upd_same,.nil⟩ (fun i acc σ H1 _ ⟨_,s1,_⟩=>SqL.of (s1 _ _ hys)) ?_ ?_
  ·rintro i x acc σ H1 hi hx ⟨⟨v0,rfl⟩,s1,hD1,rN⟩
   obtain⟨l,hl,b,rfl,hb⟩:=Paired.get rws hx
   refine⟨_,rfl,b,_,rfl,.inl (SqL.of (s1 _ _ hb)),fun l2 nl2=>?_⟩
   have nD:D≠l2:=ne_of_none hD1 nl2
   have al:acc.length<=3:=by rw [Paired.length rN,List.length_take];omega
   have up:∀c o,H1 c=some o->c≠D->∀z,upd (upd H1 l2 (.lst (l.map V.int))) D z c=some o:=fun c o e n z=>by
    rw [upd_ne n,upd_ne (ne_of_none e nl2)]
    exact e
   refine cturn (by rw [upd_ne nD];exact hD1) (small (by omega)) hi ⟨⟨_,rfl⟩,sameUpd hD (s1.trans (sameNew nl2)),upd_same,?_⟩
   rw [List.take_succ,hl]
   exact Paired.snoc' (Paired.mapP rN fun _ _ ⟨c,e,n,h⟩=>⟨c,e,n,up _ _ h n _⟩) ⟨l2,rfl,Ne.symm nD,by rw [upd_ne (Ne.symm nD),upd_same]⟩
  rintro acc σ H1 ⟨_,s1,hD1,rN⟩
  rw [yl,List.take_length]at rN
  have W1:=W.kp s1
  obtain⟨kvs',hwd1,_⟩:=W1.dk
  have hwd1:=s1 _ _ hwd
  refine⟨_,rfl,wd,_,rfl,dget hwd1 v1,sa,_,rfl,.inl (SqL.of W1.sz),fun l1 n1=>?_⟩
  generalize e:upd H1 l1 _=H2
  obtain⟨s2,e2⟩:=new_of n1 e
  have W2:=W1.kp s2
  have hwd2:=s2 _ _ hwd1
  refine⟨_,rfl,wd,_,rfl,dget hwd2 v2,ra,_,rfl,.inl (SqL.of W2.ra_),fun l2 n2=>?_⟩
  generalize e:upd H2 l2 _=H3
  obtain⟨s3,e3⟩:=new_of n2 e
  refine fun g dg ng ndg neg=>⟨g,dg,l1,l2,ns,xs,rs,rfl,upd_same,?_,?_,?_,W.len,W.good,fun H4 k4' G4=>⟨rfl,?_⟩⟩
  ·rw [upd_ne (ne_of_none (s3 _ _ e2) ng),upd_ne (ne_of_none (s3 _ _ e2) ndg)];exact s3 _ _ e2
  ·rw [upd_ne (ne_of_none e3 ng),upd_ne (ne_of_none e3 ndg)];exact e3
  ·exact KG.RimsAt.mono (fun b zs eb=>by rw [upd_ne (ne_of_none eb ng),upd_ne (ne_of_none eb ndg)];exact eb) (W2.kp s3).rims
  have s4:Same H3 H4:=make_same ng ndg k4'
  have s14:=s2.trans (s3.trans s4)
  have W4:=W1.kp s14
  have hwd4:=s14 _ _ hwd1
  refine⟨_,rfl,_,rfl,wd,_,rfl,dget hwd4 v3,tv,t,rfl,W4.tu,W.hd,fun pv H5 s5 tr=>?_⟩
  obtain⟨p,dp,fs,rfl,hp,hf⟩:=tr
  have hwd5:=s5 _ _ hwd4
  refine⟨_,rfl,wd,_,rfl,dget hwd5 v4,_,rfl,wd,_,rfl,dget hwd5 v5,_,rfl,fun j dj nj ndj nej=>?_⟩
  have W5:=W4.kp s5
  have G5:=GridAt.same s5 G4
  have sN:Same H5 (upd (upd H5 dj (.own j)) j (.ins CJ dj [])):=sameUpd nj (sameUpd ndj (Same.refl H5))
  refine⟨j,dj,g,p,D,t,ns,xs,rs,m,r,ls,rfl,upd_same,⟨GridAt.same sN G5,⟨dp,fs,sN _ _ hp,hf.same sN⟩,W.hd,W.ok,W.ln,W.m2,W.r12,⟨acc,sN _ _ (s5 _ _ (s14 _ _ hD1)),Paired.mapP rN fun _ _ ⟨b,e,_,h⟩=>⟨b,e,sN _ _ (s5 _ _ (s14 _ _ h))⟩⟩,W.rw_,W.dp,W.few⟩,fun tk f2 ps H6 kj ej etk pk tks=>⟨rfl,?_⟩⟩
  have s6:Same H5 H6:=make_same nj ndj kj
  refine q j tk g ps xs H6 (s1.trans (s14.trans (s5.trans s6))) ⟨⟨dj,p,m,f2,ej⟩,etk,pk,GridAt.same s6 G5,?_,fun x hx=>?_,W.r12⟩ tks
  ·obtain⟨_,_,ks,kl,km⟩:=W.ln
   have:=(nodup_srt tks.1).length_le_of_subset (l₂:=ks) fun x hx=>km x ((tks.2 x).mp hx)
   rw [List.length_map]at this
   omega
  ·have hx':=(tks.2 _).mp (List.mem_map.mpr ⟨x,hx,rfl⟩)
   exact⟨(W.ok.2 _ hx').1,W.ln.2.1 _ hx'⟩
end
end KJ
namespace KJ
open PySem PyProof.Rows L2 G3
open KG (pe_gint GridAt RimsAt Kn)
abbrev rCatE (K:W.Frag):R2:=fun x y H Q=>rCatT K x y H Q∨∃a b ys,x= .ref a/\y= .ref b/\SqT K H a []/\SqT K H b ys/\Q (.ref b) H
theorem op_catE {X:Cx}:OpR X (binaryOp .Add) (rCatE X.K):=op_catT.or op_catT0
def Tn:Nat->Hp->V->Prop
 |0,H,v=>Kn H v
 |n+1,H,v=>Kn H v/\∀a xs,v= .ref a->H a=some (.tup xs)->∀x∈xs,Tn n H x
theorem Tn.kn {H:Hp} {v:V}:∀{n:Nat},Tn n H v->Kn H v
 |0,h=>h
 |_+1,h=>h.1
theorem Tn.mono {H H':Hp} (k1:∀b xs,H b=some (.tup xs)->H' b=some (.tup xs)) (k2:∀b xs,H b=some (.lst xs)->∃ys,H' b=some (.lst ys)):∀{n:Nat} {v:V},Tn n H v->Tn n H' v:=by
 have kn:∀{v:V},Kn H v->Kn H' v:=fun{v} h=>by
  cases v with
  |ref a=>
   rcases h with ⟨xs,e⟩|⟨xs,e⟩
   ·exact .inl (k2 _ _ e)
   ·exact .inr ⟨_,k1 _ _ e⟩
  |_=>exact h
 intro n
 induction n with
 |zero=>exact fun h=>kn h
 |succ n ih=>
  intro v h
  refine⟨kn h.1,fun a xs e ha x hx=>?_⟩
  subst e
  rcases h.1 with ⟨ys,e⟩|⟨ys,e⟩
  ·obtain⟨zs,e'⟩:=k2 _ _ e
   rw [e']at ha
   cases ha
  ·have:=k1 _ _ e
   rw [this]at ha
   cases ha
   exact ih (h.2 a _ rfl e x hx)
theorem Tn.same {H H':Hp} (s:Same H H') {n:Nat} {v:V} (h:Tn n H v):Tn n H' v:=h.mono (fun _ _ e=>s _ _ e) fun _ xs e=>⟨xs,s _ _ e⟩
theorem Tn.flat {H:Hp} {v:V} (f:flatV v=true):∀{n:Nat},Tn n H v
 |0=>by cases v<;>first|trivial|cases f
 |_+1=>⟨Tn.flat f (n:=0),fun a xs e=>by subst e;cases f⟩
theorem Tn.lst {H:Hp} {a:Addr} {xs:List V} (h:H a=some (.lst xs)):∀{n:Nat},Tn n H (.ref a)
 |0=> .inl ⟨xs,h⟩
 |_+1=>⟨.inl ⟨xs,h⟩,fun b ys e hb=>by cases e;rw [h]at hb;cases hb⟩
theorem Tn.tup {H:Hp} {a:Addr} {xs:List V} {n:Nat} (h:H a=some (.tup xs)) (k:∀x∈xs,Tn n H x):Tn (n+1) H (.ref a):=⟨.inr ⟨xs,h⟩,fun b ys e hb=>by cases e;rw [h]at hb;cases hb;exact k⟩
def tK (Pr:L2.St->Hp->Prop) (n:Nat):TE:=fun σ H Q=>Pr σ H/\∀v H',Same H H'->Pr σ H'->Tn n H' v->Q v H'
def aK (Pr:L2.St->Hp->Prop) (n m:Nat):TA:=fun σ H Q=>Pr σ H/\∀vs H',Same H H'->Pr σ H'->vs.length=m->(∀v∈vs,Tn n H' v)->Q vs H'
def tKL (Pr:L2.St->Hp->Prop) (n m:Nat):TE:=fun σ H Q=>Pr σ H/\∀l vs H',Same H H'->Pr σ H'->H l=none->H' l=some (.lst vs)->vs.length=m->(∀v∈vs,Tn n H' v)->Q (.ref l) H'
section
variable {X:Cx} {Pr:L2.St->Hp->Prop}
theorem pq_of {e:Expr} {t:TE} {n:Nat} (h:PE X e t) (k:∀σ H Q,Pr σ H->(∀v H',Same H H'->Tn n H' v->Q v H')->t σ H Q) (mo:∀σ H H',Pr σ H->Same H H'->Pr σ H'):PE X e (tK Pr n):=pe_weak h fun σ H Q ⟨p,q⟩=>k σ H Q p fun v H' s t=>q v H' s (mo _ _ _ p s) t
theorem pq_c {e:Expr} {x:V} {n:Nat} (h:PE X e (tC x)) (f:flatV x=true:=by rfl):PE X e (tK Pr n):=pe_weak h fun σ H Q ⟨p,q⟩=>q x H (Same.refl H) p (Tn.flat f)
theorem pq_neg {n:Nat} {i:Int} {j:Nat} {p pos:Pos}:PE X (.UnaryOp .USub (.Constant (.int i) j p) pos) (tK Pr n):=pe_weak (pe_un un_neg pe_int) fun σ H Q ⟨p,q⟩=>⟨i,rfl,q _ H (Same.refl H) p (Tn.flat rfl)⟩
theorem pq_v {e:Expr} {i n:Nat} (h:PE X e (tVar i)) (k:∀σ H,Pr σ H->∃v,σ[i]? =some (some v)/\Tn n H v):PE X e (tK Pr n):=pe_weak h fun σ H Q ⟨p,q⟩=>by
 obtain⟨v,e,t⟩:=k σ H p
 exact⟨v,e,q v H (Same.refl H) p t⟩
theorem pq_nil {n:Nat}:PA X [] (aK Pr n 0):=pa_weak pa_nil fun σ H Q ⟨p,q⟩=>q [] H (Same.refl H) p rfl fun _ h=>nomatch h
theorem pq_cons {e:Expr} {es:List Expr} {n m:Nat} (h:PE X e (tK Pr n)) (t:PA X es (aK Pr n m)) (hs:starEach (e::es) X.env=(false,eval e X.env)::starEach es X.env:=by rfl):PA X (e::es) (aK Pr n (m+1)):=pa_weak (pa_cons h t hs) fun σ H Q ⟨p,q⟩=>
 ⟨p,fun v H1 s1 p1 t1=>⟨p1,fun vs H2 s2 p2 l2 t2=>q (v::vs) H2 (s1.trans s2) p2 (by rw [List.length_cons,l2]) fun x hx=>by
  rcases List.mem_cons.mp hx with rfl|hx
  ·exact t1.same s2
  ·exact t2 x hx⟩⟩
theorem pq_tup {es : List Expr} {n m : Nat} {x1 pos} (t : PA X es (aK Pr n m)) (mo : ∀ σ H H', Pr σ H → Same H H' → Pr σ H') (hm : m ≤ 1000 := by decide) : PE X (.Tuple es x1 pos) (tK Pr (n + 1)) := pe_weak (pe_tup t) fun σ H Q ⟨p, q⟩ =>
  ⟨p, fun vs H1 s1 p1 l1 t1 => ⟨by have : (1000 : Nat) ≤ sizeLine := by decide
                                   omega, fun a ha => by
    have s2 : Same H1 (upd H1 a (.tup vs)) := sameNew ha
    exact q _ _ (s1.trans s2) (mo _ _ _ p1 s2) (Tn.tup upd_same fun x hx => (t1 x hx).same s2)⟩⟩
theorem pq_lst {es : List Expr} {n k m : Nat} {pos} (t : PA X es (aK Pr k m)) (mo : ∀ σ H H', Pr σ H → Same H H' → Pr σ H') (hm : m ≤ 1000 := by decide) : PE X (.List es pos) (tK Pr n) := pe_weak (pe_lst t) fun σ H Q ⟨p, q⟩ =>
  ⟨p, fun vs H1 s1 p1 l1 t1 => ⟨by have : (1000 : Nat) ≤ sizeLine := by decide
                                   omega, fun a ha => by
    have s2 : Same H1 (upd H1 a (.lst vs)) := sameNew ha
    exact q _ _ (s1.trans s2) (mo _ _ _ p1 s2) (Tn.lst upd_same)⟩⟩
theorem pq_L {es : List Expr} {n m : Nat} {pos} (t : PA X es (aK Pr n m)) (mo : ∀ σ H H', Pr σ H → Same H H' → Pr σ H') (hm : m ≤ 1000 := by decide) : PE X (.List es pos) (tKL Pr n m) := pe_weak (pe_lst t) fun σ H Q ⟨p, q⟩ =>
  ⟨p, fun vs H1 s1 p1 l1 t1 => ⟨by have : (1000 : Nat) ≤ sizeLine := by decide
                                   omega, fun a ha => by
    have s2 : Same H1 (upd H1 a (.lst vs)) := sameNew ha
    exact q a vs _ (s1.trans s2) (mo _ _ _ p1 s2) (s1.free ha) upd_same l1 fun x hx => (t1 x hx).same s2⟩⟩
end
end KJ
namespace KJ
open PySem PyProof.Rows L2 G3
open KG (pe_gint GridAt RimsAt PtsT)
theorem wl_mem_len {ps:List (List Int)} {n:Int} {k:Nat} (h:∀p∈ps,p.length=k):∀p∈wl ps n,p.length=k+1:=fun p hp=>by
 unfold wl at hp
 obtain⟨q,hq,hp⟩:=List.mem_flatMap.mp hp
 obtain⟨j,_,rfl⟩:=List.mem_map.mp hp
 rw [List.length_append,h q hq]
 rfl
theorem foldl_mem_len:∀(ns:List Int) (ps:List (List Int)) (k:Nat),(∀p∈ps,p.length=k)->∀p∈ns.foldl wl ps,p.length=k+ns.length
 | [],ps,k,h,p,hp=>h p hp
 |n::ns,ps,k,h,p,hp=>by
  have:=foldl_mem_len ns (wl ps n) (k+1) (wl_mem_len h) p hp
  rw [List.length_cons]
  omega
theorem cat_one {K:W.Frag} {H:Hp} {Q:VK} {pa t:Addr} {ks:List Int} {k:Int} (h1:H pa=some (.tup (ks.map V.int))) (h2:H t=some (.tup [.int k])) (hl:ks.length<=100) (q:∀u H',Same H H'->(u=t∨H u=none)->H' u=some (.tup ((ks++[k]).map V.int))->Q (.ref u) H'):
  rCatE K (.ref pa) (.ref t) H Q:=by
 by_cases h0:ks=[]
 ·subst h0
  exact .inr ⟨pa,t,_,rfl,rfl,SqT.of h1,SqT.of h2,q t H (Same.refl H) (.inl rfl) h2⟩
 ·refine .inl ⟨pa,t,_,_,rfl,rfl,SqT.of h1,SqT.of h2,by simpa using h0,?_,(fun z=>by cases z),fun _ u hu=>q u _ (sameNew hu) (.inr hu) ?_⟩
  ·rw [List.length_map,sizeLine_eq];show ks.length+1<=_;omega
  ·rw [upd_same,List.map_append];rfl
theorem PtsT.mono {H H':Hp} (k:∀b xs,H b=some (.tup xs)->H' b=some (.tup xs)) {xs:List V} {ls:List (List Int)} (h:PtsT H xs ls):PtsT H' xs ls:=Paired.mapP h fun _ _ ⟨a,e,q⟩=>⟨a,e,k _ _ q⟩
theorem wl_take {ps:List (List Int)} {k:Nat} {p:List Int} {n:Int} (h:ps[k]? =some p):wl (ps.take (k+1)) n=wl (ps.take k) n++(List.range n.toNat).map fun j=>p++[((j:Nat):Int)]:=by
 rw [List.take_succ,h]
 exact wl_append _ _ _
theorem pl_take {ns:List Int} {i:Nat} {n:Int} (h:ns[i]? =some n):places (ns.take (i+1))=wl (places (ns.take i)) n:=by
 unfold places
 rw [KG.take_snoc h,List.foldl_append]
 rfl
theorem pl_take_len {ns:List Int} (g:GoodSizes ns) (i:Nat):(places (ns.take i)).length<=40:=by
 have h:=fold_len (ns.take i) [[]] 1 (fun n hn=>g.ok n (List.mem_of_mem_take hn)) (by decide) rfl
 have h2:=(prod_take_le g i).2
 unfold places
 unfold prodL at h2
 omega
theorem mem_pl_len {ns:List Int}:∀p∈places ns,p.length=ns.length:=fun p hp=>by
 have:=foldl_mem_len ns [[]] 0 (fun q hq=>by rw [List.mem_singleton.mp hq];rfl) p hp
 omega
def spPlacesL:Sp:=fun vs H Q _=>∃(sa:Addr) (ns:List Int),vs=[.ref sa]/\H sa=some (.lst (ns.map V.int))/\GoodSizes ns/\∀(l:Addr) (vs:List V) (H':Hp),Same H H'->H l=none->H' l=some (.lst vs)->PtsT H' vs (places ns)->Q (.ref l) H'
section
variable {P:Program} {w:World} {K:W.Frag} {mg:Str->Option Value} {base:Heap} {N:Cn} {CG CJ:Addr}
abbrev NPlacesL:List Str:=["_law_sizes_here","_law_found","_law_size","_law_longer","_law_place"]
theorem scPlacesL:FnScope ["_law_sizes_here","_law_found","_law_size","_law_longer","_law_place"] ["_law_sizes_here"] (defScope sPlacesL):=⟨rfl,rfl,rfl,by decide+kernel,rfl,by decide+kernel,by decide+kernel⟩
theorem ok_placesL {f:Addr} {fd:FuncData} (F:Fun K "_law_places" "_law_places" sPlacesL f fd) (T:Txt K mg):FnOk P w K mg base CX0 1 f fd ["_law_sizes_here"] spPlacesL:=by
 refine F.ok scPlacesL (fun vs H Q E h=>?_) (fun cdv A outer s H vs Q E hr h=>?_)
 ·obtain⟨sa,ns,rfl,_⟩:=h
  rfl
 ·obtain⟨sa,ns,rfl,hsa,good,q⟩:=h
  refine⟨_,(pss_cons (ps_set (i:=1) scPlacesL.nd rfl (Or.inl rfl) (pe_lst (pa_cons (pe_tup pa_nil) pa_nil))) (pss_cons (ps_for PassesOwn.never rfl (pi_list (pv 0)) (pg_name (i:=2) scPlacesL.nd rfl (Or.inl rfl)) (pss_cons (ps_set (i:=3) scPlacesL.nd rfl (Or.inl rfl) (pe_lst pa_nil)) (pss_cons (ps_for PassesOwn.never rfl (pi_list (pv 1)) (pg_name (i:=4) scPlacesL.nd rfl (Or.inr rfl)) (pss_one (ps_set (i:=3) scPlacesL.nd rfl (Or.inl rfl) (pe_op op_cat (pv 3) (pe_cp (own:=["_law_number_here"]) (cap:=[("_law_place",4)]) (g:=gName 0) (defScope sPlacesL) NPlacesL rfl rfl (fun x h=>cell_has h) (by decide+kernel) rfl (pi_range1 rfl T.range (pa_cons (pv 2) pa_nil)) (fun cl C s2 H2 fp=>(pg_name (i:=0) (show(["_law_number_here","_law_place"]:List Str).Nodup by decide+kernel) rfl (Or.inl rfl) (Or.inr rfl))) (fun cl C s2 H2 fp=>(pe_op (r:=rCatE K) op_catE (pv 1) (pe_tup (pa_cons (pv 0) pa_nil))))))))) (pss_one (ps_set (i:=1) scPlacesL.nd rfl (Or.inl rfl) (pv 3)))))) (pss_one (ps_ret (pv 1))))),?_⟩
  refine⟨Nat.zero_le _,fun t0 n0=>⟨by show 1<=sizeLine;decide,fun l0 m0=>?_⟩⟩
  generalize e:upd H t0 _=H1 at m0⊢
  obtain⟨s1,e1⟩:=new_of n0 e
  generalize e:upd H1 l0 _=H2
  obtain⟨s2,e2⟩:=new_of m0 e
  have s12:=s1.trans s2
  refine⟨_,rfl,sa,rfl,⟨_,SqL.of (s12 _ _ hsa)⟩,?_⟩
  refine for_list (K:=K) (a:=sa) (xs:=ns.map V.int) (fun i σ H3=>(∃fo v2 v3 v4 ys,σ=[some (.ref sa),some (.ref fo),v2,v3,v4]/\H fo=none/\H3 fo=some (.lst ys)/\PtsT H3 ys (places (ns.take i)))/\Same H H3) ⟨⟨l0,_,_,_,_,rfl,s1.free m0,e2,.cons ⟨t0,rfl,s2 _ _ e1⟩ .nil⟩,s12⟩ (fun i σ H3 _ ⟨_,s3⟩=>SqL.of (s3 _ _ hsa)) ?_ ?_
  ·rintro i x σ H3 hx ⟨⟨fo,v2,v3,v4,ys,rfl,nfo,efo,pt⟩,s3⟩
   obtain⟨n,rfl,hn⟩:=KG.get_map hx
   have okn:=good.ok n (List.mem_of_getElem? hn)
   have o1:=okn.1
   have o2:=okn.2
   have pl40:=pl_take_len good (i+1)
   have yl:ys.length=(places (ns.take i)).length:=Paired.length pt
   rw [pl_take hn,wl_len]at pl40
   refine⟨by show 0<=sizeLine;decide,fun lo nlo=>?_⟩
   generalize e:upd H3 lo _=H4
   obtain⟨s4,e4⟩:=new_of nlo e
   refine⟨_,rfl,fo,rfl,⟨_,SqL.of (s4 _ _ efo)⟩,?_⟩
   refine for_list (K:=K) (a:=fo) (xs:=ys) (fun k σ H5=>(∃lg v4 zs,σ=[some (.ref sa),some (.ref fo),some (.int n),some (.ref lg),v4]/\H3 lg=none/\H5 lg=some (.lst zs)/\PtsT H5 zs (wl ((places (ns.take i)).take k) n))/\Same H3 H5) ⟨⟨lo,_,_,rfl,nlo,e4,.nil⟩,s4⟩ (fun k σ H5 _ ⟨_,s5⟩=>SqL.of (s5 _ _ efo)) ?_ ?_
   ·rintro k v σ H5 hv ⟨⟨lg,v4,zs,rfl,nlg,elg,pz⟩,s5⟩
    obtain⟨p,hp,pa,rfl,hpa⟩:=Paired.get pt hv
    have hk:k<ys.length:=(List.getElem?_eq_some_iff.mp hv).1
    have pl3:p.length<=3:=by
     have:=mem_pl_len p (List.mem_of_getElem? hp)
     have:=good.few
     rw [List.length_take]at*
     omega
    have zl:zs.length=k*n.toNat:=by rw [Paired.length pz,wl_len,List.length_take];congr 1;omega
    have zb:zs.length+n.toNat<=40:=by
     have:(k+1)*n.toNat<=(places (ns.take i)).length*n.toNat:=Nat.mul_le_mul_right _ (by omega)
     rw [Nat.succ_mul]at this
     omega
    refine⟨_,rfl,_,rfl,n,rfl,by omega,by omega,fun D hD=>?_⟩
    have hpa5:=s5 _ _ hpa
    refine comp_range (fun j acc σ H6=>(∃v0,σ=[v0,some (.ref pa)])/\Same H5 H6/\H6 D=some (.lst acc)/\PtsT H6 acc ((List.range j).map fun j=>p++[((j:Nat):Int)])) ⟨⟨_,rfl⟩,sameNew hD,upd_same,.nil⟩ ?_ ?_
    ·rintro j acc σ H6 hj ⟨⟨v0,rfl⟩,s6,hD6,pa6⟩
     refine⟨_,rfl,_,rfl,by show 1<=sizeLine;decide,fun t1 m1=>?_⟩
     generalize e:upd H6 t1 _=H7
     obtain⟨s7,e7⟩:=new_of m1 e
     refine cat_one (k:=(0:Int)+(j:Int)) (s7 _ _ (s6 _ _ hpa5)) e7 (by omega) fun u H8 s8 _ e8=>?_
     have hD8:=s8 _ _ (s7 _ _ hD6)
     have al:acc.length=j:=by rw [Paired.length pa6,List.length_map,List.length_range]
     have up:∀b xs,H8 b=some (.tup xs)->upd H8 D (.lst (acc++[V.ref u])) b=some (.tup xs):=fun b xs e=>by
      rw [upd_ne (fun z=>by rw [z,hD8]at e;cases e)]
      exact e
     refine cturn hD8 (small (by omega)) hj ⟨⟨_,rfl⟩,sameUpd hD (s6.trans (s7.trans s8)),upd_same,?_⟩
     rw [List.range_succ,List.map_append]
     exact Paired.snoc' (PtsT.mono (fun b xs e=>up b xs (s8 _ _ (s7 _ _ e))) pa6) ⟨u,rfl,up _ _ (by rw [e8];simp)⟩
    ·rintro acc σ H6 ⟨_,s6,hD6,pa6⟩
     have al:acc.length=n.toNat:=by rw [Paired.length pa6,List.length_map,List.length_range]
     refine⟨lg,D,zs,acc,rfl,rfl,s6 _ _ elg,hD6,by rw [sizeLine_eq];omega,fun l2 m2=>?_⟩
     generalize e:upd H6 l2 _=H7
     obtain⟨s7,e7⟩:=new_of m2 e
     have s67:=s6.trans s7
     refine⟨⟨l2,_,_,rfl,s5.free (s6.free m2),e7,?_⟩,s5.trans s67⟩
     rw [wl_take hp]
     exact Paired.app (PtsT.mono (fun b xs e=>s67 _ _ e) pz) (PtsT.mono (fun b xs e=>s7 _ _ e) pa6)
   ·rintro σ H5 ⟨⟨lg,v4,zs,rfl,nlg,elg,pz⟩,s5⟩
    refine⟨_,rfl,⟨lg,_,_,_,zs,rfl,s3.free nlg,elg,?_⟩,s3.trans s5⟩
    rw [pl_take hn]
    rw [yl,List.take_length]at pz
    exact pz
  ·rintro σ H3 ⟨⟨fo,v2,v3,v4,ys,rfl,nfo,efo,pt⟩,s3⟩
   rw [List.length_map,List.take_length]at pt
   exact⟨_,rfl,q fo ys H3 s3 nfo efo pt⟩
end
end KJ
namespace KJ
open PySem PyProof.Rows L2 G3
open KG (pe_gint GridAt RimsAt PtsT Kn inB Res)
theorem Res.ex {H:Hp} {v:V} {ns:List Int} (k:Kn H v):∃c,Res H v ns c:=by
 by_cases h:∃a xs,v= .ref a/\H a=some (.tup xs)
 ·obtain⟨a,xs,e,h⟩:=h
  exact⟨_,.inl ⟨a,xs,e,h,rfl⟩⟩
 ·exact⟨false,.inr ⟨fun a xs e z=>h ⟨a,xs,e,z⟩,rfl⟩⟩
def ResS (H:Hp) (v:V) (ns:List Int) (r:Int) (b:Bool):Prop:=(∃a x y c,v= .ref a/\H a=some (.tup [x,y])/\Res H y ns c/\b=(inB x 1 r && c))∨((∀a x y,v= .ref a->H a≠some (.tup [x,y]))/\b=false)
theorem ResS.uniq {H:Hp} {v:V} {ns:List Int} {r:Int} {b c:Bool} (h:ResS H v ns r b) (h':ResS H v ns r c):b=c:=by
 rcases h with ⟨a,x,y,d,rfl,e,rs,rfl⟩|⟨n,rfl⟩
 ·rcases h' with ⟨a',x',y',d',q,e',rs',rfl⟩|⟨n,_⟩
  ·cases q
   rw [e]at e'
   cases e'
   rw [KG.Res.uniq rs rs']
  ·exact absurd e (n a x y rfl)
 ·rcases h' with ⟨a',x',y',d',q,e',_⟩|⟨_,rfl⟩
  ·exact absurd e' (n a' x' y' q)
  ·rfl
theorem ResS.same {H H':Hp} {v:V} {ns:List Int} {r:Int} {b:Bool} (k:Tn 2 H v) (s:Same H H') (h:ResS H' v ns r b):ResS H v ns r b:=by
 rcases h with ⟨a,x,y,c,rfl,e,rs,rfl⟩|⟨n,rfl⟩
 ·rcases k.1 with ⟨ys,q⟩|⟨ys,q⟩
  ·rw [s _ _ q]at e
   cases e
  ·have e':=s _ _ q
   rw [e']at e
   cases e
   exact .inl ⟨a,x,y,c,rfl,q,KG.Res.same (k.2 a _ rfl q y (by simp)).kn s rs,rfl⟩
 ·exact .inr ⟨fun a x y q e=>n a x y q (s _ _ e),rfl⟩
theorem Tn.th {H:Hp} {v:V} (h:Tn 1 H v):KG.Th H v:=⟨h.1,h.2⟩
theorem len2 {n:Nat} (h:n≠2):(!decide (V.int (n:Int)=V.int 2))=true:=by
 rw [decide_eq_false fun q=>h (by injection q with q2;omega)]
 rfl
def spIsSpotG (CG CJ:Addr):Sp:=fun vs H Q _=>∃(j tk g:Addr) (ps:List TkR) (ns:List Int) (xs:List V) (rs:List Rim) (r:Nat) (v:V),vs=[.ref j,v]/\JobAt CG CJ H j tk g ps ns xs rs r/\Tn 2 H v/\∀b H',ResS H v ns r b->Same H H'->Q (.bl b) H'
def spIsSpotL:Sp:=fun vs H Q _=>∃(wd sa ra fq:Addr) (ns:List Int) (xs:List V) (rs:List Rim) (tv:V) (t:Tm) (m:Int) (r:Nat) (ls:List (List Int)) (v:V),vs=[v,.ref wd]/\JW H wd sa ra fq ns xs rs tv t m r ls/\Tn 2 H v/\∀b H',ResS H v ns r b->Same H H'->Q (.bl b) H'
section
variable {P:Program} {w:World} {K:W.Frag} {mg:Str->Option Value} {base:Heap} {N:Cn} {CG CJ:Addr}
theorem ok_isSpotG {f:Addr} {fd:FuncData} (F:Fun K "is_spot" "Job.is_spot" sIsSpot f fd) (c:Cf K CJ FJ) (c_within:Cal P w K mg base CX0 2 "is_within" PW3 KG.spWithinG) (D_has:Dis P w K mg base CX0 3 (·=CG) "has_place" ["self","thing"] (fun _=>KG.spHas CG)) (T:Txt K mg):FnOk P w K mg base CX0 4 f fd ["self","thing"] (spIsSpotG CG CJ):=by
 refine F.ok scIsSpot (fun vs H Q E h=>?_) (fun cdv A outer s H vs Q E hr h=>?_)
 ·obtain⟨j,tk,g,ps,ns,xs,rs,r,v,rfl,_⟩:=h
  rfl
 ·obtain⟨j,tk,g,ps,ns,xs,rs,r,v,rfl,J,th,q⟩:=h
  obtain⟨dx,p,m,f2,hj⟩:=J.ob
  obtain⟨dg,sa,ra,hg,_⟩:=J.ga.ob
  obtain⟨t,ty,_,_,k3⟩:=KG.tyInt (K:=K) th.kn
  refine⟨_,(pss_cons (ps_if (PW.pt (pw_or (pt_not (pt_val (pe_callB call_isinst rfl T.isinstance boot_isinstance (pa_cons (pv 1) (pa_cons (pe_ty rfl T.tuple boot_tuple) pa_nil))))) (pw_or1 (pt_cmpR op_ne (pe_callB call_len_seq (by rfl) T.len PySem.boot_len (pa_cons (pv 1) pa_nil)) pe_int (nomark _))))) (pss_one (ps_ret pe_bl)) pss_nil) (pss_one (ps_ret (pe_and (pe_c c_within (hr.mono (by decide)) rfl pass0 (pa_cons (pe_ix ix_tup (pv 1) pe_int (fun _ _=>rfl)) (pa_cons pe_int (pa_cons (pe_fld (pv 0) rfl) pa_nil)))) (pe_one (pe_methD (pe_fld (pv 0) rfl) D_has (hr.mono (by decide)) pass0 (pa_cons (pe_ix ix_tup (pv 1) pe_int (fun _ _=>rfl)) pa_nil))))))),?_⟩
  refine⟨_,rfl,_,_,_,_,rfl,ty,k3,_,rfl,?_⟩
  have no:(∀a x y,v= .ref a->H a≠some (.tup [x,y]))->Q (.bl false) H:=fun hn=>q false H (.inr ⟨hn,rfl⟩) (Same.refl H)
  have hkn:=th.kn
  cases v with
  |non=>exact iteT (no fun a x y q=>by cases q)
  |bl b=>exact iteT (no fun a x y q=>by cases q)
  |int n=>exact iteT (no fun a x y q=>by cases q)
  |str z=>exact iteT (no fun a x y q=>by cases q)
  |byt _=>exact hkn.elim
  |flt _=>exact hkn.elim
  |ty _=>exact hkn.elim
  |ref a=>
   rcases hkn with ⟨ys,e⟩|⟨ys,e⟩
   ·refine iteTe (by unfold KG.tTu;simp only [e];rfl) (no fun a' x y q e'=>?_)
    cases q
    rw [e]at e'
    cases e'
   ·refine iteFe (by unfold KG.tTu;simp only [e];rfl) ?_
    refine⟨_,rfl,a,_,rfl,.inr (SqT.of e),rfl,_,rfl,?_⟩
    by_cases h2:∃x y,ys=[x,y]
    ·obtain⟨x,y,rfl⟩:=h2
     have kx:=th.2 a _ rfl e x (by simp)
     have ky:=th.2 a _ rfl e y (by simp)
     refine iteNS rfl ?_
     refine⟨_,rfl,a,_,_,_,rfl,rfl,SqT.of e,rfl,_,rfl,j,CJ,dx,_,_,rfl,hj,c.cl,c.na _ (by simp),rfl,x,1,(r:Int),rfl,kx.kn,_,rfl,?_⟩
     cases hb:inB x 1 (r:Int)with
     |false=>
      obtain⟨c0,rc⟩:=Res.ex (ns:=ns) ky.kn
      exact iteF (q false H (.inl ⟨a,x,y,c0,rfl,e,rc,by rw [hb];rfl⟩) (Same.refl H))
     |true=>
      refine iteT ?_
      refine⟨_,rfl,j,CJ,dx,_,_,rfl,hj,c.cl,c.na _ (by simp),rfl,g,CG,dg,_,rfl,hg,rfl,KG.flds_no _ _ (by decide+kernel) (by decide+kernel),_,rfl,a,_,_,_,rfl,rfl,SqT.of e,rfl,g,y,ns,xs,rs,rfl,J.ga,ky.th,fun b H1 rb s1=>?_⟩
      exact q b H1 (.inl ⟨a,x,y,b,rfl,e,rb,by rw [hb];rfl⟩) s1
    ·have hl:ys.length≠2:=fun hl=>by
      match ys,hl with
      | [x,y],_=>exact h2 ⟨x,y,rfl⟩
     refine iteTe (len2 hl) (no fun a' x y q e'=>?_)
     cases q
     rw [e]at e'
     cases e'
     exact hl rfl
theorem scWholeL:FnScope ["_law_thing","_law_low","_law_high"] ["_law_thing","_law_low","_law_high"] (defScope sWholeL):=⟨rfl,rfl,rfl,by decide+kernel,rfl,by decide+kernel,by decide+kernel⟩
theorem ok_wholeL {f:Addr} {fd:FuncData} (F:Fun K "_law_whole" "_law_whole" sWholeL f fd) (T:Txt K mg):FnOk P w K mg base CX0 1 f fd ["_law_thing","_law_low","_law_high"] KG.spWithinG:=by
 refine F.ok scWholeL (fun vs H Q E h=>?_) (fun cdv A outer s H vs Q E hr h=>?_)
 ·obtain⟨x,lo,hi,rfl,_⟩:=h
  rfl
 ·obtain⟨x,lo,hi,rfl,kn,k⟩:=h
  obtain⟨t,ty,k1,k2,_⟩:=KG.tyInt (K:=K) kn
  refine⟨_,(pss_one (ps_ret (pe_and (pe_callB call_isinst rfl T.isinstance boot_isinstance (pa_cons (pv 0) (pa_cons (pe_ty rfl T.int boot_int) pa_nil))) (pe_and (pe_not (pe_callB call_isinst rfl T.isinstance boot_isinstance (pa_cons (pv 0) (pa_cons (pe_ty rfl T.bool boot_bool) pa_nil)))) (pe_one (pe_chain op_le op_le (pv 1) (pv 0) (pv 2))))))),?_⟩
  refine⟨_,rfl,_,_,_,_,rfl,ty,k1,_,rfl,?_⟩
  cases x with
  |non=>exact iteF k
  |str z=>exact iteF k
  |ref a=>exact iteF k
  |byt _=>exact kn.elim
  |flt _=>exact kn.elim
  |ty _=>exact kn.elim
  |bl b=>exact iteT ⟨_,rfl,_,_,_,_,rfl,ty,k2,_,rfl,_,rfl,iteF k⟩
  |int n=>
   refine iteT ⟨_,rfl,_,_,_,_,rfl,ty,k2,_,rfl,_,rfl,iteT ?_⟩
   refine⟨_,rfl,_,rfl,_,_,rfl,rfl,_,rfl,?_⟩
   have k':Q (.bl (decide (lo<=n/\n<=hi))) H:=k
   by_cases h1:lo<=n
   ·rw [decide_eq_true h1]
    refine iteT ⟨_,rfl,_,_,rfl,rfl,?_⟩
    have e:decide (n<=hi)=decide (lo<=n/\n<=hi):=by simp [h1]
    show Q (.bl (decide (n<=hi))) H
    rw [e]
    exact k'
   ·rw [decide_eq_false h1]
    refine iteF ?_
    have e:false=decide (lo<=n/\n<=hi):=by simp [h1]
    show Q (.bl false) H
    rw [e]
    exact k'
abbrev NIsSpotL:List Str:=["_law_thing","_law_world"]
theorem scIsSpotL:FnScope ["_law_thing","_law_world"] ["_law_thing","_law_world"] (defScope sIsSpotL):=⟨rfl,rfl,rfl,by decide+kernel,rfl,by decide+kernel,by decide+kernel⟩
theorem ok_isSpotL {f:Addr} {fd:FuncData} (F:Fun K "_law_is_spot" "_law_is_spot" sIsSpotL f fd) (c_wholeL:Cal P w K mg base CX0 1 "_law_whole" ["_law_thing","_law_low","_law_high"] KG.spWithinG) (T:Txt K mg):FnOk P w K mg base CX0 2 f fd ["_law_thing","_law_world"] spIsSpotL:=by
 refine F.ok scIsSpotL (fun vs H Q E h=>?_) (fun cdv A outer s H vs Q E hr h=>?_)
 ·obtain⟨wd,sa,ra,fq,ns,xs,rs,tv,t,m,r,ls,v,rfl,_⟩:=h
  rfl
 ·obtain⟨wd,sa,ra,fq,ns,xs,rs,tv,tm,m,r,ls,v,rfl,W,th,q⟩:=h
  obtain⟨kvs,hwd,v1,v2,v3,v4,v5,v6⟩:=W.dk
  have hsa:=W.sz
  have good:=W.good
  obtain⟨t,ty,_,_,k3⟩:=KG.tyInt (K:=K) th.kn
  refine⟨_,(pss_cons (ps_if (PW.pt (pw_or (pt_not (pt_val (pe_callB call_isinst rfl T.isinstance boot_isinstance (pa_cons (pv 0) (pa_cons (pe_ty rfl T.tuple boot_tuple) pa_nil))))) (pw_or (pt_cmpR op_ne (pe_callB call_len_seq (by rfl) T.len PySem.boot_len (pa_cons (pv 0) pa_nil)) pe_int (nomark _)) (pw_or1 (pt_not (pt_val (pe_c c_wholeL (hr.mono (by decide)) rfl pass0 (pa_cons (pe_ix ix_tup (pv 0) pe_int (fun _ _=>rfl)) (pa_cons pe_int (pa_cons (pe_dget (hu_of hr) (pv 1) pe_str (fun _ _=>rfl)) pa_nil)))))))))) (pss_one (ps_ret pe_bl)) pss_nil) (pss_cons (ps_if (PW.pt (pw_or (pt_not (pt_val (pe_callB call_isinst rfl T.isinstance boot_isinstance (pa_cons (pe_ix ix_tup (pv 0) pe_int (fun _ _=>rfl)) (pa_cons (pe_ty rfl T.tuple boot_tuple) pa_nil))))) (pw_or1 (pt_cmpR op_ne (pe_callB call_len_seq (by rfl) T.len PySem.boot_len (pa_cons (pe_ix ix_tup (pv 0) pe_int (fun _ _=>rfl)) pa_nil)) (pe_callB call_len_seq (by rfl) T.len PySem.boot_len (pa_cons (pe_dget (hu_of hr) (pv 1) pe_str (fun _ _=>rfl)) pa_nil)) (nomark _))))) (pss_one (ps_ret pe_bl)) pss_nil) (pss_one (ps_ret (pe_callB call_all rfl T.all boot_all (pa_cons (pe_cp (own:=["_law_one","_law_size"]) (cap:=[]) (g:=gPair K 0 1) (defScope sIsSpotL) NIsSpotL rfl rfl (fun x h=>cell_has h) (by decide+kernel) rfl (pi_zip rfl T.zip (pa_cons (pe_ix ix_tup (pv 0) pe_int (fun _ _=>rfl)) (pa_cons (pe_dget (hu_of hr) (pv 1) pe_str (fun _ _=>rfl)) pa_nil))) (fun cl C s2 H2 fp=>(pg_tup rfl (pgs_cons (pg_name (i:=0) (show(["_law_one","_law_size"]:List Str).Nodup by decide+kernel) rfl (Or.inl rfl) (Or.inr rfl)) (pgs_cons (pg_name (i:=1) (show(["_law_one","_law_size"]:List Str).Nodup by decide+kernel) rfl (Or.inl rfl) (Or.inr rfl)) pgs_nil)))) (fun cl C s2 H2 fp=>(pe_c c_wholeL (hr.mono (by decide)) rfl pass0 (pa_cons (pv 0) (pa_cons pe_int (pa_cons (pe_op op_sub (pv 1) pe_int) pa_nil)))))) pa_nil)))))),?_⟩
  refine⟨_,rfl,_,_,_,_,rfl,ty,k3,_,rfl,?_⟩
  have no:(∀a x y,v= .ref a->H a≠some (.tup [x,y]))->Q (.bl false) H:=fun hn=>q false H (.inr ⟨hn,rfl⟩) (Same.refl H)
  have hkn:=th.kn
  cases v with
  |non=>exact iteT (no fun a x y q=>by cases q)
  |bl b=>exact iteT (no fun a x y q=>by cases q)
  |int n=>exact iteT (no fun a x y q=>by cases q)
  |str z=>exact iteT (no fun a x y q=>by cases q)
  |byt _=>exact hkn.elim
  |flt _=>exact hkn.elim
  |ty _=>exact hkn.elim
  |ref a=>
   rcases hkn with ⟨ys,e⟩|⟨ys,e⟩
   ·refine iteTe (by unfold KG.tTu;simp only [e];rfl) (no fun a' x y q e'=>?_)
    cases q
    rw [e]at e'
    cases e'
   ·refine iteFe (by unfold KG.tTu;simp only [e];rfl) ?_
    refine⟨_,rfl,a,_,rfl,.inr (SqT.of e),rfl,_,rfl,?_⟩
    by_cases h2:∃x y,ys=[x,y]
    ·obtain⟨x,y,rfl⟩:=h2
     have kx:=th.2 a _ rfl e x (by simp)
     have ky:=th.2 a _ rfl e y (by simp)
     obtain⟨c0,rc⟩:=Res.ex (ns:=ns) ky.kn
     refine iteNS rfl ?_
     refine⟨_,rfl,a,_,_,_,rfl,rfl,SqT.of e,rfl,_,rfl,wd,_,rfl,dget hwd v5,x,1,(r:Int),rfl,kx.kn,_,rfl,?_⟩
     cases hb:inB x 1 (r:Int)with
     |false=>exact iteT (q false H (.inl ⟨a,x,y,c0,rfl,e,rc,by rw [hb];rfl⟩) (Same.refl H))
     |true=>
      refine iteF ?_
      have fin:∀b H1,Res H y ns b->Same H H1->Q (.bl b) H1:=fun b H1 rb s1=>q b H1 (.inl ⟨a,x,y,b,rfl,e,rb,by rw [hb];rfl⟩) s1
      obtain⟨t2,ty2,_,_,k32⟩:=KG.tyInt (K:=K) ky.kn
      refine⟨_,rfl,a,_,_,_,rfl,rfl,SqT.of e,rfl,_,_,_,_,rfl,ty2,k32,_,rfl,?_⟩
      have no2:(∀a xs,y= .ref a->H a≠some (.tup xs))->Q (.bl false) H:=fun hn=>fin false H (.inr ⟨hn,rfl⟩) (Same.refl H)
      have hk2:=ky.kn
      cases y with
      |non=>exact iteT (no2 fun a xs q=>by cases q)
      |bl b=>exact iteT (no2 fun a xs q=>by cases q)
      |int n=>exact iteT (no2 fun a xs q=>by cases q)
      |str z=>exact iteT (no2 fun a xs q=>by cases q)
      |byt _=>exact hk2.elim
      |flt _=>exact hk2.elim
      |ty _=>exact hk2.elim
      |ref a2=>
       rcases hk2 with ⟨ys,e2⟩|⟨ys,e2⟩
       ·refine iteTe (by unfold KG.tTu;simp only [e2];rfl) (no2 fun a' zs q e'=>?_)
        cases q
        rw [e2]at e'
        cases e'
       ·refine iteFe (by unfold KG.tTu;simp only [e2];rfl) ?_
        refine⟨_,rfl,a,_,_,_,rfl,rfl,SqT.of e,rfl,a2,_,rfl,.inr (SqT.of e2),_,rfl,wd,_,rfl,dget hwd v1,sa,_,rfl,.inl (SqL.of hsa),rfl,_,rfl,?_⟩
        by_cases hl:ys.length=ns.length
        ·refine iteFe (by rw [List.length_map,hl];simp) ?_
         refine⟨_,rfl,a,_,_,_,rfl,rfl,SqT.of e,rfl,_,rfl,wd,_,rfl,dget hwd v1,a2,sa,rfl,⟨_,SqT.of e2⟩,⟨_,SqL.of hsa⟩,fun D hD=>?_⟩
         refine comp_zip (K:=K) (a:=a2) (b:=sa) (D:=D) (xs:=ys) (ys:=ns.map V.int) (ni:=0) (nj:=1) (by rw [List.length_map];exact hl)
          (fun i acc σc H3=>(∃v0 v1,σc=[v0,v1])/\Same H H3/\H3 D=some (.lst acc)/\∃bs:List Bool,acc=bs.map V.bl/\bs.length=i/\bs.all id=KG.allZ (ys.take i) (ns.take i)) ?_ ?_ ?_ ?_
         ·exact⟨⟨none,none,rfl⟩,sameNew hD,upd_same,[],rfl,rfl,by simp [KG.allZ]⟩
         ·rintro i acc σc H3 _ ⟨_,s3,_⟩
          exact⟨SqT.of (s3 _ _ e2),SqL.of (s3 _ _ hsa)⟩
         ·rintro i x y acc σc H3 p hi hx hy ⟨⟨v0,v1,rfl⟩,s3,hD3,bs,rfl,hbl,hba⟩ hp
          obtain⟨n,rfl,hn⟩:=KG.get_map hy
          have s4:Same H3 (upd H3 p (.tup [x,.int n])):=sameNew hp
          have kx:Kn (upd H3 p (.tup [x,.int n])) x:=KG.Kn.same (s3.trans s4) (ky.2 a2 ys rfl e2 x (List.mem_of_getElem? hx))
          refine⟨_,rfl,_,rfl,_,_,rfl,rfl,x,0,n-1,rfl,kx,?_⟩
          refine cturn (s4 _ _ hD3) (small (by rw [List.length_map];have:=good.few;omega)) hi ⟨⟨_,_,rfl⟩,sameUpd hD (s3.trans s4),upd_same,bs++[inB x 0 (n-1)],?_,?_,?_⟩
          ·rw [List.map_append]
           rfl
          ·rw [List.length_append,hbl]
           rfl
          ·rw [KG.allZ_take ys ns i x n hx hn, <-hba,List.all_append]
           simp
         ·rintro acc σc H3 ⟨_,s3,hD3,bs,rfl,hbl,hba⟩
          refine⟨D,bs,rfl,SqL.of hD3,rfl,?_⟩
          have e4:bs.all id=KG.plB ys ns:=by
           rw [hba,hl,List.take_length]
           have e3:ys.take ns.length=ys:=by rw [<-hl,List.take_length]
           rw [e3]
           unfold KG.plB
           rw [decide_eq_true hl,Bool.true_and]
          show Q (.bl (bs.all id)) H3
          rw [e4]
          exact fin _ H3 (.inl ⟨a2,ys,rfl,e2,rfl⟩) s3
        ·refine iteTe (by
          have:¬(V.int (ys.length:Int)=V.int ((ns.map V.int).length:Int)):=fun q=>hl (by injection q with q2;rw [List.length_map]at q2;omega)
          rw [decide_eq_false this]
          rfl) ?_
         refine fin false H (.inl ⟨a2,ys,rfl,e2,?_⟩) (Same.refl H)
         unfold KG.plB
         rw [decide_eq_false hl,Bool.false_and]
    ·have hl:ys.length≠2:=fun hl=>by
      match ys,hl with
      | [x,y],_=>exact h2 ⟨x,y,rfl⟩
     refine iteTe (len2 hl) (no fun a' x y q e'=>?_)
     cases q
     rw [e]at e'
     cases e'
     exact hl rfl
end
end KJ
namespace KJ
open PySem PyProof.Rows L2 G3
open KG (pe_gint GridAt RimsAt PtsT Kn inB Res)
theorem cat_rd {K:W.Frag} {H:Hp} {a b:Addr} {xs ys:List V} {Q:VK} (ha:H a=some (.tup xs)) (hb:H b=some (.tup ys)) (hz:xs.length+ys.length<=sizeLine) (q:∀(p:Addr) (H':Hp),Same H H'->H' p=some (.tup (xs++ys))->Q (.ref p) H'):rCatE K (.ref a) (.ref b) H Q:=by
 by_cases hx:xs=[]
 ·subst hx
  exact .inr ⟨a,b,ys,rfl,rfl,SqT.of ha,SqT.of hb,q b H (Same.refl H) hb⟩
 ·refine .inl ⟨a,b,xs,ys,rfl,rfl,SqT.of ha,SqT.of hb,hx,hz,fun hy=>?_,fun _ p hp=>q p _ (sameNew hp) upd_same⟩
  subst hy
  refine q a H (Same.refl H) ?_
  rw [List.append_nil]
  exact ha
theorem notwhole_lo {n:Nat} {hi:Option Int} (hn:1<=n):¬(HT.sIx n 0 (some ((1:Nat):Int))=0/\HT.sIx n n hi=n):=by
 rintro⟨e,_⟩
 rw [HT.sIx_nat]at e
 omega
theorem cutV_mem {xs:List V} {lo hi:Option Int} {x:V} (h:x∈cutV xs lo hi):x∈xs:=List.mem_of_mem_drop (List.mem_of_mem_take h)
theorem Tn.flats {H:Hp} {a:Addr} {xs:List V} (h:H a=some (.tup xs)) (f:∀x∈xs,flatV x=true):∀{n:Nat},Tn n H (.ref a)
 |0=> .inr ⟨xs,h⟩
 |_+1=>Tn.tup h fun x hx=>Tn.flat (f x hx)
theorem Tn.ints {H:Hp} {a:Addr} {ks:List Int} {n:Nat} (h:H a=some (.tup (ks.map V.int))):Tn n H (.ref a):=Tn.flats h fun x hx=>by
 obtain⟨k,_,rfl⟩:=List.mem_map.mp hx
 rfl
def rRepE (K:W.Frag):R2:=fun x y H Q=>∃l k xs,x= .ref l/\y= .int k/\SqT K H l xs/\xs≠[]/\0<=k/\k<1000/\xs.length<=1000/\(k=1->Q (.ref l) H)/\(k≠1->∀p,H p=none->Q (.ref p) (upd H p (.tup (List.replicate k.toNat xs).flatten)))
theorem op_repE {X:Cx}:OpR X (binaryOp .Mult) (rRepE X.K):=op_repT
theorem rep_rd {K:W.Frag} {H:Hp} {t:Addr} {i:Int} {k:Nat} {Q:VK} (ht:H t=some (.tup [.int i])) (h1:k<1000) (q:∀(p:Addr) (H':Hp),Same H H'->H' p=some (.tup ((List.replicate k i).map V.int))->Q (.ref p) H'):
  rRepE K (.ref t) (.int (k:Int)) H Q:=by
 refine⟨t,k,_,rfl,rfl,SqT.of ht,by simp,by omega,by omega,by simp,fun e=>?_,fun _ p hp=>q p _ (sameNew hp) ?_⟩
 ·obtain rfl:k=1:=by omega
  exact q t H (Same.refl H) ht
 ·rw [upd_same]
  have:∀n:Nat,(List.replicate n [V.int i]).flatten=(List.replicate n i).map V.int:=fun n=>by
   induction n with
   |zero=>rfl
   |succ n ih=>rw [List.replicate_succ,List.flatten_cons,ih,List.replicate_succ,List.map_cons];rfl
  rw [this]
  rfl
def PrT (wl wd du sa:Addr) (r:Nat) (ns:List Int) (kvs:List (Key×V)):L2.St->Hp->Prop:=fun σ H=>∃pa v5,σ=[some (.ref wl),some (.ref wd),some (.ref du),some (.ref pa),some (natV r),v5]/\H pa=some (.tup ((List.replicate ns.length (0:Int)).map V.int))/\H wd=some (.dK kvs)/\H sa=some (.lst (ns.map V.int))
theorem PrT.mo {wl wd du sa:Addr} {r:Nat} {ns:List Int} {kvs:List (Key×V)}:∀σ H H',PrT wl wd du sa r ns kvs σ H->Same H H'->PrT wl wd du sa r ns kvs σ H':=fun _ _ _ ⟨pa,v5,e,h1,h2,h3⟩ s=>⟨pa,v5,e,s _ _ h1,s _ _ h2,s _ _ h3⟩
theorem PrT.v3 {wl wd du sa:Addr} {r:Nat} {ns:List Int} {kvs:List (Key×V)} {n:Nat}:∀σ H,PrT wl wd du sa r ns kvs σ H->∃v,σ[3]? =some (some v)/\Tn n H v:=fun _ _ ⟨pa,v5,e,h1,_⟩=>by
 subst e
 exact⟨_,rfl,Tn.ints h1⟩
theorem PrT.v4 {wl wd du sa:Addr} {r:Nat} {ns:List Int} {kvs:List (Key×V)} {n:Nat}:∀σ H,PrT wl wd du sa r ns kvs σ H->∃v,σ[4]? =some (some v)/\Tn n H v:=fun _ _ ⟨pa,v5,e,_⟩=>by
 subst e
 exact⟨_,rfl,Tn.flat rfl⟩
theorem dints_self:∀l:List Int,D.eqs (l.map fun k=>D.fl (.int k)) (l.map fun k=>D.fl (.int k))=true
 | []=>by rw [List.map_nil,D.eqs]
 |n::ns=>by rw [List.map_cons,D.eqs,dints_self ns,D.eq];simp [eqV]
theorem dTk_self (x:Tk):(dTk x).eq (dTk x)=true:=by simp [dTk,D.eq,D.eqs,dints_self,eqV]
theorem den_tk {H:Hp} {x:TkR} (h:PKy H x):DenN Av0 H (dTk x.1) (.ref x.2):=by
 obtain⟨q,h1,h2⟩:=h
 exact⟨x.2,_,rfl,h1,.cons .fl (.cons ⟨q,_,rfl,h2,dens_ints x.1.2⟩ .nil)⟩
theorem dens_spts {H:Hp} {vs:List V} {sp:List Tk} (h:SptsT H vs sp):DensN Av0 H (sp.map dTk) vs:=by
 induction h with
 |nil=>rfl
 |cons h _ ih=>
  obtain⟨a,rfl,k⟩:=h
  exact .cons (den_tk k) ih
theorem ls_nil {l:List Tk}:(D.ls (l.map dTk)).eq (.ls [])=decide (l=[]):=by
 cases l with
 |nil=>simp [D.eq,D.eqs]
 |cons=>simp [D.eq,D.eqs]
theorem Tn.kp {wl:Addr} {H H':Hp} (k:Kp wl H H') (w:WellAt H wl) (w':WellAt H' wl) {n:Nat} {v:V} (h:Tn n H v):Tn n H' v:=h.mono (fun _ _ e=>k.tup w e) fun b xs e=>by
 by_cases hb:b=wl
 ·obtain⟨_,_,_,e'⟩:=w'
  exact⟨_,by rw [hb];exact e'⟩
 ·exact⟨_,k _ _ e hb⟩
theorem Tn.tk {H:Hp} {x:TkR} (h:PKy H x):Tn 2 H (.ref x.2):=by
 obtain⟨u,h1,h2⟩:=h
 refine Tn.tup h1 fun y hy=>?_
 simp only [List.mem_cons,List.not_mem_nil,or_false]at hy
 rcases hy with rfl|rfl
 ·exact Tn.flat rfl
 ·exact Tn.ints h2
def spThings:Sp:=fun vs H Q _=>∃(wl wd sa ra fq du:Addr) (ns:List Int) (xs:List V) (rs:List Rim) (tv:V) (t:Tm) (m:Int) (r:Nat) (ls:List (List Int)) (ys:List V) (sp:List Tk),vs=[.ref wl,.ref wd,.ref du]/\WellAt H wl/\JW H wd sa ra fq ns xs rs tv t m r ls/\du≠wl/\H du=some (.lst ys)/\SptsT H ys sp/\ys.length<=1000/\
 ∀(l:Addr) (vs:List V) (H':Hp),Kp wl H H'->WellAt H' wl->H l=none->H' l=some (.lst vs)->(∀v∈vs,Tn 2 H' v)->Q (.ref l) H'
section
variable {P:Program} {w:World} {K:W.Frag} {mg:Str->Option Value} {base:Heap} {N:Cn} {CG CJ:Addr}
theorem scThings:FnScope ["_law_well_here","_law_world","_law_spots","_law_place","_law_last","_law_some"] ["_law_well_here","_law_world","_law_spots"] (defScope sThings):=⟨rfl,rfl,rfl,by decide+kernel,rfl,by decide+kernel,by decide+kernel⟩
theorem ok_things {f:Addr} {fd:FuncData} (F:Fun K "_law_things" "_law_things" sThings f fd) (c_draw:Cal P w K mg base CX0 1 "_law_draw" ["_law_well_here","_law_most"] spDraw) (T:Txt K mg):FnOk P w K mg base CX0 2 f fd ["_law_well_here","_law_world","_law_spots"] spThings:=by
 refine F.ok scThings (fun vs H Q E h=>?_) (fun cdv A outer s H vs Q E hr h=>?_)
 ·obtain⟨wl,wd,sa,ra,fq,du,ns,xs,rs,tv,t,m,r,ls,ys,sp,rfl,_⟩:=h
  rfl
 ·obtain⟨wl,wd,sa,ra,fq,du,ns,xs,rs,tv,t,m,r,ls,ys,sp,rfl,wa,W,ndu,hdu,spt,yl,q⟩:=h
  have hu:=hu_of2 hr
  obtain⟨kvs,hwd,v1,v2,v3,v4,v5,v6⟩:=W.dk
  have few:=W.good.few
  have one:=W.good.one
  have mo:=PrT.mo (wl:=wl) (wd:=wd) (du:=du) (sa:=sa) (r:=r) (ns:=ns) (kvs:=kvs)
  have lrep:∀i:Int,((List.replicate ns.length i).map V.int).length<=3:=fun i=>by rw [List.length_map,List.length_replicate];omega
  refine⟨_,(pss_cons (ps_set (i:=3) scThings.nd rfl (Or.inl rfl) (pe_op (r:=rRepE K) op_repE (pe_tup (pa_cons pe_int pa_nil)) (pe_callB call_len_seq (by rfl) T.len PySem.boot_len (pa_cons (pe_dget (hu_of hr) (pv 1) pe_str (fun _ _=>rfl)) pa_nil)))) (pss_cons (ps_set (i:=4) scThings.nd rfl (Or.inl rfl) (pe_dget (hu_of hr) (pv 1) pe_str (fun _ _=>rfl)))
   (pss_cons (ps_set (i:=5) scThings.nd rfl (Or.inl rfl) (pq_L (Pr:=PrT wl wd du sa r ns kvs) (n:=2) (pq_cons (pq_tup (pq_cons (pq_v (pv 4) PrT.v4) (pq_cons (pq_v (pv 3) PrT.v3) pq_nil)) mo) (pq_cons (pq_tup (pq_cons (pq_of (pe_op op_add (pv 4) pe_int) ?k1 mo) (pq_cons (pq_v (pv 3) PrT.v3) pq_nil)) mo) (pq_cons (pq_tup (pq_cons (pq_c pe_int) (pq_cons (pq_v (pv 3) PrT.v3) pq_nil)) mo) (pq_cons (pq_tup (pq_cons pq_neg (pq_cons (pq_v (pv 3) PrT.v3) pq_nil)) mo)
    (pq_cons (pq_tup (pq_cons (pq_c pe_int) (pq_cons (pq_of (pe_op (r:=rCatE K) op_catE (pv 3) (pe_tup (pa_cons pe_int pa_nil))) ?k2 mo) pq_nil)) mo) (pq_cons (pq_tup (pq_cons (pq_c pe_int) pq_nil) mo) pq_nil)))))) mo))
   (pss_cons (ps_set (i:=5) scThings.nd rfl (Or.inl rfl) (pe_op op_cat (pv 5) (pq_L (Pr:=PrT wl wd du sa r ns kvs) (n:=2) (pq_cons (pq_tup (pq_cons (pq_c pe_bl) (pq_cons (pq_v (pv 3) PrT.v3) pq_nil)) mo) (pq_cons (pq_tup (pq_cons (pq_c pe_str) (pq_cons (pq_v (pv 3) PrT.v3) pq_nil)) mo) (pq_cons (pq_lst (k:=0) (pq_cons (pq_c pe_int) (pq_cons (pq_v (pv 3) PrT.v3) pq_nil)) mo)
    (pq_cons (pq_tup (pq_cons (pq_c pe_int) (pq_cons (pq_v (pv 3) PrT.v3) (pq_cons (pq_c pe_int) pq_nil))) mo) (pq_cons (pq_c pe_non) (pq_cons (pq_v (pv 3) PrT.v3) (pq_cons (pq_tup (pq_cons (pq_c pe_non) (pq_cons (pq_v (pv 3) PrT.v3) pq_nil)) mo) pq_nil))))))) mo)))
   (pss_cons (ps_set (i:=5) scThings.nd rfl (Or.inl rfl) (pe_op op_cat (pv 5) (pq_L (Pr:=PrT wl wd du sa r ns kvs) (n:=2) (pq_cons (pq_tup (pq_cons (pq_c pe_int) (pq_cons (pq_c pe_non) pq_nil)) mo) (pq_cons (pq_tup (pq_cons (pq_c pe_int) (pq_cons (pq_of (pe_op (r:=rRepE K) op_repE (pe_tup (pa_cons pe_int pa_nil)) (pe_callB call_len_seq (by rfl) T.len PySem.boot_len (pa_cons (pv 3) pa_nil))) ?k3 mo) pq_nil)) mo)
    (pq_cons (pq_tup (pq_cons (pq_c pe_int) (pq_cons (pq_of (pe_op (r:=rCatE K) op_catE (pe_tup (pa_cons (pe_un un_neg pe_int) pa_nil)) (pe_slice sl_tup (pv 3) (po_some pe_int) po_none)) ?k4 mo) pq_nil)) mo) (pq_cons (pq_tup (pq_cons (pq_c pe_int) (pq_cons (pq_of (pe_callTy call_list_of rfl T.list boot_list (pa_cons (pv 3) pa_nil)) ?k5 mo) pq_nil)) mo) (pq_cons (pq_tup pq_nil mo) pq_nil))))) mo)))
   (pss_cons (ps_set (i:=5) scThings.nd rfl (Or.inl rfl) (pe_op op_cat (pv 5) (pq_L (Pr:=PrT wl wd du sa r ns kvs) (n:=2) (pq_cons (pq_tup (pq_cons (pq_c pe_int) (pq_cons (pq_of (pe_op (r:=rCatE K) op_catE (pe_tup (pa_cons pe_bl pa_nil)) (pe_slice sl_tup (pv 3) (po_some pe_int) po_none)) ?k6 mo) pq_nil)) mo) (pq_cons (pq_tup (pq_cons (pq_c pe_int) (pq_cons (pq_of (pe_callTy call_tuple_of rfl T.tuple boot_tuple (pa_cons (pe_dget (hu_of hr) (pv 1) pe_str (fun _ _=>rfl)) pa_nil)) ?k7 mo) pq_nil)) mo)
    (pq_cons (pq_tup (pq_cons (pq_c pe_int) (pq_cons (pq_of (pe_dget (hu_of hr) (pv 1) pe_str (fun _ _=>rfl)) ?k8 mo) pq_nil)) mo) pq_nil))) mo)))
   (pss_cons (ps_if (pt_cmpR (op_neD hu) (pv 2) (pe_lst pa_nil) (nomark _)) (pss_one (ps_expr (pe_bm PySem.F.plainAttrs_list PySem.F.slot_list_append PySem.F.type_list_append mt_append (pv 5) (pa_cons (pe_ix ix_list (pv 2) (pe_c c_draw (hr.mono (by decide)) rfl pass0 (pa_cons (pv 0) (pa_cons (pe_callB call_len_seq (by rfl) T.len PySem.boot_len (pa_cons (pv 2) pa_nil)) pa_nil))) (fun _ _=>rfl)) pa_nil)))) pss_nil) (pss_one (ps_ret (pv 5)))))))))), ?main⟩
  case k1=>
   rintro σ H Q ⟨pa,v5,rfl,h1,h2,h3⟩ q
   exact⟨_,rfl,_,_,rfl,rfl,q _ H (Same.refl H) (Tn.flat rfl)⟩
  case k2=>
   rintro σ H Q ⟨pa,v5,rfl,h1,h2,h3⟩ q
   refine⟨_,rfl,by show 1<=sizeLine;decide,fun t1 n1=>?_⟩
   have s1:Same H (upd H t1 (.tup [.int 0])):=sameNew n1
   refine cat_one (k:=0) (s1 _ _ h1) upd_same (by rw [List.length_replicate];omega) fun u H' s2 _ e=>q _ H' (s1.trans s2) (Tn.ints e)
  case k3=>
   rintro σ H Q ⟨pa,v5,rfl,h1,h2,h3⟩ q
   refine⟨by show 1<=sizeLine;decide,fun t1 n1=>?_⟩
   have s1:Same H (upd H t1 (.tup [.int 9])):=sameNew n1
   refine⟨_,rfl,pa,_,rfl,.inr (SqT.of (s1 _ _ h1)),?_⟩
   exact rep_rd (K:=K) upd_same (by have:=lrep 0;omega) fun u H' s2 e=>q _ H' (s1.trans s2) (Tn.ints e)
  case k5=>
   rintro σ H Q ⟨pa,v5,rfl,h1,h2,h3⟩ q
   exact⟨_,rfl,pa,_,rfl,.inr (SqT.of h1),fun l n1=>q _ _ (sameNew n1) (Tn.lst upd_same)⟩
  case k7=>
   rintro σ H Q ⟨pa,v5,rfl,h1,h2,h3⟩ q
   refine⟨_,rfl,wd,_,rfl,dget h2 v1,sa,_,rfl,.inl ⟨SqL.of h3,fun l n1=>q _ _ (sameNew n1) (Tn.ints upd_same)⟩⟩
  case k8=>
   rintro σ H Q ⟨pa,v5,rfl,h1,h2,h3⟩ q
   exact⟨_,rfl,wd,_,rfl,dget h2 v1,q _ H (Same.refl H) (Tn.lst h3)⟩
  case k4=>
   rintro σ H Q ⟨pa,v5,rfl,h1,h2,h3⟩ q
   refine⟨1,rfl,by show 1<=sizeLine;decide,fun t1 n1=>?_⟩
   have s1:Same H (upd H t1 (.tup [.int (-1)])):=sameNew n1
   generalize e:upd H t1 (.tup [.int (-1)])=H1 at s1⊢
   have e1:H1 t1=some (.tup [.int (-1)]):=by rw [<-e];exact upd_same
   refine⟨_,rfl,1,rfl,pa,_,rfl,SqT.of (s1 _ _ h1),notwhole_lo (by rw [List.length_map,List.length_replicate];exact one),fun t2 n2=>?_⟩
   have s2:=sameNew (o:= .tup (cutV ((List.replicate ns.length (0:Int)).map V.int) (some 1) none)) n2
   refine cat_rd (s2 _ _ e1) upd_same ?_ fun u H' s3 e3=>q _ H' (s1.trans (s2.trans s3)) (Tn.flats e3 fun x hx=>?_)
   ·have:=cutV_length ((List.replicate ns.length (0:Int)).map V.int) (some 1) none
    have:=lrep 0
    rw [sizeLine_eq,List.length_singleton]
    omega
   ·rcases List.mem_append.mp hx with hx|hx
    ·rw [List.mem_singleton.mp hx]
     rfl
    ·obtain⟨k,_,rfl⟩:=List.mem_map.mp (cutV_mem hx)
     rfl
  case k6=>
   rintro σ H Q ⟨pa,v5,rfl,h1,h2,h3⟩ q
   refine⟨by show 1<=sizeLine;decide,fun t1 n1=>?_⟩
   have s1:Same H (upd H t1 (.tup [.bl true])):=sameNew n1
   generalize e:upd H t1 (.tup [.bl true])=H1 at s1⊢
   have e1:H1 t1=some (.tup [.bl true]):=by rw [<-e];exact upd_same
   refine⟨_,rfl,1,rfl,pa,_,rfl,SqT.of (s1 _ _ h1),notwhole_lo (by rw [List.length_map,List.length_replicate];exact one),fun t2 n2=>?_⟩
   have s2:=sameNew (o:= .tup (cutV ((List.replicate ns.length (0:Int)).map V.int) (some 1) none)) n2
   refine cat_rd (s2 _ _ e1) upd_same ?_ fun u H' s3 e3=>q _ H' (s1.trans (s2.trans s3)) (Tn.flats e3 fun x hx=>?_)
   ·have:=cutV_length ((List.replicate ns.length (0:Int)).map V.int) (some 1) none
    have:=lrep 0
    rw [sizeLine_eq,List.length_singleton]
    omega
   ·rcases List.mem_append.mp hx with hx|hx
    ·rw [List.mem_singleton.mp hx]
     rfl
    ·obtain⟨k,_,rfl⟩:=List.mem_map.mp (cutV_mem hx)
     rfl
  case main=>
   refine⟨by show 1<=sizeLine;decide,fun t0 n0=>?_⟩
   generalize e:upd H t0 _=H1
   obtain⟨s1,e1⟩:=new_of n0 e
   refine⟨_,rfl,wd,_,rfl,dget (s1 _ _ hwd) v1,sa,_,rfl,.inl (SqL.of (s1 _ _ W.sz)),?_⟩
   rw [List.length_map]
   refine rep_rd (K:=K) (k:=ns.length) e1 (by omega) fun pa H2 s2 e2=>?_
   have s12:=s1.trans s2
   refine⟨_,rfl,wd,_,rfl,dget (s12 _ _ hwd) v5,?_⟩
   refine⟨⟨pa,_,rfl,e2,s12 _ _ hwd,s12 _ _ W.sz⟩,fun l1 z1 H3 s3 _ m1 f1 g1 t1=>?_⟩
   have s13:=s12.trans s3
   refine⟨_,rfl,⟨pa,_,rfl,s3 _ _ e2,s13 _ _ hwd,s13 _ _ W.sz⟩,fun l2 z2 H4 s4 _ m2 f2 g2 t2=>⟨l1,l2,z1,z2,rfl,rfl,s4 _ _ f1,f2,by rw [g1,g2];decide,fun l3 m3=>?_⟩⟩
   generalize e:upd H4 l3 _=H5
   obtain⟨s5,e5⟩:=new_of m3 e
   have s15:=s13.trans (s4.trans s5)
   have t3:∀v∈z1++z2,Tn 2 H5 v:=fun v hv=>by
    rcases List.mem_append.mp hv with hv|hv
    ·exact(t1 v hv).same (s4.trans s5)
    ·exact(t2 v hv).same s5
   have p5:=(s3.trans (s4.trans s5)) _ _ e2
   refine⟨_,rfl,⟨pa,_,rfl,p5,s15 _ _ hwd,s15 _ _ W.sz⟩,fun l4 z4 H6 s6 _ m4 f4 g4 t4=>⟨l3,l4,_,z4,rfl,rfl,s6 _ _ e5,f4,by rw [List.length_append,g1,g2,g4];decide,fun l5 m5=>?_⟩⟩
   generalize e:upd H6 l5 _=H7
   obtain⟨s7,e7⟩:=new_of m5 e
   have s17:=s15.trans (s6.trans s7)
   have t5:∀v∈z1++z2++z4,Tn 2 H7 v:=fun v hv=>by
    rcases List.mem_append.mp hv with hv|hv
    ·exact(t3 v hv).same (s6.trans s7)
    ·exact(t4 v hv).same s7
   have p7:=(s6.trans s7) _ _ p5
   refine⟨_,rfl,⟨pa,_,rfl,p7,s17 _ _ hwd,s17 _ _ W.sz⟩,fun l6 z6 H8 s8 _ m6 f6 g6 t6=>⟨l5,l6,_,z6,rfl,rfl,s8 _ _ e7,f6,by rw [List.length_append,List.length_append,g1,g2,g4,g6];decide,fun l7 m7=>?_⟩⟩
   generalize e:upd H8 l7 _=H9
   obtain⟨s9,e9⟩:=new_of m7 e
   have s19:=s17.trans (s8.trans s9)
   have t7:∀v∈z1++z2++z4++z6,Tn 2 H9 v:=fun v hv=>by
    rcases List.mem_append.mp hv with hv|hv
    ·exact(t5 v hv).same (s8.trans s9)
    ·exact(t6 v hv).same s9
   have n7:H l7=none:=s17.free (s8.free m7)
   have zl:(z1++z2++z4++z6).length=21:=by rw [List.length_append,List.length_append,List.length_append,g1,g2,g4,g6]
   generalize z1++z2++z4++z6=zz at e9 t7 zl
   have hdu9:=s19 _ _ hdu
   have spt9:=spt.mono fun _ _ e=>s19 _ _ e
   refine⟨_,rfl,by show 0<=sizeLine;decide,fun la na=>?_⟩
   generalize e:upd H9 la _=HA
   obtain⟨sA,eA⟩:=new_of na e
   have sptA:=spt9.mono fun _ _ e=>sA _ _ e
   have hduA:=sA _ _ hdu9
   have s1A:=s19.trans sA
   refine⟨.ls (sp.map dTk),.ls [],DenN.den K (Av:=Av0) _ ⟨du,_,rfl,id,hduA,dens_spts sptA⟩,DenN.den K (Av:=Av0) _ ⟨la,_,rfl,id,eA,rfl⟩,by have:=dep_tks sp;simp only [D.dep,D.deps];omega,_,rfl,?_⟩
   have sl:ys.length=sp.length:=Paired.length spt
   by_cases h0:sp=[]
   ·refine iteFe (by rw [ls_nil,decide_eq_true h0];rfl) ?_
    exact⟨_,rfl,q l7 zz HA (Kp.of s1A) (wa.same s1A) n7 (sA _ _ e9) fun v hv=>(t7 v hv).same sA⟩
   ·refine iteTe (by rw [ls_nil,decide_eq_false h0];rfl) ?_
    have pos:0<sp.length:=List.length_pos_iff.mpr h0
    have e9A:=sA _ _ e9
    have n7w:l7≠wl:=wa.ne n7
    refine⟨_,rfl,.inl ⟨rfl,_,SqL.of e9A⟩,_,rfl,_,rfl,_,rfl,du,_,rfl,.inl (SqL.of hduA),wl,_,rfl,wa.same s1A,by omega,by omega,fun n HB hn kB wB=>?_⟩
    have hn':n<ys.length:=by omega
    obtain⟨x,hx,ax,ex,kx⟩:=Paired.get sptA (List.getElem?_eq_getElem hn')
    have hduB:=kB _ _ hduA ndu
    refine⟨du,_,_,_,rfl,rfl,SqL.of hduB,atI_nat (List.getElem?_eq_getElem hn'),?_⟩
    have e9B:=kB _ _ e9A n7w
    refine⟨l7,zz,_,rfl,rfl,e9B,small1000 (by omega),?_⟩
    have kk:Kp wl H (upd HB l7 (.lst (zz++[ys[n]]))):=((Kp.of s1A).trans kB).upd n7
    refine⟨_,rfl,q l7 _ _ kk (wB.upd n7w) n7 upd_same fun v hv=>?_⟩
    have up:Tn 2 HB v->Tn 2 (upd HB l7 (.lst (zz++[ys[n]]))) v:=fun h=>h.mono (fun b xs e=>by rw [upd_ne (fun z=>by rw [z,e9B]at e;cases e)];exact e) fun b xs e=>by
     by_cases hb:b=l7
     ·exact⟨_,by rw [hb];exact upd_same⟩
     ·exact⟨xs,by rw [upd_ne hb];exact e⟩
    rcases List.mem_append.mp hv with hv|hv
    ·exact up (((t7 v hv).same sA).kp kB (wa.same s1A) wB)
    ·obtain rfl:v=V.ref ax:=(List.mem_singleton.mp hv).trans ex
     exact up ((Tn.tk kx).kp kB (wa.same s1A) wB)
end
end KJ
namespace KJ
open PySem PyProof.Rows L2 G3
open KG (pe_gint GridAt RimsAt PtsT Kn inB Res)
theorem dTks_self:∀l:List Tk,D.eqs (l.map dTk) (l.map dTk)=true
 | []=>by rw [List.map_nil,D.eqs]
 |x::l=>by rw [List.map_cons,D.eqs,dTks_self l,dTk_self];rfl
theorem SqL.kp {K:W.Frag} {a p:Addr} {H H':Hp} {xs:List V} (k:Kp p H H') (hp:H p=none) (h:SqL K H a xs):SqL K H' a xs:=by
 rcases h with (h|⟨x,h⟩)|h
 ·exact .inl (.inl (k _ _ h (ne_of_none h hp)))
 ·exact .inl (.inr ⟨x,k _ _ h (ne_of_none h hp)⟩)
 ·exact .inr h
theorem Kp.sm {a:Addr} {H H1 H2:Hp} (s:Same H H1) (n:H a=none) (k:Kp a H1 H2):Same H H2:=fun b o e=>k b o (s _ _ e) (ne_of_none e n)
def spLaw (K:W.Frag):Sp:=fun vs H Q _=>∃(a:Addr) (ns:List Int),vs=[.ref a]/\SqL K H a (ns.map V.int)/\∀H',Q (.bl true) H'
section
variable {P:Program} {w:World} {K:W.Frag} {mg:Str->Option Value} {base:Heap} {N:Cn} {CG CJ:Addr}
abbrev NLaw:List Str:=["_law_script","_law_world","_law_job_here","_law_due","_law_turn","_law_found","_law_thing","_law_good","_law_deep"]
theorem scLaw:FnScope ["_law_script","_law_world","_law_job_here","_law_due","_law_turn","_law_found","_law_thing","_law_good","_law_deep"] ["_law_script"] (defScope sLaw):=⟨rfl,rfl,rfl,by decide+kernel,rfl,by decide+kernel,by decide+kernel⟩
theorem ok_law {f:Addr} {fd:FuncData} (F:Fun K "law" "law" sLaw f fd) (c_well:Cal P w K mg base CX0 2 "_law_well" ["_law_script","_law_k"] (spWell K)) (c_job:Cal P w K mg base CX0 7 "_law_job" ["_law_well_here"] spJob) (c_jobOf:Cal P w K mg base CX0 12 "_law_job_of" ["_law_world"] (spJobOf CG CJ)) (c_takes:Cal P w K mg base CX0 5 "_law_takes" ["_law_told_here"] (spLTk 4))
  (c_placesL:Cal P w K mg base CX0 1 "_law_places" ["_law_sizes_here"] spPlacesL) (c_things:Cal P w K mg base CX0 2 "_law_things" ["_law_well_here","_law_world","_law_spots"] spThings) (c_isSpotL:Cal P w K mg base CX0 2 "_law_is_spot" ["_law_thing","_law_world"] spIsSpotL)
  (D_spots:Dis P w K mg base CX0 3 (·=CJ) "all_spots" ["self"] (fun _=>spSpots CG CJ)) (D_isSpot:Dis P w K mg base CX0 4 (·=CJ) "is_spot" ["self","thing"] (fun _=>spIsSpotG CG CJ)) (D_deep:Dis P w K mg base CX0 1 (·=CJ) "deep" ["self"] (fun _=>spDeep CJ)) (T:Txt K mg):FnOk P w K mg base CX0 13 f fd ["_law_script"] (spLaw K):=by
 refine F.ok scLaw (fun vs H Q E h=>?_) (fun cdv A outer s H vs Q E hr h=>?_)
 ·obtain⟨a,ns,rfl,_⟩:=h
  rfl
 ·obtain⟨a0,ns0,rfl,hS,k⟩:=h
  have hu:=hu_of2 hr
  refine⟨_,(pss_cons (ps_set (i:=1) scLaw.nd rfl (Or.inl rfl) (pe_c c_job (hr.mono (by decide)) rfl pass0 (pa_cons (pe_c c_well (hr.mono (by decide)) rfl pass0 (pa_cons (pv 0) (pa_cons pe_int pa_nil))) pa_nil))) (pss_cons (ps_set (i:=2) scLaw.nd rfl (Or.inl rfl) (pe_c c_jobOf (hr.mono (by decide)) rfl pass0 (pa_cons (pv 1) pa_nil))) (pss_cons (ps_set (i:=3) scLaw.nd rfl (Or.inl rfl) (pe_lst pa_nil)) (pss_cons (ps_for PassesOwn.never rfl (pi_range2 rfl T.range (pa_cons pe_int (pa_cons (pe_op op_add (pe_dget (hu_of hr) (pv 1) pe_str (fun _ _=>rfl)) pe_int) pa_nil))) (pg_name (i:=4) scLaw.nd rfl (Or.inr rfl)) (pss_one (ps_set (i:=3) scLaw.nd rfl (Or.inl rfl) (pe_op op_cat (pv 3) (pe_cp (own:=["_law_place"]) (cap:=[("_law_turn",4)]) (g:=gName 0) (defScope sLaw) NLaw rfl rfl (fun x h=>cell_has h) (by decide+kernel) rfl (pi_list (pe_c c_placesL (hr.mono (by decide)) rfl pass0 (pa_cons (pe_dget (hu_of hr) (pv 1) pe_str (fun _ _=>rfl)) pa_nil))) (fun cl C s2 H2 fp=>(pg_name (i:=0) (show(["_law_place","_law_turn"]:List Str).Nodup by decide+kernel) rfl (Or.inl rfl) (Or.inr rfl))) (fun cl C s2 H2 fp=>(pe_tup (pa_cons (pv 1) (pa_cons (pv 0) pa_nil))))))))) (pss_cons (ps_set (i:=5) scLaw.nd rfl (Or.inl rfl) (pe_methD0 (pv 2) D_spots (hr.mono (by decide)) pass0)) (pss_cons (ps_if (PW.pt (pw_or (pt_not (pt_val (pe_callB call_isinst rfl T.isinstance boot_isinstance (pa_cons (pv 5) (pa_cons (pe_ty rfl T.list boot_list) pa_nil))))) (pw_or1 (pt_cmpR (op_neD hu) (pv 5) (pv 3) (nomark _))))) (pss_one (ps_ret pe_bl)) pss_nil) (pss_cons (ps_expr (pe_bm0 PySem.F.plainAttrs_list PySem.F.slot_list_clear PySem.F.type_list_clear mt_clear (pv 5))) (pss_cons (ps_for PassesOwn.never rfl (pi_list (pe_c c_things (hr.mono (by decide)) rfl pass0 (pa_cons (pe_c c_well (hr.mono (by decide)) rfl pass0 (pa_cons (pv 0) (pa_cons pe_int pa_nil))) (pa_cons (pv 1) (pa_cons (pv 3) pa_nil))))) (pg_name (i:=6) scLaw.nd rfl (Or.inl rfl)) (pss_cons (ps_set (i:=7) scLaw.nd rfl (Or.inl rfl) (pe_methD (pv 2) D_isSpot (hr.mono (by decide)) pass0 (pa_cons (pv 6) pa_nil))) (pss_cons (ps_if (pt_not (pt_val (pe_callB call_isinst rfl T.isinstance boot_isinstance (pa_cons (pv 7) (pa_cons (pe_ty rfl T.bool boot_bool) pa_nil))))) (pss_one (ps_ret pe_bl)) pss_nil) (pss_one (ps_if (pt_cmpR (op_neD hu) (pv 7) (pe_c c_isSpotL (hr.mono (by decide)) rfl pass0 (pa_cons (pv 6) (pa_cons (pv 1) pa_nil))) (nomark _)) (pss_one (ps_ret pe_bl)) pss_nil))))) (pss_cons (ps_set (i:=8) scLaw.nd rfl (Or.inl rfl) (pe_callBK (call_maxD rfl) rfl T.max boot_max (pa_cons (pe_cp (own:=["_law_take"]) (cap:=[]) (g:=gName 0) (defScope sLaw) NLaw rfl rfl (fun x h=>cell_has h) (by decide+kernel) rfl (pi_list (pe_c c_takes (hr.mono (by decide)) rfl pass0 (pa_cons (pe_dget (hu_of hr) (pv 1) pe_str (fun _ _=>rfl)) pa_nil))) (fun cl C s2 H2 fp=>(pg_name (i:=0) (show(["_law_take"]:List Str).Nodup by decide+kernel) rfl (Or.inl rfl) (Or.inr rfl))) (fun cl C s2 H2 fp=>(pe_ix (r:=rIxT K) ix_tup (pv 0) pe_int (fun _ _=>rfl)))) pa_nil) (pk_cons pe_int pk_nil))) (pss_one (ps_ret (pe_and (pe_cmpR (op_eqD hu) (pe_methD0 (pv 2) D_spots (hr.mono (by decide)) pass0) (pv 3) (nomark _)) (pe_one (pe_cmpR op_eq (pe_methD0 (pv 2) D_deep (hr.mono (by decide)) pass0) (pv 8) (nomark _))))))))))))))),?_⟩
  refine⟨_,rfl,a0,ns0,0,rfl,hS,fun wp H1 s1 hw w1=>?_⟩
  refine⟨wp,rfl,w1,fun wd sa ra fq ns xs rs tv t m r ls H2 k2 W=>?_⟩
  refine⟨_,rfl,wd,sa,ra,fq,ns,xs,rs,tv,t,m,r,ls,rfl,W,fun j tk g ps xs' H3 s3 J tks=>?_⟩
  have W3:=W.kp s3
  have hS3:∀H',Same H3 H'->SqL K H' a0 (ns0.map V.int):=fun H' s'=>SqL.kp (((Kp.of s1).trans k2).trans (Kp.of (s3.trans s'))) hw hS
  obtain⟨kvs,hwd,v1,v2,v3,v4,v5,v6⟩:=W3.dk
  have good:=W3.good
  obtain⟨r12,rm⟩:=J.r12
  have pln:=places_len good
  obtain⟨_,_,_,m40⟩:=many_eq good
  refine⟨by show 0<=sizeLine;decide,fun d0 n0=>?_⟩
  generalize e:upd H3 d0 _=H4
  obtain⟨s4,e4⟩:=new_of n0 e
  refine⟨_,rfl,wd,_,rfl,dget (s4 _ _ hwd) v5,_,_,rfl,rfl,1,(r:Int)+1,rfl,⟨by decide,by decide,by omega,by omega⟩,?_⟩
  have er:((r:Int)+1-1).toNat=r:=by omega
  rw [er]
  refine for_range (lo:=1) (n:=r) (fun i σ H5=>(∃du v4 ys,σ=[some (.ref a0),some (.ref wd),some (.ref j),some (.ref du),v4,none,none,none,none]/\H3 du=none/\H5 du=some (.lst ys)/\SptsT H5 ys (spots ns i))/\Same H3 H5) ⟨⟨d0,_,[],rfl,n0,e4,.nil⟩,s4⟩ ?_ ?_
  ·rintro i σ H5 hi ⟨⟨du,v4',ys,rfl,ndu,edu,spt⟩,s5⟩
   refine⟨_,rfl,_,rfl,wd,_,rfl,dget (s5 _ _ hwd) v1,sa,ns,rfl,s5 _ _ W3.sz,good,fun pl zs H6 s6 npl epl pt=>⟨pl,rfl,⟨_,SqL.of epl⟩,fun D hD=>?_⟩⟩
   have zl:zs.length=many ns:=by rw [<-pln];exact Paired.length pt
   refine comp_list (K:=K) (a:=pl) (xs:=zs) (fun k acc σ H7=>(∃v0,σ=[v0,some (.int (1+(i:Int)))])/\Same H6 H7/\H7 D=some (.lst acc)/\SptsT H7 acc (((places ns).take k).map fun p=>((1:Int)+i,p))) ⟨⟨_,rfl⟩,sameNew hD,upd_same,.nil⟩ (fun k acc σ H7 _ ⟨_,s7,_⟩=>SqL.of (s7 _ _ epl)) ?_ ?_
   ·rintro k x acc σ H7 hk hx ⟨⟨v0,rfl⟩,s7,hD7,sp7⟩
    obtain⟨p,hpt,a,rfl,ha⟩:=Paired.get pt hx
    refine⟨_,rfl,_,rfl,by show 2<=sizeLine;decide,fun t1 n1=>?_⟩
    have nt:t1≠D:=Ne.symm (ne_of_none hD7 n1)
    have up:∀b zs,H7 b=some (.tup zs)->upd (upd H7 t1 (.tup [.int (1+(i:Int)),.ref a])) D (.lst (acc++[V.ref t1])) b=some (.tup zs):=fun b zs e=>by
     have bD:b≠D:=fun z=>by rw [z,hD7]at e;cases e
     rw [upd_ne bD,upd_ne (ne_of_none e n1)]
     exact e
    have al:acc.length<=k:=by rw [Paired.length sp7,List.length_map,List.length_take];omega
    refine cturn (by rw [upd_ne (Ne.symm nt)];exact hD7) (small (by omega)) hk ⟨⟨_,rfl⟩,sameUpd hD (s7.trans (sameNew n1)),upd_same,?_⟩
    rw [List.take_succ,hpt,List.map_append]
    exact Paired.snoc' (sp7.mono up) ⟨t1,rfl,a,by rw [upd_ne nt,upd_same],up _ _ (s7 _ _ ha)⟩
   ·rintro acc σ H7 ⟨_,s7,hD7,sp7⟩
    rw [zl, <-pln,List.take_length]at sp7
    have vl:ys.length=i*many ns:=by rw [Paired.length spt,spots_len,pln]
    have al:acc.length=many ns:=by rw [Paired.length sp7,List.length_map,pln]
    have b1:i*many ns+many ns<=120:=by
     have:(i+1)*many ns<=r*many ns:=Nat.mul_le_mul_right _ hi
     rw [Nat.succ_mul]at this
     omega
    have s67:=s6.trans s7
    refine⟨du,D,ys,acc,rfl,rfl,s67 _ _ edu,hD7,by rw [vl,al,sizeLine_eq];omega,fun l2 m2=>?_⟩
    generalize e:upd H7 l2 _=H8
    obtain⟨s8,e8⟩:=new_of m2 e
    have s58:=s67.trans s8
    refine⟨⟨l2,_,_,rfl,s5.free (s67.free m2),e8,?_⟩,s5.trans s58⟩
    rw [spots_succ]
    exact Paired.app (spt.mono fun b zs e=>s58 _ _ e) (sp7.mono fun b zs e=>s8 _ _ e)
  ·rintro σ H5 ⟨⟨du,v4',ys,rfl,ndu,edu,spt⟩,s5⟩
   have J5:=J.same s5
   obtain⟨dx,pa,mm,f2,hj⟩:=J5.ob
   have dd:=dep_tks (spots ns r)
   have yl:ys.length<=120:=by rw [Paired.length spt,spots_len,pln];omega
   have dS:∀{H:Hp} {a:Addr} {vs:List V},H a=some (.lst vs)->SptsT H vs (spots ns r)->Den K H (.ls ((spots ns r).map dTk)) (.ref a):=fun h hs=>DenN.den K (Av:=Av0) _ ⟨_,_,rfl,id,h,dens_spts hs⟩
   have dself:D.eq (.ls ((spots ns r).map dTk)) (.ls ((spots ns r).map dTk))=true:=by rw [D.eq,dTks_self]
   refine⟨_,rfl,j,CJ,dx,_,rfl,hj,rfl,rfl,j,tk,g,ps,ns,xs',rs,r,rfl,J5,fun fo vs H6 s6 nfo efo sp6=>?_⟩
   refine⟨_,rfl,_,"list",_,true,rfl,.lst efo,rfl,_,rfl,iteF ?_⟩
   refine⟨_,rfl,_,rfl,_,_,dS efo sp6,dS (s6 _ _ edu) (spt.mono fun _ _ e=>s6 _ _ e),by simp only [D.dep];omega,_,rfl,iteFe (by rw [dself];rfl) ?_⟩
   refine⟨_,rfl,.inl ⟨rfl,_,SqL.of efo⟩,fo,_,rfl,rfl,efo,?_⟩
   have s57:Same H5 (upd H6 fo (.lst [])):=sameUpd nfo s6
   generalize upd H6 fo (.lst [])=H7 at s57⊢
   have s37:=s5.trans s57
   refine⟨_,rfl,a0,ns0,1,rfl,hS3 H7 s37,fun wq H8 s8 nwq w8=>?_⟩
   have s38:=s37.trans s8
   have edu7:=s57 _ _ edu
   refine⟨_,rfl,_,rfl,wq,wd,sa,ra,fq,du,ns,xs,rs,tv,t,m,r,ls,ys,spots ns r,rfl,w8,W3.kp s38,ne_of_none edu7 nwq,s8 _ _ edu7,spt.mono fun _ _ e=>s8 _ _ (s57 _ _ e),by omega,fun lt vs2 H9 k9 w9 nlt elt tn=>⟨lt,rfl,⟨_,SqL.of elt⟩,?_⟩⟩
   have s79:Same H7 H9:=Kp.sm s8 nwq k9
   have s39:=s37.trans s79
   have s59:=s57.trans s79
   refine for_list (K:=K) (a:=lt) (xs:=vs2) (fun i σ HA=>(∃v6 v7,σ=[some (.ref a0),some (.ref wd),some (.ref j),some (.ref du),v4',some (.ref fo),v6,v7,none])/\Same H9 HA) ⟨⟨_,_,rfl⟩,Same.refl H9⟩ (fun i σ HA _ ⟨_,sA⟩=>SqL.of (sA _ _ elt)) ?_ ?_
   ·rintro i v σ HA hv ⟨⟨v6',v7',rfl⟩,sA⟩
    have s5A:=s59.trans sA
    have tnA:=(tn v (List.mem_of_getElem? hv)).same sA
    refine⟨_,rfl,j,CJ,dx,_,rfl,s5A _ _ hj,rfl,rfl,_,rfl,j,tk,g,ps,ns,xs',rs,r,v,rfl,J5.same s5A,tnA,fun b HB rb sB=>?_⟩
    refine⟨_,rfl,_,"bool",_,true,rfl,.bl b,rfl,_,rfl,iteF ?_⟩
    refine⟨_,rfl,_,rfl,_,rfl,wd,sa,ra,fq,ns,xs,rs,tv,t,m,r,ls,v,rfl,W3.kp (s39.trans (sA.trans sB)),tnA.same sB,fun c HC rc sC=>?_⟩
    have ebc:=ResS.uniq rb (rc.same tnA sB)
    subst ebc
    refine⟨.fl (.bl b),.fl (.bl b),⟨rfl,rfl⟩,⟨rfl,rfl⟩,by simp [D.dep],_,rfl,iteFe (by cases b<;>rfl) ?_⟩
    exact⟨⟨_,_,rfl⟩,sA.trans (sB.trans sC)⟩
   ·rintro σ HA ⟨⟨v6',v7',rfl⟩,sA⟩
    have s3A:=s39.trans sA
    have s5A:=s59.trans sA
    have WA:=W3.kp s3A
    refine⟨_,rfl,wd,_,rfl,dget (s3A _ _ hwd) v3,tv,t,rfl,WA.tu,WA.hd,WA.ln.k18,fun lq qs HB sB hlq eB pkB tksB=>⟨lq,rfl,⟨_,SqL.of eB⟩,fun D2 hD2=>?_⟩⟩
    have eqp:qs.map (·.1)=ps.map (·.1):=tksB.uniq tks
    have pq:qs.length=ps.length:=by have:=congrArg List.length eqp;simpa using this
    have pl:=J.pl
    have qg:∀x∈qs,1<=x.1.1:=fun x hx=>by
     have hm:x.1∈ps.map (·.1):=by rw [<-eqp];exact List.mem_map.mpr ⟨x,hx,rfl⟩
     obtain⟨y,hy,e⟩:=List.mem_map.mp hm
     have:=(J.gd y hy).1.1
     rw [e]at this
     exact this
    refine comp_list (K:=K) (a:=lq) (xs:=qs.map fun x=>V.ref x.2) (fun i acc σ HC=>(∃v0,σ=[v0])/\Same HB HC/\HC D2=some (.lst acc)/\acc=((qs.take i).map fun x=>x.1.1).map V.int) ⟨⟨_,rfl⟩,sameNew hD2,upd_same,rfl⟩ (fun i acc σ HC _ ⟨_,sC,_⟩=>SqL.of (sC _ _ eB)) ?_ ?_
    ·rintro i x acc σ HC hi hx ⟨⟨v0,rfl⟩,sC,hDC,rfl⟩
     rw [List.length_map]at hi
     have hx':x= .ref qs[i].2:=by
      rw [List.getElem?_map,List.getElem?_eq_getElem hi]at hx
      exact(Option.some.inj hx).symm
     subst hx'
     obtain⟨u,g1,g2⟩:=(pkB qs[i] (List.getElem_mem hi)).same sC
     refine⟨_,rfl,qs[i].2,_,_,_,rfl,rfl,SqT.of g1,rfl,?_⟩
     refine cturn hDC (small ?_) (by rw [List.length_map];exact hi) ⟨⟨_,rfl⟩,sameUpd hD2 sC,upd_same,?_⟩
     ·rw [List.length_map,List.length_map,List.length_take];omega
     ·rw [List.take_succ,List.getElem?_eq_getElem hi,List.map_append,List.map_append];rfl
    ·rintro acc σ HC ⟨_,sC,hDC,rfl⟩
     rw [List.length_map,List.take_length]at hDC
     dsimp only [tNil,tCons,tC]
     refine maxD_dpt (SqL.of hDC) qg ?_
     have sAC:=sB.trans sC
     have s5C:=s5A.trans sAC
     have hjC:=s5C _ _ hj
     refine⟨_,rfl,j,CJ,dx,_,rfl,hjC,rfl,rfl,j,tk,g,ps,ns,xs',rs,r,rfl,J5.same s5C,fun fo2 vs3 HD sD nf2 eD spD=>?_⟩
     have s5D:=s5C.trans sD
     refine⟨_,rfl,_,_,dS eD spD,dS (s5D _ _ edu) (spt.mono fun _ _ e=>s5D _ _ e),by simp only [D.dep];omega,_,rfl,iteTe dself ?_⟩
     have JD:=J5.same s5D
     refine⟨_,rfl,j,CJ,dx,_,rfl,s5D _ _ hj,rfl,rfl,j,dx,tk,_,ps,rfl,s5D _ _ hj,rfl,JD.tk_,fun x hx=>⟨JD.pk x hx,(JD.gd x hx).1.1⟩,by omega,fun HE sE=>?_⟩
     refine⟨_,rfl,rfl,?_⟩
     rw [eqp]
     show Q (.bl (decide (V.int (dpt (ps.map (·.1)))=V.int (dpt (ps.map (·.1)))))) HE
     rw [decide_eq_true rfl]
     exact k HE
end
end KJ
namespace KJ
open PySem PyProof.Rows L2
theorem knS {us:List Value} {n:Nat} {P:List Value->Prop} (h:us.length=n+1) (k:∀a t,t.length=n->P (a::t)):P us:=by
 cases us with
 |nil=>cases h
 |cons a t=>exact k a t (Nat.succ.inj h)
theorem kn1 {us:List Value} {P:List Value->Prop} (h:us.length=1) (k:∀a,P [a]):P us:=knS h fun a t ht=>by cases t with|nil=>exact k a|cons=>cases ht
theorem kn2 {us:List Value} {P:List Value->Prop} (h:us.length=2) (k:∀a b,P [a,b]):P us:=knS h fun a t ht=>kn1 (P:=fun t=>P (a::t)) ht fun b=>k a b
theorem kn3 {us:List Value} {P:List Value->Prop} (h:us.length=3) (k:∀a b c,P [a,b,c]):P us:=knS h fun a t ht=>kn2 (P:=fun t=>P (a::t)) ht fun b c=>k a b c
theorem kn4 {us:List Value} {P:List Value->Prop} (h:us.length=4) (k:∀a b c d,P [a,b,c,d]):P us:=knS h fun a t ht=>kn3 (P:=fun t=>P (a::t)) ht fun b c d=>k a b c d
theorem kn5 {us:List Value} {P:List Value->Prop} (h:us.length=5) (k:∀a b c d e,P [a,b,c,d,e]):P us:=knS h fun a t ht=>kn4 (P:=fun t=>P (a::t)) ht fun b c d e=>k a b c d e
theorem kn6 {us:List Value} {P:List Value->Prop} (h:us.length=6) (k:∀a b c d e f,P [a,b,c,d,e,f]):P us:=knS h fun a t ht=>kn5 (P:=fun t=>P (a::t)) ht fun b c d e f=>k a b c d e f
theorem kb1 {fd:FuncData} {ps:List Str} {us:List Value} (h:us.length=1) (k:∀a,bindArgs fd ⟨[a],[]⟩=pure (ps.zip [a])):bindArgs fd ⟨us,[]⟩=pure (ps.zip us):=kn1 (P:=fun us=>bindArgs fd ⟨us,[]⟩=pure (ps.zip us)) h k
theorem kb2 {fd:FuncData} {ps:List Str} {us:List Value} (h:us.length=2) (k:∀a b,bindArgs fd ⟨[a,b],[]⟩=pure (ps.zip [a,b])):bindArgs fd ⟨us,[]⟩=pure (ps.zip us):=kn2 (P:=fun us=>bindArgs fd ⟨us,[]⟩=pure (ps.zip us)) h k
theorem kb3 {fd:FuncData} {ps:List Str} {us:List Value} (h:us.length=3) (k:∀a b c,bindArgs fd ⟨[a,b,c],[]⟩=pure (ps.zip [a,b,c])):bindArgs fd ⟨us,[]⟩=pure (ps.zip us):=kn3 (P:=fun us=>bindArgs fd ⟨us,[]⟩=pure (ps.zip us)) h k
theorem kb4 {fd:FuncData} {ps:List Str} {us:List Value} (h:us.length=4) (k:∀a b c d,bindArgs fd ⟨[a,b,c,d],[]⟩=pure (ps.zip [a,b,c,d])):bindArgs fd ⟨us,[]⟩=pure (ps.zip us):=kn4 (P:=fun us=>bindArgs fd ⟨us,[]⟩=pure (ps.zip us)) h k
theorem kb6 {fd:FuncData} {ps:List Str} {us:List Value} (h:us.length=6) (k:∀a b c d e f,bindArgs fd ⟨[a,b,c,d,e,f],[]⟩=pure (ps.zip [a,b,c,d,e,f])):bindArgs fd ⟨us,[]⟩=pure (ps.zip us):=kn6 (P:=fun us=>bindArgs fd ⟨us,[]⟩=pure (ps.zip us)) h k
theorem no_names {N:Cn} (m:Str) (hm:∀x∈(["value","back","steps","one","by","test","other"]:List Str),(m==x)=false):∀(t:Tm) (fs:List (Str×V)) (H:Hp),FldAt N H fs t->fs.lookup m=none:=by
 have g:∀{fs:List (Str×V)},(∀p∈fs,(m==p.1)=false)->fs.lookup m=none:=fun{fs}=>by
  induction fs with
  |nil=>intro _;rfl
  |cons p l ih=>
   intro h
   rw [List.lookup_cons,h p List.mem_cons_self]
   exact ih fun q hq=>h q (List.mem_cons_of_mem _ hq)
 intro t fs H h
 cases t with
 |num n=>
  subst h
  exact g fun p hp=>by rw [List.mem_singleton.mp hp];exact hm _ (by simp)
 |take b ss=>
  obtain⟨q,rfl,_⟩:=h
  refine g fun p hp=>hm _ ?_
  simp only [List.mem_cons,List.not_mem_nil,or_false]at hp
  rcases hp with rfl|rfl<;>simp
 |rest a y=>
  obtain⟨_,_,_,rfl,_⟩:=h
  refine g fun p hp=>hm _ ?_
  simp only [List.mem_cons,List.not_mem_nil,or_false]at hp
  rcases hp with rfl|rfl<;>simp
 |cho a b c=>
  obtain⟨_,_,_,_,_,_,_,_,_,rfl,_⟩:=h
  refine g fun p hp=>hm _ ?_
  simp only [List.mem_cons,List.not_mem_nil,or_false]at hp
  rcases hp with rfl|rfl|rfl<;>simp
 |bin k a b=>
  obtain⟨_,_,_,_,_,_,rfl,_⟩:=h
  refine g fun p hp=>hm _ ?_
  simp only [List.mem_cons,List.not_mem_nil,or_false]at hp
  rcases hp with rfl|rfl<;>simp
section
variable {P:Program} {w:World} {K:W.Frag} {mg:Str->Option Value} {base:Heap} {N:Cn}
theorem dis_inner {f1 f2 f3 f4:Addr} {g1 g2 g3 g4:FuncData} (nd:(clsL N).Nodup) (F1:Fun K "inner" "Term.inner" sTInner f1 g1) (F2:Fun K "inner" "Paired.inner" sPInner f2 g2) (F3:Fun K "inner" "Rest.inner" sRInner f3 g3) (F4:Fun K "inner" "Chosen.inner" sCInner f4 g4)
  (b1:Binds K g1 ["self"] []) (b2:Binds K g2 ["self"] []) (b3:Binds K g3 ["self"] []) (b4:Binds K g4 ["self"] [])
  (c1:Cf K N.num ["value"]) (c2:Cf K N.take ["back","steps"]) (c3:Cf K N.rest ["one","by"]) (c4:Cf K N.cho ["test","one","other"]) (c5:∀k,Cf K (N.bin k) ["one","other"])
  (m1:Meth K N.num "inner" f1) (m2:Meth K N.take "inner" f1) (m3:Meth K N.rest "inner" f3) (m4:Meth K N.cho "inner" f4) (m5:∀k,Meth K (N.bin k) "inner" f2):Dis P w K mg base CX0 1 (IsC N) "inner" ["self"] (spInner N):=by
 refine⟨fun C hC=>?_⟩
 rcases hC with rfl|rfl|rfl|rfl|⟨k,rfl⟩
 ·exact⟨c1.cl,f1,g1,m1,ok_tinner F1 fun t h=>(is_num nd h).1,b1⟩
 ·exact⟨c2.cl,f1,g1,m2,ok_tinner F1 (fun t h=>by obtain⟨b,ss,rfl⟩:=is_take nd h;rfl),b1⟩
 ·exact⟨c3.cl,f3,g3,m3,ok_rinner F3 c3 fun t h=>is_rest nd h,b3⟩
 ·exact⟨c4.cl,f4,g4,m4,ok_cinner F4 c4 fun t h=>is_cho nd h,b4⟩
 ·exact⟨(c5 k).cl,f2,g2,m5 k,ok_pinner F2 (c5 k) fun t h=>is_bin nd h,b2⟩
theorem dis_takes {f1 f2:Addr} {g1 g2:FuncData} (nd:(clsL N).Nodup) (F1:Fun K "takes" "Term.takes" sTTakes f1 g1) (F2:Fun K "takes" "Take.takes" sKTakes f2 g2) (b1:Binds K g1 ["self"] []) (b2:Binds K g2 ["self"] []) (cl:∀C,IsC N C->Cls K C) (c2:Cf K N.take ["back","steps"])
  (m1:∀C,IsC N C->C≠N.take->Meth K C "takes" f1) (m2:Meth K N.take "takes" f2) (D_inner:Dis P w K mg base CX0 1 (IsC N) "inner" ["self"] (spInner N)) (T:Txt K mg) (nT:∀(t:Tm) (fs:List (Str×V)) H,FldAt N H fs t->fs.lookup ("takes":Str)=none/\fs.lookup ("inner":Str)=none):
  ∀d,Dis P w K mg base CX0 (d+1) (IsC N) "takes" ["self"] (spTakes N d)
 |0=>⟨fun C hC=>⟨cl C hC,by
   have no:∀vs H Q E,¬spTakes N 0 C vs H Q E:=fun vs H Q E ⟨_,_,_,t,_,_,_,_,h,_⟩=>absurd (ht_pos t) (by omega)
   by_cases e:C=N.take
   ·subst e
    exact⟨f2,g2,m2,fn_none no,b2⟩
   ·exact⟨f1,g1,m1 C hC e,fn_none no,b1⟩⟩⟩
 |d+1=>⟨fun C hC=>⟨cl C hC,by
   by_cases e:C=N.take
   ·subst e
    exact⟨f2,g2,m2,ok_ktakes F2 c2 fun t h=>is_take nd h,b2⟩
   ·exact⟨f1,g1,m1 C hC e,ok_ttakes F1 D_inner (dis_takes nd F1 F2 b1 b2 cl c2 m1 m2 D_inner T nT d) T (fun t h b ss z=>e (by rw [<-h,z];rfl)) nT,b1⟩⟩⟩
theorem dis_depth {f1:Addr} {g1:FuncData} (F1:Fun K "depth" "Term.depth" sTDepth f1 g1) (b1:Binds K g1 ["self"] []) (cl:∀C,IsC N C->Cls K C) (m1:∀C,IsC N C->Meth K C "depth" f1) (D_inner:Dis P w K mg base CX0 1 (IsC N) "inner" ["self"] (spInner N)) (T:Txt K mg)
  (nI:∀(t:Tm) (fs:List (Str×V)) H,FldAt N H fs t->fs.lookup ("inner":Str)=none) (nD:∀(t:Tm) (fs:List (Str×V)) H,FldAt N H fs t->fs.lookup ("depth":Str)=none):∀d,Dis P w K mg base CX0 (d+1) (IsC N) "depth" ["self"] (spNum N ht d)
 |0=>⟨fun C hC=>⟨cl C hC,f1,g1,m1 C hC,fn_none (fun vs H Q E ⟨_,_,_,t,_,_,_,_,h,_⟩=>absurd (ht_pos t) (by omega)),b1⟩⟩
 |d+1=>⟨fun C hC=>⟨cl C hC,f1,g1,m1 C hC,ok_tdepth F1 D_inner (dis_depth F1 b1 cl m1 D_inner T nI nD d) T nI nD,b1⟩⟩
theorem dis_parts {f1:Addr} {g1:FuncData} (F1:Fun K "parts" "Term.parts" sTParts f1 g1) (b1:Binds K g1 ["self"] []) (cl:∀C,IsC N C->Cls K C) (m1:∀C,IsC N C->Meth K C "parts" f1) (D_inner:Dis P w K mg base CX0 1 (IsC N) "inner" ["self"] (spInner N)) (T:Txt K mg)
  (nI:∀(t:Tm) (fs:List (Str×V)) H,FldAt N H fs t->fs.lookup ("inner":Str)=none) (nD:∀(t:Tm) (fs:List (Str×V)) H,FldAt N H fs t->fs.lookup ("parts":Str)=none):∀d,d<=4->Dis P w K mg base CX0 (d+1) (IsC N) "parts" ["self"] (spNum N prts d)
 |0,_=>⟨fun C hC=>⟨cl C hC,f1,g1,m1 C hC,fn_none (fun vs H Q E ⟨_,_,_,t,_,_,_,_,h,_⟩=>absurd (ht_pos t) (by omega)),b1⟩⟩
 |d+1,hd=>⟨fun C hC=>⟨cl C hC,f1,g1,m1 C hC,ok_tparts F1 D_inner (dis_parts F1 b1 cl m1 D_inner T nI nD d (by omega)) T nI nD (prts_small (by omega)),b1⟩⟩
theorem cal_told {f:Addr} {fd:FuncData} (F:Fun K "_law_told" "_law_told" sTold f fd) (m:mg "_law_told"=some (.ref f)) (k:PySem.W.keepIn K (.ref f)=true) (b:Binds K fd ["_law_well_here","_law_some","_law_deep"] []) (c_draw:Cal P w K mg base CX0 1 "_law_draw" ["_law_well_here","_law_most"] spDraw) (c_number:Cal P w K mg base CX0 2 "_law_number" ["_law_well_here"] spNumber) (T:Txt K mg):
  ∀d,Cal P w K mg base CX0 (d+2) "_law_told" ["_law_well_here","_law_some","_law_deep"] (spTold d)
 |0=>⟨_,_,fn_none (fun vs H Q E ⟨_,_,_,e,_,_,_,_,h,_⟩=>absurd h (by omega)),m,k,b⟩
 |d+1=>⟨_,_,ok_told F c_draw c_number (cal_told F m k b c_draw c_number T d) T,m,k,b⟩
theorem cal_made {f:Addr} {fd:FuncData} (F:Fun K "_law_made" "_law_made" sMade f fd) (m:mg "_law_made"=some (.ref f)) (k:PySem.W.keepIn K (.ref f)=true) (b:Binds K fd ["_law_told_here"] [])
  (st:∀d,Cal P w K mg base CX0 (d+2) "_law_made" ["_law_told_here"] (spMade N d)->FnOk P w K mg base CX0 (d+3) f fd ["_law_told_here"] (spMade N (d+1))):∀d,Cal P w K mg base CX0 (d+2) "_law_made" ["_law_told_here"] (spMade N d)
 |0=>⟨_,_,fn_none (fun vs H Q E ⟨_,t,_,_,h,_⟩=>absurd (ht_pos t) (by omega)),m,k,b⟩
 |d+1=>⟨_,_,st d (cal_made F m k b st d),m,k,b⟩
theorem cal_takes {f:Addr} {fd:FuncData} (F:Fun K "_law_takes" "_law_takes" sTakes f fd) (m:mg "_law_takes"=some (.ref f)) (k:PySem.W.keepIn K (.ref f)=true) (b:Binds K fd ["_law_told_here"] []) (T:Txt K mg):∀d,Cal P w K mg base CX0 (d+1) "_law_takes" ["_law_told_here"] (spLTk d)
 |0=>⟨_,_,fn_none (fun vs H Q E ⟨_,t,_,_,h,_⟩=>absurd (ht_pos t) (by omega)),m,k,b⟩
 |d+1=>⟨_,_,ok_takes F (cal_takes F m k b T d) T,m,k,b⟩
theorem cal_ff {f:Addr} {fd:FuncData} (F:Fun K "first_fault" "first_fault" sFirst f fd) (m:mg "first_fault"=some (.ref f)) (k:PySem.W.keepIn K (.ref f)=true) (b:Binds K fd ["term"] []) (D_inner:Dis P w K mg base CX0 1 (IsC N) "inner" ["self"] (spInner N)) (D_fault:Dis P w K mg base CX0 4 (IsC N) "own_fault" ["self"] (spFault N))
  (nI:∀(t:Tm) (fs:List (Str×V)) H,FldAt N H fs t->fs.lookup ("inner":Str)=none) (nF:∀(t:Tm) (fs:List (Str×V)) H,FldAt N H fs t->fs.lookup ("own_fault":Str)=none):∀d,Cal P w K mg base CX0 (d+4) "first_fault" ["term"] (spFF N d)
 |0=>⟨_,_,fn_none (fun vs H Q E ⟨_,_,_,t,_,_,_,h,_⟩=>absurd (ht_pos t) (by omega)),m,k,b⟩
 |d+1=>⟨_,_,ok_ff F (cal_ff F m k b D_inner D_fault nI nF d) D_inner D_fault nI nF,m,k,b⟩
theorem is_num' {N:Cn} (nd:(clsL N).Nodup) {t:Tm} (h:cls N t=N.num):∃n,t= .num n:=by
 have:=tag_of nd (u:= .num 0) h
 cases t<;>simp [tag]at this<;>first|exact⟨_,rfl⟩|omega
theorem dis_fault {f1 f2 f3 f4:Addr} {g1 g2 g3 g4:FuncData} (nd:(clsL N).Nodup) (F1:Fun K "own_fault" "Term.own_fault" sTFault f1 g1) (F2:Fun K "own_fault" "Number.own_fault" sNFault f2 g2) (F3:Fun K "own_fault" "Take.own_fault" sKFault f3 g3) (F4:Fun K "own_fault" "Rest.own_fault" sRFault f4 g4)
  (b1:Binds K g1 ["self"] []) (b2:Binds K g2 ["self"] []) (b3:Binds K g3 ["self"] []) (b4:Binds K g4 ["self"] [])
  (c1:Cf K N.num ["value"]) (c2:Cf K N.take ["back","steps"]) (c3:Cf K N.rest ["one","by"]) (c4:Cf K N.cho ["test","one","other"]) (c5:∀k,Cf K (N.bin k) ["one","other"])
  (c_within:Cal P w K mg base CX0 2 "is_within" PW3 KG.spWithin) (c_areSteps:Cal P w K mg base CX0 3 "are_steps" ["thing"] spAreSteps) (T:Txt K mg)
  (m1:Meth K N.num "own_fault" f2) (m2:Meth K N.take "own_fault" f3) (m3:Meth K N.rest "own_fault" f4) (m4:Meth K N.cho "own_fault" f1) (m5:∀k,Meth K (N.bin k) "own_fault" f1):Dis P w K mg base CX0 4 (IsC N) "own_fault" ["self"] (spFault N):=by
 refine⟨fun C hC=>?_⟩
 rcases hC with rfl|rfl|rfl|rfl|⟨k,rfl⟩
 ·exact⟨c1.cl,f2,g2,m1,(ok_nfault F2 c1 (fun t h=>is_num' nd h) c_within T).mono (by decide),b2⟩
 ·exact⟨c2.cl,f3,g3,m2,ok_kfault F3 c2 (fun t h=>is_take nd h) c_within c_areSteps T,b3⟩
 ·exact⟨c3.cl,f4,g4,m3,(ok_rfault F4 c3 (fun t h=>is_rest nd h) c_within T).mono (by decide),b4⟩
 ·exact⟨c4.cl,f1,g1,m4,(ok_tfault F1).mono (by decide),b1⟩
 ·exact⟨(c5 k).cl,f1,g1,m5 k,(ok_tfault F1).mono (by decide),b1⟩
end
end KJ
namespace KJ
open PySem PyProof.Rows L2 G3
theorem all_mk {l:W.OpenLaw} {w:World} {K:W.Frag} {h:Heap} {mg:Str->Option Value} {fa Cnum Ctake Crest Ccho Cb0 Cb1 Cb2 Cb3 Cb4 CG CJ f10 f11 f12 f13 f14 f15 f16 f17 f18 f19 f20 f21 f22 f23 f24 f25 f26 f27 f28 f29 f30 f31 f32 f33 f34 f35 f36 f37 f38 f39 f40 f41 f42 f43 f44 f45 f46 f47 f48 f49 f50 f51 f52 f53 f54 f55 f56 f57 f58 f59 f60 f61 f62 f63 f64 f65:Addr} (X:K.In h) (G:h.Ns mainGlobals mg) (hfa:mg "law"=some (.ref fa))
  {p10 s10 p11 s11 p12 s12 p13 s13 p14 s14 p15 s15 p16 s16 p17 s17 p18 s18 p19 s19 p20 s20 p21 s21 p22 s22 p23 s23 p24 s24 p25 s25 p26 s26 p27 s27 p28 s28 p29 s29 p30 s30 p31 s31 p32 s32 p33 s33 p34 s34 p35 s35 p36 s36 p37 s37 p38 s38 p39 s39 p40 s40 p41 s41 p42 s42 p43 s43 p44 s44 p45 s45 p46 s46 p47 s47 p48 s48 p49 s49 p50 s50 p51 s51 p52 s52 p53 s53 p54 s54 p55 s55 p56 s56 p57 s57 p58 s58 p59 s59 p60 s60 p61 s61 p62 s62 p63 s63 p64 s64 p65 s65:Option Addr} {x10 x11 x12 x13 x14 x15 x16 x17 x18 x19 x20 x21 x22 x23 x24 x25 x26 x27 x28 x29 x30 x31 x32 x33 x34 x35 x36 x37 x38 x39 x40 x41 x42 x43 x44 x45 x46 x47 x48 x49 x50 x51 x52 x53 x54 x55 x56 x57 x58 x59 x60 x61 x62 x63 x64 x65:Array (Option Value)} {o10 q10 d10 r10 u10 v10 o11 q11 d11 r11 u11 v11 o12 q12 d12 r12 u12 v12 o13 q13 d13 r13 u13 v13 o14 q14 d14 r14 u14 v14 o15 q15 d15 r15 u15 v15 o16 q16 d16 r16 u16 v16 o17 q17 d17 r17 u17 v17 o18 q18 d18 r18 u18 v18 o19 q19 d19 r19 u19 v19 o20 q20 d20 r20 u20 v20 o21 q21 d21 r21 u21 v21 o22 q22 d22 r22 u22 v22 o23 q23 d23 r23 u23 v23 o24 q24 d24 r24 u24 v24 o25 q25 d25 r25 u25 v25 o26 q26 d26 r26 u26 v26 o27 q27 d27 r27 u27 v27 o28 q28 d28 r28 u28 v28 o29 q29 d29 r29 u29 v29 o30 q30 d30 r30 u30 v30 o31 q31 d31 r31 u31 v31 o32 q32 d32 r32 u32 v32 o33 q33 d33 r33 u33 v33 o34 q34 d34 r34 u34 v34 o35 q35 d35 r35 u35 v35 o36 q36 d36 r36 u36 v36 o37 q37 d37 r37 u37 v37 o38 q38 d38 r38 u38 v38 o39 q39 d39 r39 u39 v39 o40 q40 d40 r40 u40 v40 o41 q41 d41 r41 u41 v41 o42 q42 d42 r42 u42 v42 o43 q43 d43 r43 u43 v43 o44 q44 d44 r44 u44 v44 o45 q45 d45 r45 u45 v45 o46 q46 d46 r46 u46 v46 o47 q47 d47 r47 u47 v47 o48 q48 d48 r48 u48 v48 o49 q49 d49 r49 u49 v49 o50 q50 d50 r50 u50 v50 o51 q51 d51 r51 u51 v51 o52 q52 d52 r52 u52 v52 o53 q53 d53 r53 u53 v53 o54 q54 d54 r54 u54 v54 o55 q55 d55 r55 u55 v55 o56 q56 d56 r56 u56 v56 o57 q57 d57 r57 u57 v57 o58 q58 d58 r58 u58 v58 o59 q59 d59 r59 u59 v59 o60 q60 d60 r60 u60 v60 o61 q61 d61 r61 u61 v61 o62 q62 d62 r62 u62 v62 o63 q63 d63 r63 u63 v63 o64 q64 d64 r64 u64 v64 o65 q65 d65 r65 u65 v65:Value} {t_gn t_gd t_gb t_gst t_mst t_mdp t_mpa t_mtk t_gmo t_mro t_msp t_gf t_ml t_gs t_mp:Tok}
  (aCnum:W.nsIn K mainGlobals "Number"=some (some (.ref Cnum)))
  (aCtake:W.nsIn K mainGlobals "Take"=some (some (.ref Ctake)))
  (aCrest:W.nsIn K mainGlobals "Rest"=some (some (.ref Crest)))
  (aCcho:W.nsIn K mainGlobals "Chosen"=some (some (.ref Ccho)))
  (aCb0:W.nsIn K mainGlobals "Added"=some (some (.ref Cb0)))
  (aCb1:W.nsIn K mainGlobals "Lessened"=some (some (.ref Cb1)))
  (aCb2:W.nsIn K mainGlobals "Multiplied"=some (some (.ref Cb2)))
  (aCb3:W.nsIn K mainGlobals "Least"=some (some (.ref Cb3)))
  (aCb4:W.nsIn K mainGlobals "Most"=some (some (.ref Cb4)))
  (aCG:W.nsIn K mainGlobals "Grid"=some (some (.ref CG)))
  (aCJ:W.nsIn K mainGlobals "Job"=some (some (.ref CJ)))
  (a10:W.nsIn K mainGlobals "is_whole"=some (some (.ref f10)))
  (l10:K.lookup f10=some ⟨o10,p10,.func (W.fnOf "is_whole" "is_whole" (defArgs sWhole) (defBody sWhole) (defScope sWhole) .none q10 d10 r10 s10 u10 v10),x10⟩)
  (c10:W.codeIn K u10 "is_whole"=true)
  (k10:W.keepIn K (.ref f10)=true)
  (a11:W.nsIn K mainGlobals "is_within"=some (some (.ref f11)))
  (l11:K.lookup f11=some ⟨o11,p11,.func (W.fnOf "is_within" "is_within" (defArgs sWithin) (defBody sWithin) (defScope sWithin) .none q11 d11 r11 s11 u11 v11),x11⟩)
  (c11:W.codeIn K u11 "is_within"=true)
  (k11:W.keepIn K (.ref f11)=true)
  (a12:W.nsIn K mainGlobals "is_rim"=some (some (.ref f12)))
  (l12:K.lookup f12=some ⟨o12,p12,.func (W.fnOf "is_rim" "is_rim" (defArgs KG.sIsRim) (defBody KG.sIsRim) (defScope KG.sIsRim) .none q12 d12 r12 s12 u12 v12),x12⟩)
  (c12:W.codeIn K u12 "is_rim"=true)
  (k12:W.keepIn K (.ref f12)=true)
  (a13:W.nsIn K mainGlobals "check_lines"=some (some (.ref f13)))
  (l13:K.lookup f13=some ⟨o13,p13,.func (W.fnOf "check_lines" "check_lines" (defArgs KG.sCheck) (defBody KG.sCheck) (defScope KG.sCheck) .none q13 d13 r13 s13 u13 v13),x13⟩)
  (c13:W.codeIn K u13 "check_lines"=true)
  (k13:W.keepIn K (.ref f13)=true)
  (a14:W.nsIn K mainGlobals "product"=some (some (.ref f14)))
  (l14:K.lookup f14=some ⟨o14,p14,.func (W.fnOf "product" "product" (defArgs KG.sProd) (defBody KG.sProd) (defScope KG.sProd) .none q14 d14 r14 s14 u14 v14),x14⟩)
  (c14:W.codeIn K u14 "product"=true)
  (k14:W.keepIn K (.ref f14)=true)
  (a15:W.nsIn K mainGlobals "with_line"=some (some (.ref f15)))
  (l15:K.lookup f15=some ⟨o15,p15,.func (W.fnOf "with_line" "with_line" (defArgs KG.sWl) (defBody KG.sWl) (defScope KG.sWl) .none q15 d15 r15 s15 u15 v15),x15⟩)
  (c15:W.codeIn K u15 "with_line"=true)
  (k15:W.keepIn K (.ref f15)=true)
  (a16:W.nsIn K mainGlobals "are_steps"=some (some (.ref f16)))
  (l16:K.lookup f16=some ⟨o16,p16,.func (W.fnOf "are_steps" "are_steps" (defArgs sAreSteps) (defBody sAreSteps) (defScope sAreSteps) .none q16 d16 r16 s16 u16 v16),x16⟩)
  (c16:W.codeIn K u16 "are_steps"=true)
  (k16:W.keepIn K (.ref f16)=true)
  (a17:W.nsIn K mainGlobals "lines_of"=some (some (.ref f17)))
  (l17:K.lookup f17=some ⟨o17,p17,.func (W.fnOf "lines_of" "lines_of" (defArgs sLinesOf) (defBody sLinesOf) (defScope sLinesOf) .none q17 d17 r17 s17 u17 v17),x17⟩)
  (c17:W.codeIn K u17 "lines_of"=true)
  (k17:W.keepIn K (.ref f17)=true)
  (a18:W.nsIn K mainGlobals "first_fault"=some (some (.ref f18)))
  (l18:K.lookup f18=some ⟨o18,p18,.func (W.fnOf "first_fault" "first_fault" (defArgs sFirst) (defBody sFirst) (defScope sFirst) .none q18 d18 r18 s18 u18 v18),x18⟩)
  (c18:W.codeIn K u18 "first_fault"=true)
  (k18:W.keepIn K (.ref f18)=true)
  (a19:W.nsIn K mainGlobals "check_term"=some (some (.ref f19)))
  (l19:K.lookup f19=some ⟨o19,p19,.func (W.fnOf "check_term" "check_term" (defArgs sCheckT) (defBody sCheckT) (defScope sCheckT) .none q19 d19 r19 s19 u19 v19),x19⟩)
  (c19:W.codeIn K u19 "check_term"=true)
  (k19:W.keepIn K (.ref f19)=true)
  (a20:W.nsIn K mainGlobals "are_rows"=some (some (.ref f20)))
  (l20:K.lookup f20=some ⟨o20,p20,.func (W.fnOf "are_rows" "are_rows" (defArgs sAreRows) (defBody sAreRows) (defScope sAreRows) .none q20 d20 r20 s20 u20 v20),x20⟩)
  (c20:W.codeIn K u20 "are_rows"=true)
  (k20:W.keepIn K (.ref f20)=true)
  (a21:W.nsIn K mainGlobals "is_row"=some (some (.ref f21)))
  (l21:K.lookup f21=some ⟨o21,p21,.func (W.fnOf "is_row" "is_row" (defArgs sIsRow) (defBody sIsRow) (defScope sIsRow) .none q21 d21 r21 s21 u21 v21),x21⟩)
  (c21:W.codeIn K u21 "is_row"=true)
  (k21:W.keepIn K (.ref f21)=true)
  (a22:W.nsIn K mainGlobals "_law_cell_at"=some (some (.ref f22)))
  (l22:K.lookup f22=some ⟨o22,p22,.func (W.fnOf "_law_cell_at" "_law_cell_at" (defArgs sCell) (defBody sCell) (defScope sCell) .none q22 d22 r22 s22 u22 v22),x22⟩)
  (c22:W.codeIn K u22 "_law_cell_at"=true)
  (k22:W.keepIn K (.ref f22)=true)
  (a23:W.nsIn K mainGlobals "_law_well"=some (some (.ref f23)))
  (l23:K.lookup f23=some ⟨o23,p23,.func (W.fnOf "_law_well" "_law_well" (defArgs sWell) (defBody sWell) (defScope sWell) .none q23 d23 r23 s23 u23 v23),x23⟩)
  (c23:W.codeIn K u23 "_law_well"=true)
  (k23:W.keepIn K (.ref f23)=true)
  (a24:W.nsIn K mainGlobals "_law_draw"=some (some (.ref f24)))
  (l24:K.lookup f24=some ⟨o24,p24,.func (W.fnOf "_law_draw" "_law_draw" (defArgs sDraw) (defBody sDraw) (defScope sDraw) .none q24 d24 r24 s24 u24 v24),x24⟩)
  (c24:W.codeIn K u24 "_law_draw"=true)
  (k24:W.keepIn K (.ref f24)=true)
  (a25:W.nsIn K mainGlobals "_law_sizes"=some (some (.ref f25)))
  (l25:K.lookup f25=some ⟨o25,p25,.func (W.fnOf "_law_sizes" "_law_sizes" (defArgs KG.sSizes) (defBody KG.sSizes) (defScope KG.sSizes) .none q25 d25 r25 s25 u25 v25),x25⟩)
  (c25:W.codeIn K u25 "_law_sizes"=true)
  (k25:W.keepIn K (.ref f25)=true)
  (a26:W.nsIn K mainGlobals "_law_rim"=some (some (.ref f26)))
  (l26:K.lookup f26=some ⟨o26,p26,.func (W.fnOf "_law_rim" "_law_rim" (defArgs KG.sRim) (defBody KG.sRim) (defScope KG.sRim) .none q26 d26 r26 s26 u26 v26),x26⟩)
  (c26:W.codeIn K u26 "_law_rim"=true)
  (k26:W.keepIn K (.ref f26)=true)
  (a27:W.nsIn K mainGlobals "_law_steps"=some (some (.ref f27)))
  (l27:K.lookup f27=some ⟨o27,p27,.func (W.fnOf "_law_steps" "_law_steps" (defArgs sSteps) (defBody sSteps) (defScope sSteps) .none q27 d27 r27 s27 u27 v27),x27⟩)
  (c27:W.codeIn K u27 "_law_steps"=true)
  (k27:W.keepIn K (.ref f27)=true)
  (a28:W.nsIn K mainGlobals "_law_some_takes"=some (some (.ref f28)))
  (l28:K.lookup f28=some ⟨o28,p28,.func (W.fnOf "_law_some_takes" "_law_some_takes" (defArgs sSome) (defBody sSome) (defScope sSome) .none q28 d28 r28 s28 u28 v28),x28⟩)
  (c28:W.codeIn K u28 "_law_some_takes"=true)
  (k28:W.keepIn K (.ref f28)=true)
  (a29:W.nsIn K mainGlobals "_law_number"=some (some (.ref f29)))
  (l29:K.lookup f29=some ⟨o29,p29,.func (W.fnOf "_law_number" "_law_number" (defArgs sNumber) (defBody sNumber) (defScope sNumber) .none q29 d29 r29 s29 u29 v29),x29⟩)
  (c29:W.codeIn K u29 "_law_number"=true)
  (k29:W.keepIn K (.ref f29)=true)
  (a30:W.nsIn K mainGlobals "_law_told"=some (some (.ref f30)))
  (l30:K.lookup f30=some ⟨o30,p30,.func (W.fnOf "_law_told" "_law_told" (defArgs sTold) (defBody sTold) (defScope sTold) .none q30 d30 r30 s30 u30 v30),x30⟩)
  (c30:W.codeIn K u30 "_law_told"=true)
  (k30:W.keepIn K (.ref f30)=true)
  (a31:W.nsIn K mainGlobals "_law_made"=some (some (.ref f31)))
  (l31:K.lookup f31=some ⟨o31,p31,.func (W.fnOf "_law_made" "_law_made" (defArgs sMade) (defBody sMade) (defScope sMade) .none q31 d31 r31 s31 u31 v31),x31⟩)
  (c31:W.codeIn K u31 "_law_made"=true)
  (k31:W.keepIn K (.ref f31)=true)
  (a32:W.nsIn K mainGlobals "_law_takes"=some (some (.ref f32)))
  (l32:K.lookup f32=some ⟨o32,p32,.func (W.fnOf "_law_takes" "_law_takes" (defArgs sTakes) (defBody sTakes) (defScope sTakes) .none q32 d32 r32 s32 u32 v32),x32⟩)
  (c32:W.codeIn K u32 "_law_takes"=true)
  (k32:W.keepIn K (.ref f32)=true)
  (a33:W.nsIn K mainGlobals "_law_job"=some (some (.ref f33)))
  (l33:K.lookup f33=some ⟨o33,p33,.func (W.fnOf "_law_job" "_law_job" (defArgs sJob) (defBody sJob) (defScope sJob) .none q33 d33 r33 s33 u33 v33),x33⟩)
  (c33:W.codeIn K u33 "_law_job"=true)
  (k33:W.keepIn K (.ref f33)=true)
  (a34:W.nsIn K mainGlobals "_law_job_of"=some (some (.ref f34)))
  (l34:K.lookup f34=some ⟨o34,p34,.func (W.fnOf "_law_job_of" "_law_job_of" (defArgs sJobOf) (defBody sJobOf) (defScope sJobOf) .none q34 d34 r34 s34 u34 v34),x34⟩)
  (c34:W.codeIn K u34 "_law_job_of"=true)
  (k34:W.keepIn K (.ref f34)=true)
  (a35:W.nsIn K mainGlobals "_law_places"=some (some (.ref f35)))
  (l35:K.lookup f35=some ⟨o35,p35,.func (W.fnOf "_law_places" "_law_places" (defArgs sPlacesL) (defBody sPlacesL) (defScope sPlacesL) .none q35 d35 r35 s35 u35 v35),x35⟩)
  (c35:W.codeIn K u35 "_law_places"=true)
  (k35:W.keepIn K (.ref f35)=true)
  (a36:W.nsIn K mainGlobals "_law_things"=some (some (.ref f36)))
  (l36:K.lookup f36=some ⟨o36,p36,.func (W.fnOf "_law_things" "_law_things" (defArgs sThings) (defBody sThings) (defScope sThings) .none q36 d36 r36 s36 u36 v36),x36⟩)
  (c36:W.codeIn K u36 "_law_things"=true)
  (k36:W.keepIn K (.ref f36)=true)
  (a37:W.nsIn K mainGlobals "_law_whole"=some (some (.ref f37)))
  (l37:K.lookup f37=some ⟨o37,p37,.func (W.fnOf "_law_whole" "_law_whole" (defArgs sWholeL) (defBody sWholeL) (defScope sWholeL) .none q37 d37 r37 s37 u37 v37),x37⟩)
  (c37:W.codeIn K u37 "_law_whole"=true)
  (k37:W.keepIn K (.ref f37)=true)
  (a38:W.nsIn K mainGlobals "_law_is_spot"=some (some (.ref f38)))
  (l38:K.lookup f38=some ⟨o38,p38,.func (W.fnOf "_law_is_spot" "_law_is_spot" (defArgs sIsSpotL) (defBody sIsSpotL) (defScope sIsSpotL) .none q38 d38 r38 s38 u38 v38),x38⟩)
  (c38:W.codeIn K u38 "_law_is_spot"=true)
  (k38:W.keepIn K (.ref f38)=true)
  (a39:W.nsIn K mainGlobals "law"=some (some (.ref f39)))
  (l39:K.lookup f39=some ⟨o39,p39,.func (W.fnOf "law" "law" (defArgs sLaw) (defBody sLaw) (defScope sLaw) .none q39 d39 r39 s39 u39 v39),x39⟩)
  (c39:W.codeIn K u39 "law"=true)
  (k39:W.keepIn K (.ref f39)=true)
  (a40:W.findIn K (.ref Cnum) "inner"=some (some (.ref f40)))
  (i40:W.isFn K (.ref f40)=true)
  (l40:K.lookup f40=some ⟨o40,p40,.func (W.fnOf "inner" "Term.inner" (defArgs sTInner) (defBody sTInner) (defScope sTInner) .none q40 d40 r40 s40 u40 v40),x40⟩)
  (c40:W.codeIn K u40 "Term.inner"=true)
  (k40:W.keepIn K (.ref f40)=true)
  (a41:W.findIn K (.ref Cnum) "takes"=some (some (.ref f41)))
  (i41:W.isFn K (.ref f41)=true)
  (l41:K.lookup f41=some ⟨o41,p41,.func (W.fnOf "takes" "Term.takes" (defArgs sTTakes) (defBody sTTakes) (defScope sTTakes) .none q41 d41 r41 s41 u41 v41),x41⟩)
  (c41:W.codeIn K u41 "Term.takes"=true)
  (k41:W.keepIn K (.ref f41)=true)
  (a42:W.findIn K (.ref Cnum) "depth"=some (some (.ref f42)))
  (i42:W.isFn K (.ref f42)=true)
  (l42:K.lookup f42=some ⟨o42,p42,.func (W.fnOf "depth" "Term.depth" (defArgs sTDepth) (defBody sTDepth) (defScope sTDepth) .none q42 d42 r42 s42 u42 v42),x42⟩)
  (c42:W.codeIn K u42 "Term.depth"=true)
  (k42:W.keepIn K (.ref f42)=true)
  (a43:W.findIn K (.ref Cnum) "parts"=some (some (.ref f43)))
  (i43:W.isFn K (.ref f43)=true)
  (l43:K.lookup f43=some ⟨o43,p43,.func (W.fnOf "parts" "Term.parts" (defArgs sTParts) (defBody sTParts) (defScope sTParts) .none q43 d43 r43 s43 u43 v43),x43⟩)
  (c43:W.codeIn K u43 "Term.parts"=true)
  (k43:W.keepIn K (.ref f43)=true)
  (a44:W.findIn K (.ref Ccho) "own_fault"=some (some (.ref f44)))
  (i44:W.isFn K (.ref f44)=true)
  (l44:K.lookup f44=some ⟨o44,p44,.func (W.fnOf "own_fault" "Term.own_fault" (defArgs sTFault) (defBody sTFault) (defScope sTFault) .none q44 d44 r44 s44 u44 v44),x44⟩)
  (c44:W.codeIn K u44 "Term.own_fault"=true)
  (k44:W.keepIn K (.ref f44)=true)
  (a45:W.findIn K (.ref Cnum) "__init__"=some (some (.ref f45)))
  (i45:W.isFn K (.ref f45)=true)
  (l45:K.lookup f45=some ⟨o45,p45,.func (W.fnOf "__init__" "Number.__init__" (defArgs sNInit) (defBody sNInit) (defScope sNInit) .none q45 d45 r45 s45 u45 v45),x45⟩)
  (c45:W.codeIn K u45 "Number.__init__"=true)
  (k45:W.keepIn K (.ref f45)=true)
  (a46:W.findIn K (.ref Cnum) "own_fault"=some (some (.ref f46)))
  (i46:W.isFn K (.ref f46)=true)
  (l46:K.lookup f46=some ⟨o46,p46,.func (W.fnOf "own_fault" "Number.own_fault" (defArgs sNFault) (defBody sNFault) (defScope sNFault) .none q46 d46 r46 s46 u46 v46),x46⟩)
  (c46:W.codeIn K u46 "Number.own_fault"=true)
  (k46:W.keepIn K (.ref f46)=true)
  (a47:W.findIn K (.ref Ctake) "__init__"=some (some (.ref f47)))
  (i47:W.isFn K (.ref f47)=true)
  (l47:K.lookup f47=some ⟨o47,p47,.func (W.fnOf "__init__" "Take.__init__" (defArgs sKInit) (defBody sKInit) (defScope sKInit) .none q47 d47 r47 s47 u47 v47),x47⟩)
  (c47:W.codeIn K u47 "Take.__init__"=true)
  (k47:W.keepIn K (.ref f47)=true)
  (a48:W.findIn K (.ref Ctake) "takes"=some (some (.ref f48)))
  (i48:W.isFn K (.ref f48)=true)
  (l48:K.lookup f48=some ⟨o48,p48,.func (W.fnOf "takes" "Take.takes" (defArgs sKTakes) (defBody sKTakes) (defScope sKTakes) .none q48 d48 r48 s48 u48 v48),x48⟩)
  (c48:W.codeIn K u48 "Take.takes"=true)
  (k48:W.keepIn K (.ref f48)=true)
  (a49:W.findIn K (.ref Ctake) "own_fault"=some (some (.ref f49)))
  (i49:W.isFn K (.ref f49)=true)
  (l49:K.lookup f49=some ⟨o49,p49,.func (W.fnOf "own_fault" "Take.own_fault" (defArgs sKFault) (defBody sKFault) (defScope sKFault) .none q49 d49 r49 s49 u49 v49),x49⟩)
  (c49:W.codeIn K u49 "Take.own_fault"=true)
  (k49:W.keepIn K (.ref f49)=true)
  (a50:W.findIn K (.ref Cb0) "__init__"=some (some (.ref f50)))
  (i50:W.isFn K (.ref f50)=true)
  (l50:K.lookup f50=some ⟨o50,p50,.func (W.fnOf "__init__" "Paired.__init__" (defArgs sPInit) (defBody sPInit) (defScope sPInit) .none q50 d50 r50 s50 u50 v50),x50⟩)
  (c50:W.codeIn K u50 "Paired.__init__"=true)
  (k50:W.keepIn K (.ref f50)=true)
  (a51:W.findIn K (.ref Cb0) "inner"=some (some (.ref f51)))
  (i51:W.isFn K (.ref f51)=true)
  (l51:K.lookup f51=some ⟨o51,p51,.func (W.fnOf "inner" "Paired.inner" (defArgs sPInner) (defBody sPInner) (defScope sPInner) .none q51 d51 r51 s51 u51 v51),x51⟩)
  (c51:W.codeIn K u51 "Paired.inner"=true)
  (k51:W.keepIn K (.ref f51)=true)
  (a52:W.findIn K (.ref Crest) "__init__"=some (some (.ref f52)))
  (i52:W.isFn K (.ref f52)=true)
  (l52:K.lookup f52=some ⟨o52,p52,.func (W.fnOf "__init__" "Rest.__init__" (defArgs sRInit) (defBody sRInit) (defScope sRInit) .none q52 d52 r52 s52 u52 v52),x52⟩)
  (c52:W.codeIn K u52 "Rest.__init__"=true)
  (k52:W.keepIn K (.ref f52)=true)
  (a53:W.findIn K (.ref Crest) "inner"=some (some (.ref f53)))
  (i53:W.isFn K (.ref f53)=true)
  (l53:K.lookup f53=some ⟨o53,p53,.func (W.fnOf "inner" "Rest.inner" (defArgs sRInner) (defBody sRInner) (defScope sRInner) .none q53 d53 r53 s53 u53 v53),x53⟩)
  (c53:W.codeIn K u53 "Rest.inner"=true)
  (k53:W.keepIn K (.ref f53)=true)
  (a54:W.findIn K (.ref Crest) "own_fault"=some (some (.ref f54)))
  (i54:W.isFn K (.ref f54)=true)
  (l54:K.lookup f54=some ⟨o54,p54,.func (W.fnOf "own_fault" "Rest.own_fault" (defArgs sRFault) (defBody sRFault) (defScope sRFault) .none q54 d54 r54 s54 u54 v54),x54⟩)
  (c54:W.codeIn K u54 "Rest.own_fault"=true)
  (k54:W.keepIn K (.ref f54)=true)
  (a55:W.findIn K (.ref Ccho) "__init__"=some (some (.ref f55)))
  (i55:W.isFn K (.ref f55)=true)
  (l55:K.lookup f55=some ⟨o55,p55,.func (W.fnOf "__init__" "Chosen.__init__" (defArgs sCInit) (defBody sCInit) (defScope sCInit) .none q55 d55 r55 s55 u55 v55),x55⟩)
  (c55:W.codeIn K u55 "Chosen.__init__"=true)
  (k55:W.keepIn K (.ref f55)=true)
  (a56:W.findIn K (.ref Ccho) "inner"=some (some (.ref f56)))
  (i56:W.isFn K (.ref f56)=true)
  (l56:K.lookup f56=some ⟨o56,p56,.func (W.fnOf "inner" "Chosen.inner" (defArgs sCInner) (defBody sCInner) (defScope sCInner) .none q56 d56 r56 s56 u56 v56),x56⟩)
  (c56:W.codeIn K u56 "Chosen.inner"=true)
  (k56:W.keepIn K (.ref f56)=true)
  (a57:W.findIn K (.ref CG) "__init__"=some (some (.ref f57)))
  (i57:W.isFn K (.ref f57)=true)
  (l57:K.lookup f57=some ⟨o57,p57,.func (W.fnOf "__init__" "Grid.__init__" (defArgs KG.sInit) (defBody KG.sInit) (defScope KG.sInit) .none q57 d57 r57 s57 u57 v57),x57⟩)
  (c57:W.codeIn K u57 "Grid.__init__"=true)
  (k57:W.keepIn K (.ref f57)=true)
  (a58:W.findIn K (.ref CG) "lines"=some (some (.ref f58)))
  (i58:W.isFn K (.ref f58)=true)
  (l58:K.lookup f58=some ⟨o58,p58,.func (W.fnOf "lines" "Grid.lines" (defArgs KG.sLines) (defBody KG.sLines) (defScope KG.sLines) .none q58 d58 r58 s58 u58 v58),x58⟩)
  (c58:W.codeIn K u58 "Grid.lines"=true)
  (k58:W.keepIn K (.ref f58)=true)
  (a59:W.findIn K (.ref CG) "places_many"=some (some (.ref f59)))
  (i59:W.isFn K (.ref f59)=true)
  (l59:K.lookup f59=some ⟨o59,p59,.func (W.fnOf "places_many" "Grid.places_many" (defArgs KG.sMany) (defBody KG.sMany) (defScope KG.sMany) .none q59 d59 r59 s59 u59 v59),x59⟩)
  (c59:W.codeIn K u59 "Grid.places_many"=true)
  (k59:W.keepIn K (.ref f59)=true)
  (a60:W.findIn K (.ref CG) "all_places"=some (some (.ref f60)))
  (i60:W.isFn K (.ref f60)=true)
  (l60:K.lookup f60=some ⟨o60,p60,.func (W.fnOf "all_places" "Grid.all_places" (defArgs KG.sAll) (defBody KG.sAll) (defScope KG.sAll) .none q60 d60 r60 s60 u60 v60),x60⟩)
  (c60:W.codeIn K u60 "Grid.all_places"=true)
  (k60:W.keepIn K (.ref f60)=true)
  (a61:W.findIn K (.ref CG) "has_place"=some (some (.ref f61)))
  (i61:W.isFn K (.ref f61)=true)
  (l61:K.lookup f61=some ⟨o61,p61,.func (W.fnOf "has_place" "Grid.has_place" (defArgs KG.sHas) (defBody KG.sHas) (defScope KG.sHas) .none q61 d61 r61 s61 u61 v61),x61⟩)
  (c61:W.codeIn K u61 "Grid.has_place"=true)
  (k61:W.keepIn K (.ref f61)=true)
  (a62:W.findIn K (.ref CJ) "__init__"=some (some (.ref f62)))
  (i62:W.isFn K (.ref f62)=true)
  (l62:K.lookup f62=some ⟨o62,p62,.func (W.fnOf "__init__" "Job.__init__" (defArgs sJInit) (defBody sJInit) (defScope sJInit) .none q62 d62 r62 s62 u62 v62),x62⟩)
  (c62:W.codeIn K u62 "Job.__init__"=true)
  (k62:W.keepIn K (.ref f62)=true)
  (a63:W.findIn K (.ref CJ) "deep"=some (some (.ref f63)))
  (i63:W.isFn K (.ref f63)=true)
  (l63:K.lookup f63=some ⟨o63,p63,.func (W.fnOf "deep" "Job.deep" (defArgs sDeep) (defBody sDeep) (defScope sDeep) .none q63 d63 r63 s63 u63 v63),x63⟩)
  (c63:W.codeIn K u63 "Job.deep"=true)
  (k63:W.keepIn K (.ref f63)=true)
  (a64:W.findIn K (.ref CJ) "all_spots"=some (some (.ref f64)))
  (i64:W.isFn K (.ref f64)=true)
  (l64:K.lookup f64=some ⟨o64,p64,.func (W.fnOf "all_spots" "Job.all_spots" (defArgs sSpots) (defBody sSpots) (defScope sSpots) .none q64 d64 r64 s64 u64 v64),x64⟩)
  (c64:W.codeIn K u64 "Job.all_spots"=true)
  (k64:W.keepIn K (.ref f64)=true)
  (a65:W.findIn K (.ref CJ) "is_spot"=some (some (.ref f65)))
  (i65:W.isFn K (.ref f65)=true)
  (l65:K.lookup f65=some ⟨o65,p65,.func (W.fnOf "is_spot" "Job.is_spot" (defArgs sIsSpot) (defBody sIsSpot) (defScope sIsSpot) .none q65 d65 r65 s65 u65 v65),x65⟩)
  (c65:W.codeIn K u65 "Job.is_spot"=true)
  (k65:W.keepIn K (.ref f65)=true)
  (pgCnum:W.plainGet K Cnum Str.empty=true)
  (hdCnum:W.hasDictIn K Cnum=true)
  (poCnum:W.plainOver K Cnum=true)
  (saCnum:W.findIn K (.ref Cnum) "__setattr__"=some (some (.builtin "object.__setattr__")))
  (mkCnum:W.makesIn K Cnum=true)
  (kcCnum:W.keepIn K (.ref Cnum)=true)
  (n_value_Cnum:W.findIn K (.ref Cnum) "value"=some none)
  (pgCtake:W.plainGet K Ctake Str.empty=true)
  (hdCtake:W.hasDictIn K Ctake=true)
  (poCtake:W.plainOver K Ctake=true)
  (saCtake:W.findIn K (.ref Ctake) "__setattr__"=some (some (.builtin "object.__setattr__")))
  (mkCtake:W.makesIn K Ctake=true)
  (kcCtake:W.keepIn K (.ref Ctake)=true)
  (n_back_Ctake:W.findIn K (.ref Ctake) "back"=some none)
  (n_steps_Ctake:W.findIn K (.ref Ctake) "steps"=some none)
  (pgCrest:W.plainGet K Crest Str.empty=true)
  (hdCrest:W.hasDictIn K Crest=true)
  (poCrest:W.plainOver K Crest=true)
  (saCrest:W.findIn K (.ref Crest) "__setattr__"=some (some (.builtin "object.__setattr__")))
  (mkCrest:W.makesIn K Crest=true)
  (kcCrest:W.keepIn K (.ref Crest)=true)
  (n_one_Crest:W.findIn K (.ref Crest) "one"=some none)
  (n_by_Crest:W.findIn K (.ref Crest) "by"=some none)
  (pgCcho:W.plainGet K Ccho Str.empty=true)
  (hdCcho:W.hasDictIn K Ccho=true)
  (poCcho:W.plainOver K Ccho=true)
  (saCcho:W.findIn K (.ref Ccho) "__setattr__"=some (some (.builtin "object.__setattr__")))
  (mkCcho:W.makesIn K Ccho=true)
  (kcCcho:W.keepIn K (.ref Ccho)=true)
  (n_test_Ccho:W.findIn K (.ref Ccho) "test"=some none)
  (n_one_Ccho:W.findIn K (.ref Ccho) "one"=some none)
  (n_other_Ccho:W.findIn K (.ref Ccho) "other"=some none)
  (pgCb0:W.plainGet K Cb0 Str.empty=true)
  (hdCb0:W.hasDictIn K Cb0=true)
  (poCb0:W.plainOver K Cb0=true)
  (saCb0:W.findIn K (.ref Cb0) "__setattr__"=some (some (.builtin "object.__setattr__")))
  (mkCb0:W.makesIn K Cb0=true)
  (kcCb0:W.keepIn K (.ref Cb0)=true)
  (n_one_Cb0:W.findIn K (.ref Cb0) "one"=some none)
  (n_other_Cb0:W.findIn K (.ref Cb0) "other"=some none)
  (pgCb1:W.plainGet K Cb1 Str.empty=true)
  (hdCb1:W.hasDictIn K Cb1=true)
  (poCb1:W.plainOver K Cb1=true)
  (saCb1:W.findIn K (.ref Cb1) "__setattr__"=some (some (.builtin "object.__setattr__")))
  (mkCb1:W.makesIn K Cb1=true)
  (kcCb1:W.keepIn K (.ref Cb1)=true)
  (n_one_Cb1:W.findIn K (.ref Cb1) "one"=some none)
  (n_other_Cb1:W.findIn K (.ref Cb1) "other"=some none)
  (pgCb2:W.plainGet K Cb2 Str.empty=true)
  (hdCb2:W.hasDictIn K Cb2=true)
  (poCb2:W.plainOver K Cb2=true)
  (saCb2:W.findIn K (.ref Cb2) "__setattr__"=some (some (.builtin "object.__setattr__")))
  (mkCb2:W.makesIn K Cb2=true)
  (kcCb2:W.keepIn K (.ref Cb2)=true)
  (n_one_Cb2:W.findIn K (.ref Cb2) "one"=some none)
  (n_other_Cb2:W.findIn K (.ref Cb2) "other"=some none)
  (pgCb3:W.plainGet K Cb3 Str.empty=true)
  (hdCb3:W.hasDictIn K Cb3=true)
  (poCb3:W.plainOver K Cb3=true)
  (saCb3:W.findIn K (.ref Cb3) "__setattr__"=some (some (.builtin "object.__setattr__")))
  (mkCb3:W.makesIn K Cb3=true)
  (kcCb3:W.keepIn K (.ref Cb3)=true)
  (n_one_Cb3:W.findIn K (.ref Cb3) "one"=some none)
  (n_other_Cb3:W.findIn K (.ref Cb3) "other"=some none)
  (pgCb4:W.plainGet K Cb4 Str.empty=true)
  (hdCb4:W.hasDictIn K Cb4=true)
  (poCb4:W.plainOver K Cb4=true)
  (saCb4:W.findIn K (.ref Cb4) "__setattr__"=some (some (.builtin "object.__setattr__")))
  (mkCb4:W.makesIn K Cb4=true)
  (kcCb4:W.keepIn K (.ref Cb4)=true)
  (n_one_Cb4:W.findIn K (.ref Cb4) "one"=some none)
  (n_other_Cb4:W.findIn K (.ref Cb4) "other"=some none)
  (pgCG:W.plainGet K CG Str.empty=true)
  (hdCG:W.hasDictIn K CG=true)
  (poCG:W.plainOver K CG=true)
  (saCG:W.findIn K (.ref CG) "__setattr__"=some (some (.builtin "object.__setattr__")))
  (mkCG:W.makesIn K CG=true)
  (kcCG:W.keepIn K (.ref CG)=true)
  (n_sizes_CG:W.findIn K (.ref CG) "sizes"=some none)
  (n_rims_CG:W.findIn K (.ref CG) "rims"=some none)
  (pgCJ:W.plainGet K CJ Str.empty=true)
  (hdCJ:W.hasDictIn K CJ=true)
  (poCJ:W.plainOver K CJ=true)
  (saCJ:W.findIn K (.ref CJ) "__setattr__"=some (some (.builtin "object.__setattr__")))
  (mkCJ:W.makesIn K CJ=true)
  (kcCJ:W.keepIn K (.ref CJ)=true)
  (n_taken_CJ:W.findIn K (.ref CJ) "taken"=some none)
  (n_grid_CJ:W.findIn K (.ref CJ) "grid"=some none)
  (n_term_CJ:W.findIn K (.ref CJ) "term"=some none)
  (n_modulus_CJ:W.findIn K (.ref CJ) "modulus"=some none)
  (n_rounds_CJ:W.findIn K (.ref CJ) "rounds"=some none)
  (n_first_CJ:W.findIn K (.ref CJ) "first"=some none)
  (g_init_Cb1:W.findIn K (.ref Cb1) "__init__"=some (some (.ref f50)))
  (g_init_Cb2:W.findIn K (.ref Cb2) "__init__"=some (some (.ref f50)))
  (g_init_Cb3:W.findIn K (.ref Cb3) "__init__"=some (some (.ref f50)))
  (g_init_Cb4:W.findIn K (.ref Cb4) "__init__"=some (some (.ref f50)))
  (g_inner_Ctake:W.findIn K (.ref Ctake) "inner"=some (some (.ref f40)))
  (g_inner_Cb1:W.findIn K (.ref Cb1) "inner"=some (some (.ref f51)))
  (g_inner_Cb2:W.findIn K (.ref Cb2) "inner"=some (some (.ref f51)))
  (g_inner_Cb3:W.findIn K (.ref Cb3) "inner"=some (some (.ref f51)))
  (g_inner_Cb4:W.findIn K (.ref Cb4) "inner"=some (some (.ref f51)))
  (g_takes_Crest:W.findIn K (.ref Crest) "takes"=some (some (.ref f41)))
  (g_takes_Ccho:W.findIn K (.ref Ccho) "takes"=some (some (.ref f41)))
  (g_takes_Cb0:W.findIn K (.ref Cb0) "takes"=some (some (.ref f41)))
  (g_takes_Cb1:W.findIn K (.ref Cb1) "takes"=some (some (.ref f41)))
  (g_takes_Cb2:W.findIn K (.ref Cb2) "takes"=some (some (.ref f41)))
  (g_takes_Cb3:W.findIn K (.ref Cb3) "takes"=some (some (.ref f41)))
  (g_takes_Cb4:W.findIn K (.ref Cb4) "takes"=some (some (.ref f41)))
  (g_depth_Ctake:W.findIn K (.ref Ctake) "depth"=some (some (.ref f42)))
  (g_depth_Crest:W.findIn K (.ref Crest) "depth"=some (some (.ref f42)))
  (g_depth_Ccho:W.findIn K (.ref Ccho) "depth"=some (some (.ref f42)))
  (g_depth_Cb0:W.findIn K (.ref Cb0) "depth"=some (some (.ref f42)))
  (g_depth_Cb1:W.findIn K (.ref Cb1) "depth"=some (some (.ref f42)))
  (g_depth_Cb2:W.findIn K (.ref Cb2) "depth"=some (some (.ref f42)))
  (g_depth_Cb3:W.findIn K (.ref Cb3) "depth"=some (some (.ref f42)))
  (g_depth_Cb4:W.findIn K (.ref Cb4) "depth"=some (some (.ref f42)))
  (g_parts_Ctake:W.findIn K (.ref Ctake) "parts"=some (some (.ref f43)))
  (g_parts_Crest:W.findIn K (.ref Crest) "parts"=some (some (.ref f43)))
  (g_parts_Ccho:W.findIn K (.ref Ccho) "parts"=some (some (.ref f43)))
  (g_parts_Cb0:W.findIn K (.ref Cb0) "parts"=some (some (.ref f43)))
  (g_parts_Cb1:W.findIn K (.ref Cb1) "parts"=some (some (.ref f43)))
  (g_parts_Cb2:W.findIn K (.ref Cb2) "parts"=some (some (.ref f43)))
  (g_parts_Cb3:W.findIn K (.ref Cb3) "parts"=some (some (.ref f43)))
  (g_parts_Cb4:W.findIn K (.ref Cb4) "parts"=some (some (.ref f43)))
  (g_own_fault_Cb0:W.findIn K (.ref Cb0) "own_fault"=some (some (.ref f44)))
  (g_own_fault_Cb1:W.findIn K (.ref Cb1) "own_fault"=some (some (.ref f44)))
  (g_own_fault_Cb2:W.findIn K (.ref Cb2) "own_fault"=some (some (.ref f44)))
  (g_own_fault_Cb3:W.findIn K (.ref Cb3) "own_fault"=some (some (.ref f44)))
  (g_own_fault_Cb4:W.findIn K (.ref Cb4) "own_fault"=some (some (.ref f44)))
  (nd:[Cnum,Ctake,Crest,Ccho,Cb0,Cb1,Cb2,Cb3,Cb4].Nodup)
  (z_isinstance:W.nsIn K mainGlobals "isinstance"=some none)
  (z_int:W.nsIn K mainGlobals "int"=some none)
  (z_list:W.nsIn K mainGlobals "list"=some none)
  (z_tuple:W.nsIn K mainGlobals "tuple"=some none)
  (z_len:W.nsIn K mainGlobals "len"=some none)
  (z_range:W.nsIn K mainGlobals "range"=some none)
  (z_max:W.nsIn K mainGlobals "max"=some none)
  (z_sorted:W.nsIn K mainGlobals "sorted"=some none)
  (z_sum:W.nsIn K mainGlobals "sum"=some none)
  (z_set:W.nsIn K mainGlobals "set"=some none)
  (z_bool:W.nsIn K mainGlobals "bool"=some none)
  (z_all:W.nsIn K mainGlobals "all"=some none)
  (z_min:W.nsIn K mainGlobals "min"=some none)
  (z_zip:W.nsIn K mainGlobals "zip"=some none)
  (z_enumerate:W.nsIn K mainGlobals "enumerate"=some none)
  (z_str:W.nsIn K mainGlobals "str"=some none)
  (q_gn:W.nsIn K mainGlobals "GREATEST_NUMBER"=some (some (.int 1000000000000 t_gn)))
  (q_gd:W.nsIn K mainGlobals "GREATEST_DIVISOR"=some (some (.int 1000000000 t_gd)))
  (q_gb:W.nsIn K mainGlobals "GREATEST_BACK"=some (some (.int 3 t_gb)))
  (q_gst:W.nsIn K mainGlobals "GREATEST_STEP"=some (some (.int 9 t_gst)))
  (q_mst:W.nsIn K mainGlobals "MOST_STEPS"=some (some (.int 3 t_mst)))
  (q_mdp:W.nsIn K mainGlobals "MOST_DEPTH"=some (some (.int 12 t_mdp)))
  (q_mpa:W.nsIn K mainGlobals "MOST_PARTS"=some (some (.int 60 t_mpa)))
  (q_mtk:W.nsIn K mainGlobals "MOST_TAKES"=some (some (.int 6 t_mtk)))
  (q_gmo:W.nsIn K mainGlobals "GREATEST_MODULUS"=some (some (.int 1000000000 t_gmo)))
  (q_mro:W.nsIn K mainGlobals "MOST_ROUNDS"=some (some (.int 12 t_mro)))
  (q_msp:W.nsIn K mainGlobals "MOST_SPOTS"=some (some (.int 120 t_msp)))
  (q_gf:W.nsIn K mainGlobals "GREATEST_FIXED"=some (some (.int 1000000000 t_gf)))
  (q_ml:W.nsIn K mainGlobals "MOST_LINES"=some (some (.int 3 t_ml)))
  (q_gs:W.nsIn K mainGlobals "GREATEST_SIZE"=some (some (.int 9 t_gs)))
  (q_mp:W.nsIn K mainGlobals "MOST_PLACES"=some (some (.int 40 t_mp)))
  :∃fd:FuncData,(∀(s:Shared) (v:Value),BindsTo s fd ⟨[v],[]⟩ [("_law_script",v)])/\∀base:Heap,K.In base->base.Ns mainGlobals mg->FnOk l.prog w K mg base CX0 13 fa fd ["_law_script"] (spLaw K):=by
 have e:=hfa.symm.trans (W.mg_of X G a39)
 cases e
 have T:Txt K mg:=⟨W.mg_none_of X G z_isinstance,W.mg_none_of X G z_int,W.mg_none_of X G z_list,W.mg_none_of X G z_tuple,W.mg_none_of X G z_len,W.mg_none_of X G z_range,W.mg_none_of X G z_max,W.mg_none_of X G z_sorted,W.mg_none_of X G z_sum,W.mg_none_of X G z_set,W.mg_none_of X G z_bool,W.mg_none_of X G z_all,W.mg_none_of X G z_min,W.mg_none_of X G z_zip,W.mg_none_of X G z_enumerate,⟨_,W.mg_of X G q_gn⟩,⟨_,W.mg_of X G q_gd⟩,⟨_,W.mg_of X G q_gb⟩,⟨_,W.mg_of X G q_gst⟩,⟨_,W.mg_of X G q_mst⟩,⟨_,W.mg_of X G q_mdp⟩,⟨_,W.mg_of X G q_mpa⟩,⟨_,W.mg_of X G q_mtk⟩,⟨_,W.mg_of X G q_gmo⟩,⟨_,W.mg_of X G q_mro⟩,⟨_,W.mg_of X G q_msp⟩⟩
 have F10:=fun_mk (st:=sWhole) l10 c10 k10
 have F11:=fun_mk (st:=sWithin) l11 c11 k11
 have F12:=fun_mk (st:=KG.sIsRim) l12 c12 k12
 have F13:=fun_mk (st:=KG.sCheck) l13 c13 k13
 have F14:=fun_mk (st:=KG.sProd) l14 c14 k14
 have F15:=fun_mk (st:=KG.sWl) l15 c15 k15
 have F16:=fun_mk (st:=sAreSteps) l16 c16 k16
 have F17:=fun_mk (st:=sLinesOf) l17 c17 k17
 have F18:=fun_mk (st:=sFirst) l18 c18 k18
 have F19:=fun_mk (st:=sCheckT) l19 c19 k19
 have F20:=fun_mk (st:=sAreRows) l20 c20 k20
 have F21:=fun_mk (st:=sIsRow) l21 c21 k21
 have F22:=fun_mk (st:=sCell) l22 c22 k22
 have F23:=fun_mk (st:=sWell) l23 c23 k23
 have F24:=fun_mk (st:=sDraw) l24 c24 k24
 have F25:=fun_mk (st:=KG.sSizes) l25 c25 k25
 have F26:=fun_mk (st:=KG.sRim) l26 c26 k26
 have F27:=fun_mk (st:=sSteps) l27 c27 k27
 have F28:=fun_mk (st:=sSome) l28 c28 k28
 have F29:=fun_mk (st:=sNumber) l29 c29 k29
 have F30:=fun_mk (st:=sTold) l30 c30 k30
 have F31:=fun_mk (st:=sMade) l31 c31 k31
 have F32:=fun_mk (st:=sTakes) l32 c32 k32
 have F33:=fun_mk (st:=sJob) l33 c33 k33
 have F34:=fun_mk (st:=sJobOf) l34 c34 k34
 have F35:=fun_mk (st:=sPlacesL) l35 c35 k35
 have F36:=fun_mk (st:=sThings) l36 c36 k36
 have F37:=fun_mk (st:=sWholeL) l37 c37 k37
 have F38:=fun_mk (st:=sIsSpotL) l38 c38 k38
 have F39:=fun_mk (st:=sLaw) l39 c39 k39
 have F40:=fun_mk (st:=sTInner) l40 c40 k40
 have F41:=fun_mk (st:=sTTakes) l41 c41 k41
 have F42:=fun_mk (st:=sTDepth) l42 c42 k42
 have F43:=fun_mk (st:=sTParts) l43 c43 k43
 have F44:=fun_mk (st:=sTFault) l44 c44 k44
 have F45:=fun_mk (st:=sNInit) l45 c45 k45
 have F46:=fun_mk (st:=sNFault) l46 c46 k46
 have F47:=fun_mk (st:=sKInit) l47 c47 k47
 have F48:=fun_mk (st:=sKTakes) l48 c48 k48
 have F49:=fun_mk (st:=sKFault) l49 c49 k49
 have F50:=fun_mk (st:=sPInit) l50 c50 k50
 have F51:=fun_mk (st:=sPInner) l51 c51 k51
 have F52:=fun_mk (st:=sRInit) l52 c52 k52
 have F53:=fun_mk (st:=sRInner) l53 c53 k53
 have F54:=fun_mk (st:=sRFault) l54 c54 k54
 have F55:=fun_mk (st:=sCInit) l55 c55 k55
 have F56:=fun_mk (st:=sCInner) l56 c56 k56
 have F57:=fun_mk (st:=KG.sInit) l57 c57 k57
 have F58:=fun_mk (st:=KG.sLines) l58 c58 k58
 have F59:=fun_mk (st:=KG.sMany) l59 c59 k59
 have F60:=fun_mk (st:=KG.sAll) l60 c60 k60
 have F61:=fun_mk (st:=KG.sHas) l61 c61 k61
 have F62:=fun_mk (st:=sJInit) l62 c62 k62
 have F63:=fun_mk (st:=sDeep) l63 c63 k63
 have F64:=fun_mk (st:=sSpots) l64 c64 k64
 have F65:=fun_mk (st:=sIsSpot) l65 c65 k65
 have b10:=F10.binds (ps:=["thing"]) fun _ _ _ _ _ _ us hl=>kb1 hl fun _=>rfl
 have b11:=F11.binds (ps:=["thing","least","most"]) fun _ _ _ _ _ _ us hl=>kb3 hl fun _ _ _=>rfl
 have b12:=F12.binds (ps:=["thing"]) fun _ _ _ _ _ _ us hl=>kb1 hl fun _=>rfl
 have b13:=F13.binds (ps:=["sizes","rims"]) fun _ _ _ _ _ _ us hl=>kb2 hl fun _ _=>rfl
 have b14:=F14.binds (ps:=["sizes"]) fun _ _ _ _ _ _ us hl=>kb1 hl fun _=>rfl
 have b15:=F15.binds (ps:=["places","size"]) fun _ _ _ _ _ _ us hl=>kb2 hl fun _ _=>rfl
 have b16:=F16.binds (ps:=["thing"]) fun _ _ _ _ _ _ us hl=>kb1 hl fun _=>rfl
 have b17:=F17.binds (ps:=["term"]) fun _ _ _ _ _ _ us hl=>kb1 hl fun _=>rfl
 have b18:=F18.binds (ps:=["term"]) fun _ _ _ _ _ _ us hl=>kb1 hl fun _=>rfl
 have b19:=F19.binds (ps:=["term"]) fun _ _ _ _ _ _ us hl=>kb1 hl fun _=>rfl
 have b20:=F20.binds (ps:=["thing","deep","many","modulus"]) fun _ _ _ _ _ _ us hl=>kb4 hl fun _ _ _ _=>rfl
 have b21:=F21.binds (ps:=["thing","many","modulus"]) fun _ _ _ _ _ _ us hl=>kb3 hl fun _ _ _=>rfl
 have b22:=F22.binds (ps:=["_law_script","_law_k"]) fun _ _ _ _ _ _ us hl=>kb2 hl fun _ _=>rfl
 have b23:=F23.binds (ps:=["_law_script","_law_k"]) fun _ _ _ _ _ _ us hl=>kb2 hl fun _ _=>rfl
 have b24:=F24.binds (ps:=["_law_well_here","_law_most"]) fun _ _ _ _ _ _ us hl=>kb2 hl fun _ _=>rfl
 have b25:=F25.binds (ps:=["_law_well_here"]) fun _ _ _ _ _ _ us hl=>kb1 hl fun _=>rfl
 have b26:=F26.binds (ps:=["_law_well_here"]) fun _ _ _ _ _ _ us hl=>kb1 hl fun _=>rfl
 have b27:=F27.binds (ps:=["_law_well_here","_law_lines"]) fun _ _ _ _ _ _ us hl=>kb2 hl fun _ _=>rfl
 have b28:=F28.binds (ps:=["_law_well_here","_law_lines"]) fun _ _ _ _ _ _ us hl=>kb2 hl fun _ _=>rfl
 have b29:=F29.binds (ps:=["_law_well_here"]) fun _ _ _ _ _ _ us hl=>kb1 hl fun _=>rfl
 have b30:=F30.binds (ps:=["_law_well_here","_law_some","_law_deep"]) fun _ _ _ _ _ _ us hl=>kb3 hl fun _ _ _=>rfl
 have b31:=F31.binds (ps:=["_law_told_here"]) fun _ _ _ _ _ _ us hl=>kb1 hl fun _=>rfl
 have b32:=F32.binds (ps:=["_law_told_here"]) fun _ _ _ _ _ _ us hl=>kb1 hl fun _=>rfl
 have b33:=F33.binds (ps:=["_law_well_here"]) fun _ _ _ _ _ _ us hl=>kb1 hl fun _=>rfl
 have b34:=F34.binds (ps:=["_law_world"]) fun _ _ _ _ _ _ us hl=>kb1 hl fun _=>rfl
 have b35:=F35.binds (ps:=["_law_sizes_here"]) fun _ _ _ _ _ _ us hl=>kb1 hl fun _=>rfl
 have b36:=F36.binds (ps:=["_law_well_here","_law_world","_law_spots"]) fun _ _ _ _ _ _ us hl=>kb3 hl fun _ _ _=>rfl
 have b37:=F37.binds (ps:=["_law_thing","_law_low","_law_high"]) fun _ _ _ _ _ _ us hl=>kb3 hl fun _ _ _=>rfl
 have b38:=F38.binds (ps:=["_law_thing","_law_world"]) fun _ _ _ _ _ _ us hl=>kb2 hl fun _ _=>rfl
 have b40:=F40.binds (ps:=["self"]) fun _ _ _ _ _ _ us hl=>kb1 hl fun _=>rfl
 have b41:=F41.binds (ps:=["self"]) fun _ _ _ _ _ _ us hl=>kb1 hl fun _=>rfl
 have b42:=F42.binds (ps:=["self"]) fun _ _ _ _ _ _ us hl=>kb1 hl fun _=>rfl
 have b43:=F43.binds (ps:=["self"]) fun _ _ _ _ _ _ us hl=>kb1 hl fun _=>rfl
 have b44:=F44.binds (ps:=["self"]) fun _ _ _ _ _ _ us hl=>kb1 hl fun _=>rfl
 have b45:=F45.binds (ps:=["self","value"]) fun _ _ _ _ _ _ us hl=>kb2 hl fun _ _=>rfl
 have b46:=F46.binds (ps:=["self"]) fun _ _ _ _ _ _ us hl=>kb1 hl fun _=>rfl
 have b47:=F47.binds (ps:=["self","back","steps"]) fun _ _ _ _ _ _ us hl=>kb3 hl fun _ _ _=>rfl
 have b48:=F48.binds (ps:=["self"]) fun _ _ _ _ _ _ us hl=>kb1 hl fun _=>rfl
 have b49:=F49.binds (ps:=["self"]) fun _ _ _ _ _ _ us hl=>kb1 hl fun _=>rfl
 have b50:=F50.binds (ps:=["self","one","other"]) fun _ _ _ _ _ _ us hl=>kb3 hl fun _ _ _=>rfl
 have b51:=F51.binds (ps:=["self"]) fun _ _ _ _ _ _ us hl=>kb1 hl fun _=>rfl
 have b52:=F52.binds (ps:=["self","one","by"]) fun _ _ _ _ _ _ us hl=>kb3 hl fun _ _ _=>rfl
 have b53:=F53.binds (ps:=["self"]) fun _ _ _ _ _ _ us hl=>kb1 hl fun _=>rfl
 have b54:=F54.binds (ps:=["self"]) fun _ _ _ _ _ _ us hl=>kb1 hl fun _=>rfl
 have b55:=F55.binds (ps:=["self","test","one","other"]) fun _ _ _ _ _ _ us hl=>kb4 hl fun _ _ _ _=>rfl
 have b56:=F56.binds (ps:=["self"]) fun _ _ _ _ _ _ us hl=>kb1 hl fun _=>rfl
 have b57:=F57.binds (ps:=["self","sizes","rims"]) fun _ _ _ _ _ _ us hl=>kb3 hl fun _ _ _=>rfl
 have b58:=F58.binds (ps:=["self"]) fun _ _ _ _ _ _ us hl=>kb1 hl fun _=>rfl
 have b59:=F59.binds (ps:=["self"]) fun _ _ _ _ _ _ us hl=>kb1 hl fun _=>rfl
 have b60:=F60.binds (ps:=["self"]) fun _ _ _ _ _ _ us hl=>kb1 hl fun _=>rfl
 have b61:=F61.binds (ps:=["self","thing"]) fun _ _ _ _ _ _ us hl=>kb2 hl fun _ _=>rfl
 have b62:=F62.binds (ps:=["self","grid","term","modulus","rounds","first"]) fun _ _ _ _ _ _ us hl=>kb6 hl fun _ _ _ _ _ _=>rfl
 have b63:=F63.binds (ps:=["self"]) fun _ _ _ _ _ _ us hl=>kb1 hl fun _=>rfl
 have b64:=F64.binds (ps:=["self"]) fun _ _ _ _ _ _ us hl=>kb1 hl fun _=>rfl
 have b65:=F65.binds (ps:=["self","thing"]) fun _ _ _ _ _ _ us hl=>kb2 hl fun _ _=>rfl
 have m10:=W.mg_of X G a10
 have m11:=W.mg_of X G a11
 have m12:=W.mg_of X G a12
 have m13:=W.mg_of X G a13
 have m14:=W.mg_of X G a14
 have m15:=W.mg_of X G a15
 have m16:=W.mg_of X G a16
 have m17:=W.mg_of X G a17
 have m18:=W.mg_of X G a18
 have m19:=W.mg_of X G a19
 have m20:=W.mg_of X G a20
 have m21:=W.mg_of X G a21
 have m22:=W.mg_of X G a22
 have m23:=W.mg_of X G a23
 have m24:=W.mg_of X G a24
 have m25:=W.mg_of X G a25
 have m26:=W.mg_of X G a26
 have m27:=W.mg_of X G a27
 have m28:=W.mg_of X G a28
 have m29:=W.mg_of X G a29
 have m30:=W.mg_of X G a30
 have m31:=W.mg_of X G a31
 have m32:=W.mg_of X G a32
 have m33:=W.mg_of X G a33
 have m34:=W.mg_of X G a34
 have m35:=W.mg_of X G a35
 have m36:=W.mg_of X G a36
 have m37:=W.mg_of X G a37
 have m38:=W.mg_of X G a38
 refine⟨W.fnOf "law" "law" (defArgs sLaw) (defBody sLaw) (defScope sLaw) .none q39 d39 r39 s39 u39 v39,fun s v=> .of_eq rfl,fun base _ _=>?_⟩
 have TG:KG.Txt K mg:=⟨W.mg_none_of X G z_isinstance,W.mg_none_of X G z_int,W.mg_none_of X G z_bool,W.mg_none_of X G z_str,W.mg_none_of X G z_tuple,W.mg_none_of X G z_list,W.mg_none_of X G z_len,W.mg_none_of X G z_range,W.mg_none_of X G z_enumerate,W.mg_none_of X G z_min,W.mg_none_of X G z_zip,W.mg_none_of X G z_all,⟨_,W.mg_of X G q_gf⟩,⟨_,W.mg_of X G q_ml⟩,⟨_,W.mg_of X G q_gs⟩,⟨_,W.mg_of X G q_mp⟩⟩
 have TC:KG.Cl K CG:=⟨⟨pgCG,hdCG,poCG,saCG⟩,n_sizes_CG,n_rims_CG⟩
 have cJ:Cf K CJ FJ:=⟨⟨pgCJ,hdCJ,poCJ,saCJ⟩,fun f hf=>by simp only [List.mem_cons,List.not_mem_nil,or_false]at hf;rcases hf with rfl|rfl|rfl|rfl|rfl|rfl<;>assumption⟩
 have Gwithin:FnOk l.prog w K mg base CX0 2 f11 _ ["thing","least","most"] KG.spWithin:=KG.ok_within F11 F10 m10 b10 TG
 have GwithinG:FnOk l.prog w K mg base CX0 2 f11 _ ["thing","least","most"] KG.spWithinG:=KG.ok_withinG F11 F10 m10 b10 TG
 have Gisrim:FnOk l.prog w K mg base CX0 3 f12 _ ["thing"] KG.spIsRim:=KG.ok_isRim F12 F11 m11 b11 TG Gwithin
 have Gcheck:FnOk l.prog w K mg base CX0 4 f13 _ ["sizes","rims"] KG.spCheck:=KG.ok_check F13 F11 m11 b11 Gwithin F12 m12 b12 Gisrim TG
 have Ginit:FnOk l.prog w K mg base CX0 5 f57 _ ["self","sizes","rims"] (KG.spInit CG):=KG.ok_init F57 F13 m13 b13 Gcheck F14 m14 b14 TG TC
 have Glines:FnOk l.prog w K mg base CX0 1 f58 _ ["self"] (KG.spLines CG):=KG.ok_lines F58 TG TC
 have D_glines:Dis l.prog w K mg base CX0 1 (·=CG) "lines" ["self"] (fun _=>KG.spLines CG):=⟨fun C hC=>by
  rw [show C=CG from hC]
  exact⟨TC.cl,_,_,⟨a58,i58,k58⟩,Glines,b58⟩⟩
 have D_gmany:Dis l.prog w K mg base CX0 2 (·=CG) "places_many" ["self"] (fun _=>KG.spMany CG):=⟨fun C hC=>by
  rw [show C=CG from hC]
  exact⟨TC.cl,_,_,⟨a59,i59,k59⟩,KG.ok_many F59 F14 m14 b14 TC,b59⟩⟩
 have D_gall:Dis l.prog w K mg base CX0 2 (·=CG) "all_places" ["self"] (fun _=>KG.spAll CG):=⟨fun C hC=>by
  rw [show C=CG from hC]
  exact⟨TC.cl,_,_,⟨a60,i60,k60⟩,KG.ok_all F60 F15 m15 b15 TG TC,b60⟩⟩
 have D_ghas:Dis l.prog w K mg base CX0 3 (·=CG) "has_place" ["self","thing"] (fun _=>KG.spHas CG):=⟨fun C hC=>by
  rw [show C=CG from hC]
  exact⟨TC.cl,_,_,⟨a61,i61,k61⟩,KG.ok_has F61 F11 m11 b11 GwithinG b58 ⟨a58,i58,k58⟩ Glines TG TC,b61⟩⟩
 have c_cwithin:Cal l.prog w K mg base CX0 2 "is_within" ["thing","least","most"] KG.spWithin:=⟨_,_,Gwithin,m11,k11,b11⟩
 have c_cwithinG:Cal l.prog w K mg base CX0 2 "is_within" ["thing","least","most"] KG.spWithinG:=⟨_,_,GwithinG,m11,k11,b11⟩
 let N:Cn:=⟨Cnum,Ctake,Crest,Ccho,fun k=>match k with|0=>Cb0|1=>Cb1|2=>Cb2|3=>Cb3|4=>Cb4⟩
 have nd:(clsL N).Nodup:=nd
 have c1:Cf K N.num ["value"]:=⟨⟨pgCnum,hdCnum,poCnum,saCnum⟩,fun f hf=>by simp only [List.mem_cons,List.not_mem_nil,or_false]at hf;rcases hf with rfl<;>assumption⟩
 have c2:Cf K N.take ["back","steps"]:=⟨⟨pgCtake,hdCtake,poCtake,saCtake⟩,fun f hf=>by simp only [List.mem_cons,List.not_mem_nil,or_false]at hf;rcases hf with rfl|rfl<;>assumption⟩
 have c3:Cf K N.rest ["one","by"]:=⟨⟨pgCrest,hdCrest,poCrest,saCrest⟩,fun f hf=>by simp only [List.mem_cons,List.not_mem_nil,or_false]at hf;rcases hf with rfl|rfl<;>assumption⟩
 have c4:Cf K N.cho ["test","one","other"]:=⟨⟨pgCcho,hdCcho,poCcho,saCcho⟩,fun f hf=>by simp only [List.mem_cons,List.not_mem_nil,or_false]at hf;rcases hf with rfl|rfl|rfl<;>assumption⟩
 have c5:∀k,Cf K (N.bin k) ["one","other"]:=fun k=>by
  match k with
  |0=>exact⟨⟨pgCb0,hdCb0,poCb0,saCb0⟩,fun f hf=>by simp only [List.mem_cons,List.not_mem_nil,or_false]at hf;rcases hf with rfl|rfl<;>assumption⟩
  |1=>exact⟨⟨pgCb1,hdCb1,poCb1,saCb1⟩,fun f hf=>by simp only [List.mem_cons,List.not_mem_nil,or_false]at hf;rcases hf with rfl|rfl<;>assumption⟩
  |2=>exact⟨⟨pgCb2,hdCb2,poCb2,saCb2⟩,fun f hf=>by simp only [List.mem_cons,List.not_mem_nil,or_false]at hf;rcases hf with rfl|rfl<;>assumption⟩
  |3=>exact⟨⟨pgCb3,hdCb3,poCb3,saCb3⟩,fun f hf=>by simp only [List.mem_cons,List.not_mem_nil,or_false]at hf;rcases hf with rfl|rfl<;>assumption⟩
  |4=>exact⟨⟨pgCb4,hdCb4,poCb4,saCb4⟩,fun f hf=>by simp only [List.mem_cons,List.not_mem_nil,or_false]at hf;rcases hf with rfl|rfl<;>assumption⟩
 have cl:∀C,IsC N C->Cls K C:=fun C hC=>by
  rcases hC with rfl|rfl|rfl|rfl|⟨k,rfl⟩
  ·exact c1.cl
  ·exact c2.cl
  ·exact c3.cl
  ·exact c4.cl
  ·exact(c5 k).cl
 have nI:=no_names (N:=N) "inner" (by decide+kernel)
 have nK:=no_names (N:=N) "takes" (by decide+kernel)
 have nD:=no_names (N:=N) "depth" (by decide+kernel)
 have nP:=no_names (N:=N) "parts" (by decide+kernel)
 have nF:=no_names (N:=N) "own_fault" (by decide+kernel)
 have D_i:Dis l.prog w K mg base CX0 1 (IsC N) "inner" ["self"] (spInner N):=dis_inner nd F40 F51 F53 F56 b40 b51 b53 b56 c1 c2 c3 c4 c5 ⟨a40,i40,k40⟩ ⟨g_inner_Ctake,i40,k40⟩ ⟨a53,i53,k53⟩ ⟨a56,i56,k56⟩ (fun k=>by
  match k with
  |0=>exact⟨a51,i51,k51⟩
  |1=>exact⟨g_inner_Cb1,i51,k51⟩
  |2=>exact⟨g_inner_Cb2,i51,k51⟩
  |3=>exact⟨g_inner_Cb3,i51,k51⟩
  |4=>exact⟨g_inner_Cb4,i51,k51⟩)
 have D_t:=dis_takes (P:=l.prog) (w:=w) (base:=base) nd F41 F48 b41 b48 cl c2 (fun C hC ne=>by
  rcases hC with rfl|rfl|rfl|rfl|⟨k,rfl⟩
  ·exact⟨a41,i41,k41⟩
  ·exact absurd rfl ne
  ·exact⟨g_takes_Crest,i41,k41⟩
  ·exact⟨g_takes_Ccho,i41,k41⟩
  ·match k with
   |0=>exact⟨g_takes_Cb0,i41,k41⟩
   |1=>exact⟨g_takes_Cb1,i41,k41⟩
   |2=>exact⟨g_takes_Cb2,i41,k41⟩
   |3=>exact⟨g_takes_Cb3,i41,k41⟩
   |4=>exact⟨g_takes_Cb4,i41,k41⟩) ⟨a48,i48,k48⟩ D_i T (fun t fs H h=>⟨nK t fs H h,nI t fs H h⟩) 4
 have D_d:=dis_depth (P:=l.prog) (w:=w) (base:=base) F42 b42 cl (fun C hC=>by
  rcases hC with rfl|rfl|rfl|rfl|⟨k,rfl⟩
  ·exact⟨a42,i42,k42⟩
  ·exact⟨g_depth_Ctake,i42,k42⟩
  ·exact⟨g_depth_Crest,i42,k42⟩
  ·exact⟨g_depth_Ccho,i42,k42⟩
  ·match k with
   |0=>exact⟨g_depth_Cb0,i42,k42⟩
   |1=>exact⟨g_depth_Cb1,i42,k42⟩
   |2=>exact⟨g_depth_Cb2,i42,k42⟩
   |3=>exact⟨g_depth_Cb3,i42,k42⟩
   |4=>exact⟨g_depth_Cb4,i42,k42⟩) D_i T nI nD 4
 have D_p:=dis_parts (P:=l.prog) (w:=w) (base:=base) F43 b43 cl (fun C hC=>by
  rcases hC with rfl|rfl|rfl|rfl|⟨k,rfl⟩
  ·exact⟨a43,i43,k43⟩
  ·exact⟨g_parts_Ctake,i43,k43⟩
  ·exact⟨g_parts_Crest,i43,k43⟩
  ·exact⟨g_parts_Ccho,i43,k43⟩
  ·match k with
   |0=>exact⟨g_parts_Cb0,i43,k43⟩
   |1=>exact⟨g_parts_Cb1,i43,k43⟩
   |2=>exact⟨g_parts_Cb2,i43,k43⟩
   |3=>exact⟨g_parts_Cb3,i43,k43⟩
   |4=>exact⟨g_parts_Cb4,i43,k43⟩) D_i T nI nP 4 (by decide)
 have c_careSteps:Cal l.prog w K mg base CX0 3 "are_steps" ["thing"] spAreSteps:=⟨_,_,ok_areSteps F16 c_cwithin T,m16,k16,b16⟩
 have D_f:Dis l.prog w K mg base CX0 4 (IsC N) "own_fault" ["self"] (spFault N):=dis_fault nd F44 F46 F49 F54 b44 b46 b49 b54 c1 c2 c3 c4 c5 c_cwithin c_careSteps T ⟨a46,i46,k46⟩ ⟨a49,i49,k49⟩ ⟨a54,i54,k54⟩ ⟨a44,i44,k44⟩ (fun k=>by
  match k with
  |0=>exact⟨g_own_fault_Cb0,i44,k44⟩
  |1=>exact⟨g_own_fault_Cb1,i44,k44⟩
  |2=>exact⟨g_own_fault_Cb2,i44,k44⟩
  |3=>exact⟨g_own_fault_Cb3,i44,k44⟩
  |4=>exact⟨g_own_fault_Cb4,i44,k44⟩)
 have c_cff:=cal_ff F18 m18 k18 b18 D_i D_f nI nF 4
 have c_clinesOf:Cal l.prog w K mg base CX0 7 "lines_of" ["term"] (spLinesN N 4):=⟨_,_,ok_linesN F17 D_t T (fun t fs H h=>⟨nK t fs H h,nI t fs H h⟩),m17,k17,b17⟩
 have c_ccheckT:Cal l.prog w K mg base CX0 9 "check_term" ["term"] (spCheckT N 4):=⟨_,_,ok_checkT F19 c_cff c_clinesOf D_t D_d D_p T (fun t fs H h=>⟨nK t fs H h,nD t fs H h,nP t fs H h⟩),m19,k19,b19⟩
 have c_cisRow:Cal l.prog w K mg base CX0 3 "is_row" ["thing","many","modulus"] spIsRow:=⟨_,_,ok_isRow F21 c_cwithin T,m21,k21,b21⟩
 have c_careRows:Cal l.prog w K mg base CX0 4 "are_rows" ["thing","deep","many","modulus"] spAreRows:=⟨_,_,ok_areRows F20 c_cisRow T,m20,k20,b20⟩
 have D_jdeep:Dis l.prog w K mg base CX0 1 (·=CJ) "deep" ["self"] (fun _=>spDeep CJ):=⟨fun C hC=>by
  rw [show C=CJ from hC]
  exact⟨cJ.cl,_,_,⟨a63,i63,k63⟩,ok_deep F63 ⟨cJ.cl,fun f hf=>by rw [List.mem_singleton.mp hf];exact cJ.na _ (by simp)⟩ T,b63⟩⟩
 have D_jspots:Dis l.prog w K mg base CX0 3 (·=CJ) "all_spots" ["self"] (fun _=>spSpots CG CJ):=⟨fun C hC=>by
  rw [show C=CJ from hC]
  exact⟨cJ.cl,_,_,⟨a64,i64,k64⟩,ok_spots F64 cJ D_gall T,b64⟩⟩
 have D_jisspot:Dis l.prog w K mg base CX0 4 (·=CJ) "is_spot" ["self","thing"] (fun _=>spIsSpotG CG CJ):=⟨fun C hC=>by
  rw [show C=CJ from hC]
  exact⟨cJ.cl,_,_,⟨a65,i65,k65⟩,ok_isSpotG F65 cJ c_cwithinG D_ghas T,b65⟩⟩
 have c_ccell:Cal l.prog w K mg base CX0 1 "_law_cell_at" ["_law_script","_law_k"] (spCell K):=⟨_,_,ok_cell F22 T,m22,k22,b22⟩
 have c_cwell:Cal l.prog w K mg base CX0 2 "_law_well" ["_law_script","_law_k"] (spWell K):=⟨_,_,ok_well F23 c_ccell T,m23,k23,b23⟩
 have c_cdraw:Cal l.prog w K mg base CX0 1 "_law_draw" ["_law_well_here","_law_most"] spDraw:=⟨_,_,ok_draw F24,m24,k24,b24⟩
 have c_csizes:Cal l.prog w K mg base CX0 2 "_law_sizes" ["_law_well_here"] KG.spSizes:=⟨_,_,KG.ok_sizes F25 F24 m24 b24 TG,m25,k25,b25⟩
 have c_crim:Cal l.prog w K mg base CX0 2 "_law_rim" ["_law_well_here"] KG.spRim:=⟨_,_,KG.ok_rim F26 F24 m24 b24,m26,k26,b26⟩
 have c_csteps:Cal l.prog w K mg base CX0 2 "_law_steps" ["_law_well_here","_law_lines"] spSteps:=⟨_,_,ok_steps F27 c_cdraw T,m27,k27,b27⟩
 have c_csome:Cal l.prog w K mg base CX0 3 "_law_some_takes" ["_law_well_here","_law_lines"] spSome:=⟨_,_,ok_some F28 c_cdraw c_csteps T,m28,k28,b28⟩
 have c_cnumber:Cal l.prog w K mg base CX0 2 "_law_number" ["_law_well_here"] spNumber:=⟨_,_,ok_number F29 c_cdraw,m29,k29,b29⟩
 have c_ctold:=cal_told F30 m30 k30 b30 c_cdraw c_cnumber T 4
 have R5:∀k,Mkr l.prog w K mg base (N.bin k) (bnm k) ["self","one","other"] (spI2 K "one" "other"):=fun k=>by
  match k with
  |0=>exact⟨⟨_,_,ok_pinit F50,⟨mkCb0,a50,i50,kcCb0⟩,W.mg_of X G aCb0,b50⟩⟩
  |1=>exact⟨⟨_,_,ok_pinit F50,⟨mkCb1,g_init_Cb1,i50,kcCb1⟩,W.mg_of X G aCb1,b50⟩⟩
  |2=>exact⟨⟨_,_,ok_pinit F50,⟨mkCb2,g_init_Cb2,i50,kcCb2⟩,W.mg_of X G aCb2,b50⟩⟩
  |3=>exact⟨⟨_,_,ok_pinit F50,⟨mkCb3,g_init_Cb3,i50,kcCb3⟩,W.mg_of X G aCb3,b50⟩⟩
  |4=>exact⟨⟨_,_,ok_pinit F50,⟨mkCb4,g_init_Cb4,i50,kcCb4⟩,W.mg_of X G aCb4,b50⟩⟩
 have c_cmade:=cal_made (P:=l.prog) (w:=w) (base:=base) (N:=N) F31 m31 k31 b31 (fun d c=>ok_made F31 c ⟨⟨_,_,ok_ninit F45,⟨mkCnum,a45,i45,kcCnum⟩,W.mg_of X G aCnum,b45⟩⟩ ⟨⟨_,_,ok_kinit F47,⟨mkCtake,a47,i47,kcCtake⟩,W.mg_of X G aCtake,b47⟩⟩ ⟨⟨_,_,ok_rinit F52,⟨mkCrest,a52,i52,kcCrest⟩,W.mg_of X G aCrest,b52⟩⟩ ⟨⟨_,_,ok_cinit F55,⟨mkCcho,a55,i55,kcCcho⟩,W.mg_of X G aCcho,b55⟩⟩ R5 c1 c2 c3 c4 c5) 4
 have c_ctakes:=cal_takes (P:=l.prog) (w:=w) (base:=base) F32 m32 k32 b32 T 4
 have c_cjob:Cal l.prog w K mg base CX0 7 "_law_job" ["_law_well_here"] spJob:=⟨_,_,ok_job F33 c_cdraw c_csizes c_crim c_csome c_ctold c_ctakes T,m33,k33,b33⟩
 have R_grid:Mkk l.prog w K mg base 5 CG "Grid" ["self","sizes","rims"] (KG.spInit CG):=⟨⟨_,_,Ginit,⟨mkCG,a57,i57,kcCG⟩,W.mg_of X G aCG,b57⟩⟩
 have R_job:Mkk l.prog w K mg base 10 CJ "Job" ["self","grid","term","modulus","rounds","first"] (spJInit N CG CJ):=⟨⟨_,_,ok_jinit F62 cJ c_ccheckT c_clinesOf c_cwithin c_careRows D_t D_glines D_gmany D_jdeep T nK,⟨mkCJ,a62,i62,kcCJ⟩,W.mg_of X G aCJ,b62⟩⟩
 have c_cjobOf:Cal l.prog w K mg base CX0 12 "_law_job_of" ["_law_world"] (spJobOf CG CJ):=⟨_,_,ok_jobOf F34 R_grid R_job c_cmade T,m34,k34,b34⟩
 have c_cplacesL:Cal l.prog w K mg base CX0 1 "_law_places" ["_law_sizes_here"] spPlacesL:=⟨_,_,ok_placesL F35 T,m35,k35,b35⟩
 have c_cthings:Cal l.prog w K mg base CX0 2 "_law_things" ["_law_well_here","_law_world","_law_spots"] spThings:=⟨_,_,ok_things F36 c_cdraw T,m36,k36,b36⟩
 have c_cwholeL:Cal l.prog w K mg base CX0 1 "_law_whole" ["_law_thing","_law_low","_law_high"] KG.spWithinG:=⟨_,_,ok_wholeL F37 T,m37,k37,b37⟩
 have c_cisSpotL:Cal l.prog w K mg base CX0 2 "_law_is_spot" ["_law_thing","_law_world"] spIsSpotL:=⟨_,_,ok_isSpotL F38 c_cwholeL T,m38,k38,b38⟩
 exact ok_law F39 c_cwell c_cjob c_cjobOf c_ctakes c_cplacesL c_cthings c_cisSpotL D_jspots D_jisspot D_jdeep T
theorem walkOn {l:W.OpenLaw} {q:Program} {loose:List Str} {XP:(Str->Option Value)->Heap->Prop} {YP:World->Heap->Prop} {d:DefRec} {K:Params->W.Frag} (hn:l.most=some 63) (hdf:d.params.defaults=[])
  (hY:∀(w:World) (h:Heap),YP w h->(K w.params).In h)
  (F:∀(w:World) (mg:Str->Option Value) (fa:Addr) (h:Heap),(K w.params).In h->h.Ns mainGlobals mg->mg d.name=some (.ref fa)->
   ∃fd:FuncData,(∀(s:Shared) (u:Value),BindsTo s fd ⟨[u],[]⟩ [("_law_script",u)])/\∀base:Heap,(K w.params).In base->base.Ns mainGlobals mg->FnOk l.prog w (K w.params) mg base CX0 13 fa fd ["_law_script"] (spLaw (K w.params))):
  W.WalkO q loose XP YP l.row.toRowW d [] (fun f vs=>PySem.call f vs):=
 L2.walk_of (n:=63) (k:=13) (x:="_law_script") (CX:=fun _=>CX0) (sp:=fun w=>spLaw (K w.params)) hn (by decide) hdf ⟨rfl,by decide,by decide⟩ hY F (fun _ _ a ns _ _ hS=>⟨a,ns,rfl,hS,fun _=>rfl⟩) fun _ _ _ _ _ z=>z
end KJ
namespace PySem.W.Fast
def tw17018114984123944785:Unit:=()
def tw14316054258958370643:Unit:=()
def tw10793405691749177277:Unit:=()
def tw8018943595952024134:Unit:=()
def tw9636889139252981925:Unit:=()
def tw2434373961438094845:Unit:=()
def tw1335778941514242398:Unit:=()
def tw13852073001722014888:Unit:=()
def tw2724748453097904608:Unit:=()
def tw3135916034142578714:Unit:=()
def tw8316145762401070987:Unit:=()
def tw3332442331499647927:Unit:=()
def tw259455497008409889:Unit:=()
def tw13605123314219719292:Unit:=()
def tw6585592085347290541:Unit:=()
def tw5276802768318141083:Unit:=()
def tw14794122874891067562:Unit:=()
def tw18242897350933982250:Unit:=()
def tw6162205515568686288:Unit:=()
def tw8854674814531642418:Unit:=()
def tw6785411431079139419:Unit:=()
def tw8549460275591301723:Unit:=()
def tw11971143186358514034:Unit:=()
def tw15266993870754896584:Unit:=()
def tw572194597857225023:Unit:=()
def tw937669353568513138:Unit:=()
def tw2640348530546501328:Unit:=()
def tw3615771766076076217:Unit:=()
def tw4447336190334424119:Unit:=()
def tw4910084169268567746:Unit:=()
def tw2264573855504921797:Unit:=()
def tw399746484109910210:Unit:=()
def tw17088713663792227246:Unit:=()
def tw15374381757192680575:Unit:=()
def tw4569102329488851196:Unit:=()
def tw11395462185727644966:Unit:=()
def tw13502357101320486357:Unit:=()
def tw18129928640505913902:Unit:=()
def tw15173755463947972604:Unit:=()
def tw4130686780199836819:Unit:=()
def tw2043075606951908151:Unit:=()
def tw11926799682153463726:Unit:=()
def tw8197307108614335696:Unit:=()
def tw1797193816120025894:Unit:=()
def tw17543494191592033963:Unit:=()
def tw9169649319139698051:Unit:=()
def tw4392613763762777227:Unit:=()
def tw7584003277306982400:Unit:=()
def tw5837774740236109237:Unit:=()
def tw7650440775265980557:Unit:=()
def tw6739648388349529677:Unit:=()
def tw18180850810433708427:Unit:=()
def tw17070782034891144505:Unit:=()
def tw6630549305972529700:Unit:=()
def tw14201328571838287003:Unit:=()
def tw17654462962373687535:Unit:=()
def tw15055165270352874362:Unit:=()
def tw9244688085255914245:Unit:=()
def tw11599742475352680555:Unit:=()
def tw11441683491325024216:Unit:=()
def tw566551212499825160:Unit:=()
def tw12787435113574845627:Unit:=()
def tw2013197007929548043:Unit:=()
def tw665008669819352321:Unit:=()
def tw5134481075907317245:Unit:=()
def tw2845510780286287027:Unit:=()
def tw2164354071898539555:Unit:=()
def tw16690142748747808348:Unit:=()
def tw8147968961083782676:Unit:=()
def tw7629498567727033129:Unit:=()
def tw16525291158221804290:Unit:=()
def tw10378126349243421:Unit:=()
def tw12508529829250886782:Unit:=()
def tw12451928675309782124:Unit:=()
def tw13548837888499851558:Unit:=()
def tw15905098583402476148:Unit:=()
def tw7115740130838635425:Unit:=()
def tw8935072299186713280:Unit:=()
def tw3842230728662408537:Unit:=()
def tw867698234355730306:Unit:=()
def tw6921853222603445917:Unit:=()
def tw11465572967569251100:Unit:=()
def tw13614704855994393679:Unit:=()
def tw7919602466660861703:Unit:=()
def tw14373667762294985071:Unit:=()
def tw17533663188122925187:Unit:=()
def tw2883032900157236399:Unit:=()
def tw3302315292002788061:Unit:=()
def tw13334059184645033650:Unit:=()
def tw15279137489158144741:Unit:=()
def tw3019098763291253314:Unit:=()
def tw7111674635845315602:Unit:=()
def tw13606089666119655775:Unit:=()
def tw16989130833201001040:Unit:=()
def tw2657415695799167761:Unit:=()
def tw17496932021907924969:Unit:=()
def tw3512770694957020988:Unit:=()
def tw11860505712851769789:Unit:=()
def tw3935931823933879809:Unit:=()
def tw16127790276631873368:Unit:=()
def tw2749576008401236280:Unit:=()
def tw6482613985162944591:Unit:=()
def tw17014599133594137942:Unit:=()
def tw13449197304763467408:Unit:=()
def tw18175886486933621420:Unit:=()
def tw16164139054057227896:Unit:=()
def tw945282244167457356:Unit:=()
def tw15162965554327322401:Unit:=()
def tw17595691841407653894:Unit:=()
def tw2206601248781404793:Unit:=()
def tw3061960494777719844:Unit:=()
def tw8653878538193577106:Unit:=()
def tw11917405958584521532:Unit:=()
def tw11303189265089955163:Unit:=()
def tw8787306271704473285:Unit:=()
def tw6761537010575154660:Unit:=()
def tw8684016422999305210:Unit:=()
def tw15567511442312562118:Unit:=()
def tw2878845477112456721:Unit:=()
def tw13953206655436707858:Unit:=()
def tw8225169049963519368:Unit:=()
def tw12404471920350039009:Unit:=()
def tw1486321785579675564:Unit:=()
def tw4425431353980268095:Unit:=()
def tw2352289678431946997:Unit:=()
def tw9705801768614437769:Unit:=()
def tw8859067699273081282:Unit:=()
def tw15628580917868739717:Unit:=()
def tw9869007229508126897:Unit:=()
def tw11583088730868115626:Unit:=()
def tw17176121520552228407:Unit:=()
def tw7878219323200077569:Unit:=()
def tw9338861863351405541:Unit:=()
def tw10878309189604104427:Unit:=()
def tw9187091413133216699:Unit:=()
def tw9977608955279224080:Unit:=()
def tw15535140529816099183:Unit:=()
def tw11740028261157431207:Unit:=()
def tw2168978203184645255:Unit:=()
def tw15403939759457035946:Unit:=()
def tw7544587919067154508:Unit:=()
def tw6483066351800404308:Unit:=()
def tw383060246100659196:Unit:=()
def tw16953079668438091883:Unit:=()
def tw12219167627028985970:Unit:=()
def tw6567278020278781546:Unit:=()
def tw10377601566450352731:Unit:=()
def tw8018958192422572266:Unit:=()
def tw5770336362504354847:Unit:=()
def tw6159695618875395207:Unit:=()
def tw12832196289240874179:Unit:=()
def tw2893117611033381085:Unit:=()
def tw13571501809378210980:Unit:=()
def tw2838173566529615368:Unit:=()
def tw1217935526717725265:Unit:=()
def tw5959614294043733883:Unit:=()
def tw5762968714972278885:Unit:=()
def tw4711201203734605856:Unit:=()
def tw11205045071178035260:Unit:=()
def tw15400361483788945252:Unit:=()
def tw11086965199830056143:Unit:=()
def tw6097603428348144303:Unit:=()
def tw18109997780918678408:Unit:=()
def tw9760650244600119563:Unit:=()
def tw11546697480545215546:Unit:=()
def tw10543470098157802203:Unit:=()
def tw17342159241161115254:Unit:=()
def tw13491587724883111044:Unit:=()
def tw15889405724354257111:Unit:=()
def tw18016833550393319660:Unit:=()
def tw10035245345271901159:Unit:=()
def tw6239817871796138362:Unit:=()
def tw5932779362590758234:Unit:=()
end PySem.W.Fast
open PySem PySem.W PyProof.Rows
set_option maxRecDepth 100000 in
set_option maxHeartbeats 0 in
theorem PySem.Challenge.cw_slanttiles_k22_spots_of_a_job_holds : PySem.Challenge.rw_slanttiles_k22_spots_of_a_job.Holds := by
  w_on; o_law; k_head; (case hw => w_witness2)
  k_fill
  refine KJ.walkOn (l := PySem.Challenge.rw_slanttiles_k22_spots_of_a_job) rfl rfl (fun w h Y => W.kIn_of Y) ?F
  case F =>
    intro w mg fa h KX G hmg
    refine' KJ.all_mk KX G hmg ?aCnum ?aCtake ?aCrest ?aCcho ?aCb0 ?aCb1 ?aCb2 ?aCb3 ?aCb4 ?aCG ?aCJ ?a10 ?l10 ?c10 ?k10 ?a11 ?l11 ?c11 ?k11 ?a12 ?l12 ?c12 ?k12 ?a13 ?l13 ?c13 ?k13 ?a14 ?l14 ?c14 ?k14 ?a15 ?l15 ?c15 ?k15 ?a16 ?l16 ?c16 ?k16 ?a17 ?l17 ?c17 ?k17 ?a18 ?l18 ?c18 ?k18 ?a19 ?l19 ?c19 ?k19 ?a20 ?l20 ?c20 ?k20 ?a21 ?l21 ?c21 ?k21 ?a22 ?l22 ?c22 ?k22 ?a23 ?l23 ?c23 ?k23 ?a24 ?l24 ?c24 ?k24 ?a25 ?l25 ?c25 ?k25 ?a26 ?l26 ?c26 ?k26 ?a27 ?l27 ?c27 ?k27 ?a28 ?l28 ?c28 ?k28 ?a29 ?l29 ?c29 ?k29 ?a30 ?l30 ?c30 ?k30 ?a31 ?l31 ?c31 ?k31 ?a32 ?l32 ?c32 ?k32 ?a33 ?l33 ?c33 ?k33 ?a34 ?l34 ?c34 ?k34 ?a35 ?l35 ?c35 ?k35 ?a36 ?l36 ?c36 ?k36 ?a37 ?l37 ?c37 ?k37 ?a38 ?l38 ?c38 ?k38 ?a39 ?l39 ?c39 ?k39 ?a40 ?i40 ?l40 ?c40 ?k40 ?a41 ?i41 ?l41 ?c41 ?k41 ?a42 ?i42 ?l42 ?c42 ?k42 ?a43 ?i43 ?l43 ?c43 ?k43 ?a44 ?i44 ?l44 ?c44 ?k44 ?a45 ?i45 ?l45 ?c45 ?k45 ?a46 ?i46 ?l46 ?c46 ?k46 ?a47 ?i47 ?l47 ?c47 ?k47 ?a48 ?i48 ?l48 ?c48 ?k48 ?a49 ?i49 ?l49 ?c49 ?k49 ?a50 ?i50 ?l50 ?c50 ?k50 ?a51 ?i51 ?l51 ?c51 ?k51 ?a52 ?i52 ?l52 ?c52 ?k52 ?a53 ?i53 ?l53 ?c53 ?k53 ?a54 ?i54 ?l54 ?c54 ?k54 ?a55 ?i55 ?l55 ?c55 ?k55 ?a56 ?i56 ?l56 ?c56 ?k56 ?a57 ?i57 ?l57 ?c57 ?k57 ?a58 ?i58 ?l58 ?c58 ?k58 ?a59 ?i59 ?l59 ?c59 ?k59 ?a60 ?i60 ?l60 ?c60 ?k60 ?a61 ?i61 ?l61 ?c61 ?k61 ?a62 ?i62 ?l62 ?c62 ?k62 ?a63 ?i63 ?l63 ?c63 ?k63 ?a64 ?i64 ?l64 ?c64 ?k64 ?a65 ?i65 ?l65 ?c65 ?k65 ?pgCnum ?hdCnum ?poCnum ?saCnum ?mkCnum ?kcCnum ?n_value_Cnum ?pgCtake ?hdCtake ?poCtake ?saCtake ?mkCtake ?kcCtake ?n_back_Ctake ?n_steps_Ctake ?pgCrest ?hdCrest ?poCrest ?saCrest ?mkCrest ?kcCrest ?n_one_Crest ?n_by_Crest ?pgCcho ?hdCcho ?poCcho ?saCcho ?mkCcho ?kcCcho ?n_test_Ccho ?n_one_Ccho ?n_other_Ccho ?pgCb0 ?hdCb0 ?poCb0 ?saCb0 ?mkCb0 ?kcCb0 ?n_one_Cb0 ?n_other_Cb0 ?pgCb1 ?hdCb1 ?poCb1 ?saCb1 ?mkCb1 ?kcCb1 ?n_one_Cb1 ?n_other_Cb1 ?pgCb2 ?hdCb2 ?poCb2 ?saCb2 ?mkCb2 ?kcCb2 ?n_one_Cb2 ?n_other_Cb2 ?pgCb3 ?hdCb3 ?poCb3 ?saCb3 ?mkCb3 ?kcCb3 ?n_one_Cb3 ?n_other_Cb3 ?pgCb4 ?hdCb4 ?poCb4 ?saCb4 ?mkCb4 ?kcCb4 ?n_one_Cb4 ?n_other_Cb4 ?pgCG ?hdCG ?poCG ?saCG ?mkCG ?kcCG ?n_sizes_CG ?n_rims_CG ?pgCJ ?hdCJ ?poCJ ?saCJ ?mkCJ ?kcCJ ?n_taken_CJ ?n_grid_CJ ?n_term_CJ ?n_modulus_CJ ?n_rounds_CJ ?n_first_CJ ?g_init_Cb1 ?g_init_Cb2 ?g_init_Cb3 ?g_init_Cb4 ?g_inner_Ctake ?g_inner_Cb1 ?g_inner_Cb2 ?g_inner_Cb3 ?g_inner_Cb4 ?g_takes_Crest ?g_takes_Ccho ?g_takes_Cb0 ?g_takes_Cb1 ?g_takes_Cb2 ?g_takes_Cb3 ?g_takes_Cb4 ?g_depth_Ctake ?g_depth_Crest ?g_depth_Ccho ?g_depth_Cb0 ?g_depth_Cb1 ?g_depth_Cb2 ?g_depth_Cb3 ?g_depth_Cb4 ?g_parts_Ctake ?g_parts_Crest ?g_parts_Ccho ?g_parts_Cb0 ?g_parts_Cb1 ?g_parts_Cb2 ?g_parts_Cb3 ?g_parts_Cb4 ?g_own_fault_Cb0 ?g_own_fault_Cb1 ?g_own_fault_Cb2 ?g_own_fault_Cb3 ?g_own_fault_Cb4 ?nd ?z_isinstance ?z_int ?z_list ?z_tuple ?z_len ?z_range ?z_max ?z_sorted ?z_sum ?z_set ?z_bool ?z_all ?z_min ?z_zip ?z_enumerate ?z_str ?q_gn ?q_gd ?q_gb ?q_gst ?q_mst ?q_mdp ?q_mpa ?q_mtk ?q_gmo ?q_mro ?q_msp ?q_gf ?q_ml ?q_gs ?q_mp
    (case aCnum => k_is); (case aCtake => k_is); (case aCrest => k_is); (case aCcho => k_is); (case aCb0 => k_is)
    (case aCb1 => k_is); (case aCb2 => k_is); (case aCb3 => k_is); (case aCb4 => k_is); (case aCG => k_is)
    (case aCJ => k_is); (case a10 => k_is); (case l10 => k_is); (case c10 => k_is); (case k10 => k_is)
    (case a11 => k_is); (case l11 => k_is); (case c11 => k_is); (case k11 => k_is); (case a12 => k_is)
    (case l12 => k_is); (case c12 => k_is); (case k12 => k_is); (case a13 => k_is); (case l13 => k_is)
    (case c13 => k_is); (case k13 => k_is); (case a14 => k_is); (case l14 => k_is); (case c14 => k_is)
    (case k14 => k_is); (case a15 => k_is); (case l15 => k_is); (case c15 => k_is); (case k15 => k_is)
    (case a16 => k_is); (case l16 => k_is); (case c16 => k_is); (case k16 => k_is); (case a17 => k_is)
    (case l17 => k_is); (case c17 => k_is); (case k17 => k_is); (case a18 => k_is); (case l18 => k_is)
    (case c18 => k_is); (case k18 => k_is); (case a19 => k_is); (case l19 => k_is); (case c19 => k_is)
    (case k19 => k_is); (case a20 => k_is); (case l20 => k_is); (case c20 => k_is); (case k20 => k_is)
    (case a21 => k_is); (case l21 => k_is); (case c21 => k_is); (case k21 => k_is); (case a22 => k_is)
    (case l22 => k_is); (case c22 => k_is); (case k22 => k_is); (case a23 => k_is); (case l23 => k_is)
    (case c23 => k_is); (case k23 => k_is); (case a24 => k_is); (case l24 => k_is); (case c24 => k_is)
    (case k24 => k_is); (case a25 => k_is); (case l25 => k_is); (case c25 => k_is); (case k25 => k_is)
    (case a26 => k_is); (case l26 => k_is); (case c26 => k_is); (case k26 => k_is); (case a27 => k_is)
    (case l27 => k_is); (case c27 => k_is); (case k27 => k_is); (case a28 => k_is); (case l28 => k_is)
    (case c28 => k_is); (case k28 => k_is); (case a29 => k_is); (case l29 => k_is); (case c29 => k_is)
    (case k29 => k_is); (case a30 => k_is); (case l30 => k_is); (case c30 => k_is); (case k30 => k_is)
    (case a31 => k_is); (case l31 => k_is); (case c31 => k_is); (case k31 => k_is); (case a32 => k_is)
    (case l32 => k_is); (case c32 => k_is); (case k32 => k_is); (case a33 => k_is); (case l33 => k_is)
    (case c33 => k_is); (case k33 => k_is); (case a34 => k_is); (case l34 => k_is); (case c34 => k_is)
    (case k34 => k_is); (case a35 => k_is); (case l35 => k_is); (case c35 => k_is); (case k35 => k_is)
    (case a36 => k_is); (case l36 => k_is); (case c36 => k_is); (case k36 => k_is); (case a37 => k_is)
    (case l37 => k_is); (case c37 => k_is); (case k37 => k_is); (case a38 => k_is); (case l38 => k_is)
    (case c38 => k_is); (case k38 => k_is); (case a39 => k_is); (case l39 => k_is); (case c39 => k_is)
    (case k39 => k_is); (case a40 => k_is); (case i40 => k_is); (case l40 => k_is); (case c40 => k_is)
    (case k40 => k_is); (case a41 => k_is); (case i41 => k_is); (case l41 => k_is); (case c41 => k_is)
    (case k41 => k_is); (case a42 => k_is); (case i42 => k_is); (case l42 => k_is); (case c42 => k_is)
    (case k42 => k_is); (case a43 => k_is); (case i43 => k_is); (case l43 => k_is); (case c43 => k_is)
    (case k43 => k_is); (case a44 => k_is); (case i44 => k_is); (case l44 => k_is); (case c44 => k_is)
    (case k44 => k_is); (case a45 => k_is); (case i45 => k_is); (case l45 => k_is); (case c45 => k_is)
    (case k45 => k_is); (case a46 => k_is); (case i46 => k_is); (case l46 => k_is); (case c46 => k_is)
    (case k46 => k_is); (case a47 => k_is); (case i47 => k_is); (case l47 => k_is); (case c47 => k_is)
    (case k47 => k_is); (case a48 => k_is); (case i48 => k_is); (case l48 => k_is); (case c48 => k_is)
    (case k48 => k_is); (case a49 => k_is); (case i49 => k_is); (case l49 => k_is); (case c49 => k_is)
    (case k49 => k_is); (case a50 => k_is); (case i50 => k_is); (case l50 => k_is); (case c50 => k_is)
    (case k50 => k_is); (case a51 => k_is); (case i51 => k_is); (case l51 => k_is); (case c51 => k_is)
    (case k51 => k_is); (case a52 => k_is); (case i52 => k_is); (case l52 => k_is); (case c52 => k_is)
    (case k52 => k_is); (case a53 => k_is); (case i53 => k_is); (case l53 => k_is); (case c53 => k_is)
    (case k53 => k_is); (case a54 => k_is); (case i54 => k_is); (case l54 => k_is); (case c54 => k_is)
    (case k54 => k_is); (case a55 => k_is); (case i55 => k_is); (case l55 => k_is); (case c55 => k_is)
    (case k55 => k_is); (case a56 => k_is); (case i56 => k_is); (case l56 => k_is); (case c56 => k_is)
    (case k56 => k_is); (case a57 => k_is); (case i57 => k_is); (case l57 => k_is); (case c57 => k_is)
    (case k57 => k_is); (case a58 => k_is); (case i58 => k_is); (case l58 => k_is); (case c58 => k_is)
    (case k58 => k_is); (case a59 => k_is); (case i59 => k_is); (case l59 => k_is); (case c59 => k_is)
    (case k59 => k_is); (case a60 => k_is); (case i60 => k_is); (case l60 => k_is); (case c60 => k_is)
    (case k60 => k_is); (case a61 => k_is); (case i61 => k_is); (case l61 => k_is); (case c61 => k_is)
    (case k61 => k_is); (case a62 => k_is); (case i62 => k_is); (case l62 => k_is); (case c62 => k_is)
    (case k62 => k_is); (case a63 => k_is); (case i63 => k_is); (case l63 => k_is); (case c63 => k_is)
    (case k63 => k_is); (case a64 => k_is); (case i64 => k_is); (case l64 => k_is); (case c64 => k_is)
    (case k64 => k_is); (case a65 => k_is); (case i65 => k_is); (case l65 => k_is); (case c65 => k_is)
    (case k65 => k_is); (case pgCnum => k_is); (case hdCnum => k_is); (case poCnum => k_is); (case saCnum => k_is)
    (case mkCnum => k_is); (case kcCnum => k_is); (case n_value_Cnum => k_is); (case pgCtake => k_is); (case hdCtake => k_is)
    (case poCtake => k_is); (case saCtake => k_is); (case mkCtake => k_is); (case kcCtake => k_is); (case n_back_Ctake => k_is)
    (case n_steps_Ctake => k_is); (case pgCrest => k_is); (case hdCrest => k_is); (case poCrest => k_is); (case saCrest => k_is)
    (case mkCrest => k_is); (case kcCrest => k_is); (case n_one_Crest => k_is); (case n_by_Crest => k_is); (case pgCcho => k_is)
    (case hdCcho => k_is); (case poCcho => k_is); (case saCcho => k_is); (case mkCcho => k_is); (case kcCcho => k_is)
    (case n_test_Ccho => k_is); (case n_one_Ccho => k_is); (case n_other_Ccho => k_is); (case pgCb0 => k_is); (case hdCb0 => k_is)
    (case poCb0 => k_is); (case saCb0 => k_is); (case mkCb0 => k_is); (case kcCb0 => k_is); (case n_one_Cb0 => k_is)
    (case n_other_Cb0 => k_is); (case pgCb1 => k_is); (case hdCb1 => k_is); (case poCb1 => k_is); (case saCb1 => k_is)
    (case mkCb1 => k_is); (case kcCb1 => k_is); (case n_one_Cb1 => k_is); (case n_other_Cb1 => k_is); (case pgCb2 => k_is)
    (case hdCb2 => k_is); (case poCb2 => k_is); (case saCb2 => k_is); (case mkCb2 => k_is); (case kcCb2 => k_is)
    (case n_one_Cb2 => k_is); (case n_other_Cb2 => k_is); (case pgCb3 => k_is); (case hdCb3 => k_is); (case poCb3 => k_is)
    (case saCb3 => k_is); (case mkCb3 => k_is); (case kcCb3 => k_is); (case n_one_Cb3 => k_is); (case n_other_Cb3 => k_is)
    (case pgCb4 => k_is); (case hdCb4 => k_is); (case poCb4 => k_is); (case saCb4 => k_is); (case mkCb4 => k_is)
    (case kcCb4 => k_is); (case n_one_Cb4 => k_is); (case n_other_Cb4 => k_is); (case pgCG => k_is); (case hdCG => k_is)
    (case poCG => k_is); (case saCG => k_is); (case mkCG => k_is); (case kcCG => k_is); (case n_sizes_CG => k_is)
    (case n_rims_CG => k_is); (case pgCJ => k_is); (case hdCJ => k_is); (case poCJ => k_is); (case saCJ => k_is)
    (case mkCJ => k_is); (case kcCJ => k_is); (case n_taken_CJ => k_is); (case n_grid_CJ => k_is); (case n_term_CJ => k_is)
    (case n_modulus_CJ => k_is); (case n_rounds_CJ => k_is); (case n_first_CJ => k_is); (case g_init_Cb1 => k_is); (case g_init_Cb2 => k_is)
    (case g_init_Cb3 => k_is); (case g_init_Cb4 => k_is); (case g_inner_Ctake => k_is); (case g_inner_Cb1 => k_is); (case g_inner_Cb2 => k_is)
    (case g_inner_Cb3 => k_is); (case g_inner_Cb4 => k_is); (case g_takes_Crest => k_is); (case g_takes_Ccho => k_is); (case g_takes_Cb0 => k_is)
    (case g_takes_Cb1 => k_is); (case g_takes_Cb2 => k_is); (case g_takes_Cb3 => k_is); (case g_takes_Cb4 => k_is); (case g_depth_Ctake => k_is)
    (case g_depth_Crest => k_is); (case g_depth_Ccho => k_is); (case g_depth_Cb0 => k_is); (case g_depth_Cb1 => k_is); (case g_depth_Cb2 => k_is)
    (case g_depth_Cb3 => k_is); (case g_depth_Cb4 => k_is); (case g_parts_Ctake => k_is); (case g_parts_Crest => k_is); (case g_parts_Ccho => k_is)
    (case g_parts_Cb0 => k_is); (case g_parts_Cb1 => k_is); (case g_parts_Cb2 => k_is); (case g_parts_Cb3 => k_is); (case g_parts_Cb4 => k_is)
    (case g_own_fault_Cb0 => k_is); (case g_own_fault_Cb1 => k_is); (case g_own_fault_Cb2 => k_is); (case g_own_fault_Cb3 => k_is); (case g_own_fault_Cb4 => k_is)
    (case nd => decide); (case z_isinstance => k_is); (case z_int => k_is); (case z_list => k_is); (case z_tuple => k_is)
    (case z_len => k_is); (case z_range => k_is); (case z_max => k_is); (case z_sorted => k_is); (case z_sum => k_is)
    (case z_set => k_is); (case z_bool => k_is); (case z_all => k_is); (case z_min => k_is); (case z_zip => k_is)
    (case z_enumerate => k_is); (case z_str => k_is); (case q_gn => k_is); (case q_gd => k_is); (case q_gb => k_is)
    (case q_gst => k_is); (case q_mst => k_is); (case q_mdp => k_is); (case q_mpa => k_is); (case q_mtk => k_is)
    (case q_gmo => k_is); (case q_mro => k_is); (case q_msp => k_is); (case q_gf => k_is); (case q_ml => k_is)
    (case q_gs => k_is); (case q_mp => k_is)


