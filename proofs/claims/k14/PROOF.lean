import PyProof.Rows.All
import Wide.All
import OpenK.AllK
import Wide.FinOn
import Lean
import PyProof.EqAt
import PyProof.EqKinds
import PyProof.TupleCall
import PyProof.NeKinds
import PyProof.EnumStmt
import PyProof.EnumMake
import PyProof.EnumFor
import PyProof.ListMulRoad
import PyProof.CompFree
import PyProof.CompMap
import PyProof.Rows.SortWalk
import PyProof.Rows.MinMaxN
import PyProof.Rows.SeqMore2
import PyProof.Rows.SetFrom
import KE.KDictList
import PyProof.SumWalk
import PyProof.WalksMore
import PyProof.TupleIter
import PyProof.ListRange
import KE.KDictSum
import PyProof.AutoListH
import PyProof.FactsAll.list_3
import PyProof.MinMaxWalk
import PyProof.WalkInts
import KE.KMinBuiltin
import PyProof.Rows.CallKwBuiltin
import PyProof.ZipIter
import KE.KItemsList
import PyProof.DictWalks
import PyProof.FactsAll.dict_4
import PyProof.ConsumeWalk
import KE.KRevSl
import KE.KDictOf
import PyProof.Cells
import OpenK.KLine
import KE.KIsAll
import PyProof.AttrMissHeap
import PyProof.DictUpdate
import PyProof.FactsAll.dict_3
import KE.KNestM
import KE.KLam
import PyProof.SliceStr2
import PyProof.StrLaws
import PyProof.StrLawsIn
import PyProof.StrCalls
import PyProof.StrCalls2
import PyProof.FString
import PyProof.Draws
import PyProof.StrWalks
import PyProof.StrLoop
import KE.KIntText
import KE.IntTextLaws
import PyProof.SetKind
import PyProof.DictFindH
import PyProof.IsRules
import PyProof.TupleKey
import PyProof.CollectIter
import PyProof.FactsAll.set
import PyProof.DictIter
import KE.KSortTup
import PyProof.PureInt
import PyProof.EqAt
import PyProof.FactsAll.list
import PyProof.FactsAll.tuple
import PyProof.Rows.SortShell
import PyProof.Rows.IntRules
import PyProof.Walks
import PySem.Challenge.RW_slanttiles_k14_terms_written_and_read
set_option Elab.async false
set_option linter.all false
set_option maxRecDepth 100000
namespace L2
open PySem PySem.Spec PyProof.Rows
abbrev Key:=Sum Int Str
def keyIs:Key->Value->Bool
 | .inl k,v=>Value.isInt k v
 | .inr x,v=>Value.isStrOf x v
def keyH (w:World):Key->Int
 | .inl k=>hashInt k
 | .inr x=>hashStr w x
theorem keyIs_shape:∀{k:Key} {v:Value},keyIs k v=true->(∃i t,k=Sum.inl i/\v=Value.int i t)∨(∃x t,k=Sum.inr x/\v=Value.str x t)
 | .inl i,v,h=>by
  obtain⟨t,e⟩:=Value.isInt_shape (k:=i) (v:=v) h
  exact .inl ⟨i,t,rfl,e⟩
 | .inr x,v,h=>by
  obtain⟨t,e⟩:=Value.isStrOf_shape (x:=x) (v:=v) h
  exact .inr ⟨x,t,rfl,e⟩
theorem keyIs_int (i:Int) (t:Tok):keyIs (.inl i) (.int i t)=true:=by simp [keyIs,Value.isInt]
theorem keyIs_str (x:Str) (t:Tok):keyIs (.inr x) (.str x t)=true:=by simp [keyIs,Value.isStrOf]
theorem key_ll (a b:Int):decide ((Sum.inl a:Key)=Sum.inl b)=(a==b):=by
 by_cases e:a=b
 ·subst e;simp
 ·have h:¬(Sum.inl a:Key)=Sum.inl b:=fun q=>e (Sum.inl.inj q)
  rw [decide_eq_false h]
  exact(beq_eq_false_iff_ne.mpr e).symm
theorem key_rr (a b:Str):decide ((Sum.inr a:Key)=Sum.inr b)=decide (a=b):=by
 by_cases e:a=b
 ·subst e;simp
 ·have h:¬(Sum.inr a:Key)=Sum.inr b:=fun q=>e (Sum.inr.inj q)
  rw [decide_eq_false h,decide_eq_false e]
theorem key_lr (a:Int) (b:Str):decide ((Sum.inl a:Key)=Sum.inr b)=false:=decide_eq_false (fun q=>nomatch q)
theorem key_rl (a:Str) (b:Int):decide ((Sum.inr a:Key)=Sum.inl b)=false:=decide_eq_false (fun q=>nomatch q)
def mixKind (prog:Program) (w:World):PySem.KeyKind prog w Key where
 is:=keyIs
 hash:=keyH w
 inj:=fun v a b ha hb=>by
  rcases keyIs_shape ha with ⟨i,t,rfl,rfl⟩|⟨x,t,rfl,rfl⟩
  ·rcases keyIs_shape hb with ⟨j,u,rfl,e⟩|⟨y,u,rfl,e⟩
   ·injection e with e1 _;rw [e1]
   ·exact nomatch e
  ·rcases keyIs_shape hb with ⟨j,u,rfl,e⟩|⟨y,u,rfl,e⟩
   ·exact nomatch e
   ·injection e with e1 _;rw [e1]
 byValue:=fun k v h=>by
  rcases keyIs_shape h with ⟨i,t,rfl,rfl⟩|⟨x,t,rfl,rfl⟩<;>rfl
 pyHash:=fun hv h=>by
  rcases keyIs_shape hv with ⟨i,t,rfl,rfl⟩|⟨x,t,rfl,rfl⟩
  ·exact wpAny_pyHash_int h
  ·exact wpAny_pyHash_str h
 eqBool:=fun hu hv h=>by
  rcases keyIs_shape hu with ⟨i,t,rfl,rfl⟩|⟨x,t,rfl,rfl⟩
  ·rcases keyIs_shape hv with ⟨j,u,rfl,rfl⟩|⟨y,u,rfl,rfl⟩
   ·rw [key_ll]at h;exact wpAny_eqBool_int h
   ·rw [key_lr]at h;exact SeqAt.EqAt.int_str i t y u _ _ _ _ h
  ·rcases keyIs_shape hv with ⟨j,u,rfl,rfl⟩|⟨y,u,rfl,rfl⟩
   ·rw [key_rl]at h;exact SeqAt.EqAt.str_int x t j u _ _ _ _ h
   ·rw [key_rr]at h;exact wpAny_eqBool_str h
 «strs»:=fun k x t v h=>by
  rcases keyIs_shape h with ⟨i,u,rfl,e⟩|⟨y,u,rfl,e⟩
  ·exact nomatch e
  ·injection e with e1 _
   subst e1
   cases v<;>rfl
theorem mixKind_int (prog:Program) (w:World) (i:Int) (t:Tok):(mixKind prog w).is (.inl i) (.int i t)=true:=keyIs_int i t
theorem mixKind_str (prog:Program) (w:World) (x:Str) (t:Tok):(mixKind prog w).is (.inr x) (.str x t)=true:=keyIs_str x t
end L2
namespace L2
open PySem PySem.Spec PyProof.Rows
inductive V where
 |non|bl (b:Bool)|int (i:Int)|str (x:Str)|byt (b:Array UInt8)|flt (b:UInt64)|ref (a:Addr)|ty (n:String)
 deriving DecidableEq
def RelV:V->Value->Prop
 | .non,u=>u=Value.none
 | .bl b,u=>u=Value.bool b
 | .int i,u=>∃t,u=Value.int i t
 | .str x,u=>∃t,u=Value.str x t
 | .byt b,u=>∃t,u=Value.bytes b t
 | .flt b,u=>∃t,u=Value.float b t
 | .ref a,u=>u=Value.ref a
 | .ty n,u=>u=Value.type n
abbrev Vals:List V->List Value->Prop:=Paired RelV
theorem Vals.length {xs:List V} {us:List Value} (r:Vals xs us):xs.length=us.length:=Paired.length r
theorem Vals.get:∀{xs:List V} {us:List Value} {i:Nat} {x:V},Vals xs us->xs[i]? =some x->∃u,us[i]? =some u/\RelV x u
 |_,_,_,_,.nil,e=>by simp at e
 |_,_,0,_,.cons r _,e=>by simp at e;subst e;exact⟨_,rfl,r⟩
 |_,_,i+1,x,.cons _ t,e=>by
  obtain⟨u,h1,h2⟩:=Vals.get (i:=i) (x:=x) t (by simpa using e)
  exact⟨u,by simpa using h1,h2⟩
theorem Vals.set {x:V} {u:Value} (r:RelV x u):∀{xs:List V} {us:List Value} (i:Nat),Vals xs us->Vals (xs.set i x) (us.set i u)
 |_,_,_,.nil=> .nil
 |_,_,0,.cons _ t=> .cons r t
 |_,_,i+1,.cons q t=> .cons q (Vals.set r i t)
theorem Vals.append:∀{xs ys:List V} {us ws:List Value},Vals xs us->Vals ys ws->Vals (xs++ys) (us++ws)
 |_,_,_,_,.nil,s=>s
 |_,_,_,_,.cons r t,s=> .cons r (Vals.append t s)
def RelO:Option V->Option Value->Prop
 |some v,some u=>RelV v u
 |none,none=>True
 |_,_=>False
def KV {κ:Type}:List (κ×V)->List (κ×Value)->Prop:=Paired fun(p:κ×V) (q:κ×Value)=>p.1=q.1/\RelV p.2 q.2
def kV:Key->V
 | .inl i=> .int i
 | .inr x=> .str x
inductive HO where
 |lst (xs:List V)
 |tup (xs:List V)
 |dK (kvs:List (Key×V))|dT (kvs:List (List Key×V))
 |set (S:Int->Bool) (n:Nat)
 |ins (C dx:Addr) (fs:List (Str×V))
 |own (x:Addr)
 |xd (fs:List (Str×V))
 |met (f x:Addr)
 |rng (lo hi:Int)
 |frz (o:Obj) (u:HO)
 |tbl (ps:Array Value)
 |ext (φ:Heap->Prop)
abbrev Hp:=Addr->Option HO
def upd (H:Hp) (a:Addr) (o:HO):Hp:=fun b=>if b=a then some o else H b
theorem upd_same {H:Hp} {a:Addr} {o:HO}:upd H a o a=some o:=by unfold upd;rw [if_pos rfl]
theorem upd_ne {H:Hp} {a b:Addr} {o:HO} (h:b≠a):upd H a o b=H b:=by unfold upd;rw [if_neg h]
theorem ne_of {H:Hp} {a b:Addr} {o u:HO} (h:H a=some o) (h':H b=some u) (d:o≠u):a≠b:=by
 intro e;subst e;rw [h]at h';exact d (Option.some.inj h')
theorem ne_of_none {H:Hp} {a b:Addr} {o:HO} (h:H a=some o) (h':H b=none):a≠b:=by
 intro e;subst e;rw [h]at h';cases h'
section
variable (P:Program) (w:World)
def ObjOk (H:Hp) (h:Heap) (a:Addr):HO->Prop
 | .lst xs=>xs.length<=sizeLine/\∃(its:List Value) (n:Nat),Vals xs its/\h.get? a=some {cls:= .type "list",data:= .seq its.toArray n}
 | .tup xs=>xs.length<=sizeLine/\∃its:List Value,Vals xs its/\IsTup h a its.toArray
 | .dK kvs=>kvs.length<=sizeLine/\(a==sysModules)=false/\∃vs,KV kvs vs/\h.DictOf (mixKind P w) a vs
 | .dT kvs=>kvs.length<=sizeLine/\(a==sysModules)=false/\∃xs:List (List Key×Addr×Value),
   Paired (fun(p:List Key×V) (q:List Key×Addr×Value)=>p.1=q.1/\H q.2.1=some (.tup (p.1.map kV))/\RelV p.2 q.2.2) kvs xs/\
   ∃o es ep,h.get? a=some o/\o.ExactDict/\o.data= .dict es ep/\es.toList=xs.map (entryOfKey (tupleKind (mixKind P w)))/\(xs.map (·.1)).Nodup
 | .set S n=>h.SetOf (intKind P w) a S n
 | .ins C dx fs=>H dx=some (.own a)/\fs.length<=1000/\dx≠a/\h.get? a=some (PySem.W.instObj C dx)/\
   ∃mA,h.Ns1 dx mA/\(∀f,RelO (fs.lookup f) (mA f))/\PySem.Within mA (fs.map (·.1))
 | .own _=>∃o,h.get? a=some o
 | .xd fs=>∃mA,h.Ns1 a mA/\∀f,RelO (fs.lookup f) (mA f)
 | .rng lo hi=>∃t u v,h.get? a=some {cls:= .type "range",data:= .fields #[.int lo t,.int hi u,.int 1 v]}
 | .frz o u=>h.get? a=some o/\ObjOk H h a u
 | .tbl ps=>h.get? a=some {cls:= .none,data:= .fields ps}
 | .met f x=>h.get? a=some (PySem.W.methodObj (.ref f) (.ref x))
 | .ext φ=>φ h/\(∃o,h.get? a=some o)/\∀h1 h2:Heap,φ h1->(∀o,h1.get? a=some o->h2.get? a=some o)->φ h2
def HOk (H:Hp) (h:Heap):Prop:=∀a o,H a=some o->ObjOk P w H h a o
end
section
variable {P:Program} {w:World} {H H':Hp} {h h':Heap} {a:Addr} {o:HO}
theorem ObjOk.lt (x:ObjOk P w H h a o):a<h.objs.size:=by
 cases o with
 |lst xs=>obtain⟨_,_,_,_,e⟩:=x;exact Heap.lt_size e
 |tup xs=>obtain⟨_,_,_,p⟩:=x;exact p.lt
 |dK kvs=>obtain⟨_,_,_,_,o,_,_,e,_⟩:=x;exact Heap.lt_size e
 |dT kvs=>obtain⟨_,_,_,_,o,_,_,e,_⟩:=x;exact Heap.lt_size e
 |set S n=>obtain⟨o,_,_,_,e,_⟩:=x;exact Heap.lt_size e
 |ins C dx fs=>obtain⟨_,_,_,e,_⟩:=x;exact Heap.lt_size e
 |own y=>obtain⟨_,e⟩:=x;exact Heap.lt_size e
 |xd fs=>obtain⟨_,⟨_,_,_,e,_⟩,_⟩:=x;exact Heap.lt_size e
 |rng lo hi=>obtain⟨_,_,_,e⟩:=x;exact Heap.lt_size e
 |frz ob u=>obtain⟨e,_⟩:=x;exact Heap.lt_size e
 |tbl ps=>exact Heap.lt_size (show h.get? a=some _ from x)
 |met f y=>exact Heap.lt_size (show h.get? a=some _ from x)
 |ext φ=>obtain⟨_,⟨_,e⟩,_⟩:=x;exact Heap.lt_size e
theorem Paired.mapP {α β:Type} {F G:α->β->Prop}:∀{l₁:List α} {l₂:List β},Paired F l₁ l₂->(∀a b,F a b->G a b)->Paired G l₁ l₂
 |_,_,.nil,_=> .nil
 |_,_,.cons r t,f=> .cons (f _ _ r) (Paired.mapP t f)
theorem ObjOk.stay (x:ObjOk P w H h a o) (k:∀b u,(b=a∨H b=some (.own a))->h.get? b=some u->h'.get? b=some u)
  (ho:∀b,H b=some (.own a)->H' b=some (.own a)) (ht:∀b xs,H b=some (.tup xs)->H' b=some (.tup xs)):ObjOk P w H' h' a o:=by
 induction o with
 |lst xs=>obtain⟨z,its,n,r,e⟩:=x;exact⟨z,its,n,r,k _ _ (.inl rfl) e⟩
 |tup xs=>obtain⟨z,its,r,ob,e,c⟩:=x;exact⟨z,its,r,ob,k _ _ (.inl rfl) e,c⟩
 |dK kvs=>obtain⟨z,y,vs,r,ob,es,ep,e,c⟩:=x;exact⟨z,y,vs,r,ob,es,ep,k _ _ (.inl rfl) e,c⟩
 |dT kvs=>
  obtain⟨z,y,xs,r,ob,es,ep,e,c⟩:=x
  exact⟨z,y,xs,Paired.mapP r fun p q z=>⟨z.1,ht _ _ z.2.1,z.2.2⟩,ob,es,ep,k _ _ (.inl rfl) e,c⟩
 |set S n=>obtain⟨ob,es,ep,t,e,c⟩:=x;exact⟨ob,es,ep,t,k _ _ (.inl rfl) e,c⟩
 |ins C dx fs=>
  obtain⟨d,z,ne,e,mA,⟨od,es,ep,e2,c⟩,r⟩:=x
  exact⟨ho _ d,z,ne,k _ _ (.inl rfl) e,mA,⟨od,es,ep,k _ _ (.inr d) e2,c⟩,r⟩
 |own y=>obtain⟨ob,e⟩:=x;exact⟨ob,k _ _ (.inl rfl) e⟩
 |xd fs=>obtain⟨mA,⟨od,es,ep,e,c⟩,r⟩:=x;exact⟨mA,⟨od,es,ep,k _ _ (.inl rfl) e,c⟩,r⟩
 |rng lo hi=>obtain⟨t,u,v,e⟩:=x;exact⟨t,u,v,k _ _ (.inl rfl) e⟩
 |frz ob u ih=>obtain⟨e,q⟩:=x;exact⟨k _ _ (.inl rfl) e,ih q⟩
 |tbl ps=>
  have e:h.get? a=some {cls:= .none,data:= .fields ps}:=x
  show h'.get? a=some {cls:= .none,data:= .fields ps}
  exact k a _ (.inl rfl) e
 |met f y=>
  have e:h.get? a=some (PySem.W.methodObj (.ref f) (.ref y)):=x
  show h'.get? a=some (PySem.W.methodObj (.ref f) (.ref y))
  exact k a _ (.inl rfl) e
 |ext φ=>obtain⟨p,⟨o,e⟩,st⟩:=x;exact⟨st _ _ p fun o q=>k _ _ (.inl rfl) q,⟨o,k _ _ (.inl rfl) e⟩,st⟩
theorem HOk.lt (x:HOk P w H h) (e:H a=some o):a<h.objs.size:=(x a o e).lt
theorem HOk.fresh (x:HOk P w H h) (e:h.objs.size<=a):H a=none:=by
 cases q:H a with
 |none=>rfl
 |some u=>exact absurd (Nat.lt_of_lt_of_le (x.lt q) e) (Nat.lt_irrefl _)
theorem HOk.kept (x:HOk P w H h) (k:∀b u,h.get? b=some u->h'.get? b=some u):HOk P w H h':=fun a o e=>
 (x a o e).stay (fun b u _ q=>k b u q) (fun _ q=>q) fun _ _ q=>q
theorem HOk.laid (x:HOk P w H h) (k:∀b u,h.get? b=some u->h'.get? b=some u) (hp:h.objs.size<=a) (new:ObjOk P w (upd H a o) h' a o):HOk P w (upd H a o) h':=fun b u e=>by
 have hn:=x.fresh hp
 by_cases hb:b=a
 ·subst hb;rw [upd_same]at e;cases e;exact new
 ·rw [upd_ne hb]at e
  exact(x b u e).stay (fun c v _ q=>k c v q) (fun c q=>by rw [upd_ne (ne_of_none q hn)];exact q) fun c xs q=>by rw [upd_ne (ne_of_none q hn)];exact q
end
def Rd (H:Hp) (a:Addr) (u:HO):Prop:=H a=some u∨∃o,H a=some (.frz o u)
theorem Rd.ok {P:Program} {w:World} {H:Hp} {h:Heap} {a:Addr} {u:HO} (r:Rd H a u) (x:HOk P w H h):ObjOk P w H h a u:=by
 rcases r with r|⟨o,r⟩
 ·exact x a u r
 ·obtain⟨_,q⟩:=x a _ r
  exact q
def Mut:Option HO->Prop
 |some (.lst _)=>True
 |some (.dK _)=>True
 |some (.dT _)=>True
 |some (.set _ _)=>True
 |some (.ins _ _ _)=>True
 |some (.ext _)=>True
 |_=>False
section
variable {P:Program} {w:World} {H:Hp} {h h':Heap} {x e:Addr} {o':HO}
theorem HOk.write (ok:HOk P w H h) (mu:Mut (H x)) (he:e=x∨H e=some (.own x)) (k:∀b u,b≠e->h.get? b=some u->h'.get? b=some u) (heo:∃u,h'.get? e=some u)
  (new:ObjOk P w (upd H x o') h' x o'):HOk P w (upd H x o') h':=fun b u q=>by
 have nown:∀c y,H c=some (.own y)->c≠x:=fun c y r z=>by subst z;rw [r]at mu;exact mu
 have ntup:∀c xs,H c=some (.tup xs)->c≠x:=fun c xs r z=>by subst z;rw [r]at mu;exact mu
 by_cases hb:b=x
 ·subst hb;rw [upd_same]at q;cases q;exact new
 ·rw [upd_ne hb]at q
  by_cases hbe:b=e
  ·have q':H b=some (.own x):=by
    rcases he with z|z
    ·exact absurd (hbe.trans z) hb
    ·rw [hbe];exact z
   rw [q]at q';cases q'
   obtain⟨v,hv⟩:=heo
   exact⟨v,by rw [hbe];exact hv⟩
  ·refine(ok b u q).stay (fun c v hc r=>k c v ?_ r) (fun c r=>by rw [upd_ne (nown c b r)];exact r) fun c xs r=>by rw [upd_ne (ntup c xs r)];exact r
   rcases hc with rfl|hc
   ·exact hbe
   ·rintro rfl
    rcases he with z|z
    ·exact nown c b hc z
    ·rw [hc]at z;cases z;exact hb rfl
end
structure Un (fs ex:List Addr) (H H':Hp) (h h':Heap):Prop where
 keep:∀b o,h.get? b=some o->H b=none->b∉fs->b∉ex->h'.get? b=some o
 slot:∀b o,h.get? b=some o->H b=none->b∈fs->b∉ex->∃sl,h'.get? b=some {o with slots:=sl}
 free:∀b o,h.get? b=some o->H b=none->b∉ex->H' b=none
 there:∀b o,h.get? b=some o->b∉ex->∃o',h'.get? b=some o'
 tups:∀b xs,H b=some (.tup xs)->H' b=some (.tup xs)
 frzs:∀b o u,H b=some (.frz o u)->H' b=some (.frz o u)
 tbls:∀b ps,H b=some (.tbl ps)->∃more,H' b=some (.tbl (ps++more))
section
variable {fs fs' ex ex':List Addr} {H H1 H2:Hp} {h h1 h2 h':Heap} {a x e:Addr} {o:HO}
theorem Un.any (u:Un fs ex H H1 h h1) {b:Addr} {ob:Obj} (q:h.get? b=some ob) (n:H b=none) (hx:b∉ex):∃sl,h1.get? b=some {ob with slots:=sl}:=by
 by_cases hb:b∈fs
 ·exact u.slot b ob q n hb hx
 ·exact⟨ob.slots,u.keep b ob q n hb hx⟩
theorem Un.kept (k:∀b u,h.get? b=some u->h'.get? b=some u):Un fs ex H H h h':=
 ⟨fun b ob q _ _ _=>k b ob q,fun b ob q _ _ _=>⟨ob.slots,k b ob q⟩,fun _ _ _ n _=>n,fun b ob q _=>⟨ob,k b ob q⟩,fun _ _ q=>q,fun _ _ _ q=>q,fun _ ps q=>⟨#[],by rw [q];simp⟩⟩
theorem Un.refl:Un fs ex H H h h:=Un.kept fun _ _ q=>q
theorem Un.laid (k:∀b u,h.get? b=some u->h'.get? b=some u) (hp:h.objs.size<=a) (hn:H a=none):Un fs ex H (upd H a o) h h' where
 keep:=fun b u q _ _ _=>k b u q
 slot:=fun b u q _ _ _=>⟨u.slots,k b u q⟩
 free:=fun b u q n _=>by rw [upd_ne (Nat.ne_of_lt (Nat.lt_of_lt_of_le (Heap.lt_size q) hp))];exact n
 there:=fun b u q _=>⟨u,k b u q⟩
 tups:=fun b xs q=>by rw [upd_ne (ne_of_none q hn)];exact q
 frzs:=fun b u xs q=>by rw [upd_ne (ne_of_none q hn)];exact q
 tbls:=fun b ps q=>⟨#[],by rw [upd_ne (ne_of_none q hn),q];simp⟩
theorem Un.write (mu:Mut (H x)) (he:e=x∨H e=some (.own x)) (k:∀b u,b≠e->h.get? b=some u->h'.get? b=some u) (heo:∃u,h'.get? e=some u):Un fs ex H (upd H x o) h h':=by
 have hx:∀b,H b=none->b≠x:=fun b n z=>by subst z;rw [n]at mu;exact mu
 have hb:∀b,H b=none->b≠e:=fun b n z=>by
  subst z
  rcases he with r|r
  ·exact hx b n r
  ·rw [n]at r;cases r
 have hm:∀b u,H b=some u->¬Mut (some u)->b≠x:=fun b u q nm z=>by subst z;rw [q]at mu;exact nm mu
 refine⟨fun b u q n _ _=>k b u (hb b n) q,fun b u q n _ _=>⟨u.slots,k b u (hb b n) q⟩,fun b u q n _=>by rw [upd_ne (hx b n)];exact n,fun b u q _=>?_,
  fun b xs q=>by rw [upd_ne (hm b _ q fun z=>z)];exact q,fun b u xs q=>by rw [upd_ne (hm b _ q fun z=>z)];exact q,fun b ps q=>⟨#[],by rw [upd_ne (hm b _ q fun z=>z),q];simp⟩⟩
 by_cases hbe:b=e
 ·subst hbe;exact heo
 ·exact⟨u,k b u hbe q⟩
end
def trk (h:Heap) (H:Hp):List Addr:=(List.range h.objs.size).filter fun a=>(H a).isSome
def hidT (h:Heap) (H:Hp):Heap:=PySem.W.hideAll h (trk h H)
theorem hidT_size (h:Heap) (H:Hp):(hidT h H).objs.size=h.objs.size:=PySem.W.hideAll_size _ _
theorem hidT_get {h:Heap} {H:Hp} {b:Addr} {o:Obj} (e:h.get? b=some o) (n:H b=none):(hidT h H).get? b=some o:=
 PySem.W.hideAll_get _ e fun hm=>by
  have q:(H b).isSome=true:=(List.mem_filter.mp hm).2
  rw [n]at q;simp at q
theorem of_hidT {h:Heap} {H:Hp} {b:Addr} {o:Obj} (e:(hidT h H).get? b=some o):h.get? b=some o/\H b=none:=by
 have e':h.get? b=some o:=PySem.W.of_hideAll (trk h H) e
 refine⟨e',?_⟩
 cases q:H b with
 |none=>rfl
 |some x=>
  have hm:b∈trk h H:=List.mem_filter.mpr ⟨List.mem_range.mpr (Heap.lt_size e'),by simp [q]⟩
  have z:(hidT h H).get? b=none:=PySem.W.hideAll_none (trk h H) hm
  rw [z]at e;cases e
end L2
namespace L2
open PySem PySem.Spec PyProof.Rows
structure Mod (K:PySem.W.Frag) (mg:Str->Option Value) (base:Heap):Prop where
 kin:K.In base
 glob:base.Ns mainGlobals mg
 blt:∃mb,base.Ns builtinsNs mb/\∀x:Str,x≠"__name__"->mb x=bootBuiltins x
 nolimit:base.NoLimit
structure Cx where
 prog:Program
 w:World
 K:PySem.W.Frag
 mg:Str->Option Value
 base:Heap
 A:Around
 N:List Str
 s₀:Shared
 H₀:Hp
 env:Env
 outer:List Env
 stack:List Env
 ex:List Addr
 fn:Str->Bool
 calm:Bool
 pn:List (Addr×Obj)
 xe:Value->Shared->Prop
def frs (l:List Env):List Addr:=l.filterMap (·.frame)
abbrev Cx.fs (X:Cx):List Addr:=frs X.outer
def Vis (sc:Scope) (x:Str):Prop:=sc.names.lookup x=some .local∨sc.names.lookup x=some .cell∨sc.names.lookup x=some .free
def Loc (sc:Scope) (x:Str):Prop:=sc.names.lookup x=some .local∨sc.names.lookup x=some .cell
def Look (env:Env) (h:Heap) (m:Str->Option Value) (x:Str) (u:Value):Prop:=
 (env.kindOf x=some .local/\m x=some u)∨((env.kindOf x=some .cell∨env.kindOf x=some .free)/\∃c,env.cells.lookup x=some c/\h.IsCell c (some u))
structure Cx.Ok (X:Cx):Prop where
 mod:Mod X.K X.mg X.base
 kind:X.env.scope.kind= .function
 glob:X.env.globals=mainGlobals
 blt:X.env.builtins=builtinsNs
 above:X.s₀.heap.objs.size<=X.env.locals
 inj:∀x y c,X.env.cells.lookup x=some c->X.env.cells.lookup y=some c->x=y
 has:∀x,(X.env.kindOf x=some .cell∨X.env.kindOf x=some .free)->∃c,X.env.cells.lookup x=some c
 cab:∀x c,X.fn x=true->X.env.cells.lookup x=some c->X.s₀.heap.objs.size<=c
 hd:X.calm=true->X.A.handled=none
 frames:X.A.frames=some X.stack
 stk:X.stack=X.outer∨(X.stack=X.env::X.outer/\X.env.frame=some X.env.locals)
 exf:∀b∈X.ex,b≠X.env.locals/\∀x c,X.env.cells.lookup x=some c->c≠b
 bs:∀b o,X.base.get? b=some o->X.s₀.heap.get? b=some o/\X.H₀ b=none
 bsz:X.base.objs.size<=X.s₀.heap.objs.size
 noex:∀b o,X.base.get? b=some o->b∉X.ex
 exfs:∀b∈X.ex,b∉X.fs
 funs:X.s₀.heap.FunFrames X.base X.outer
 frf:∀b∈X.fs,X.H₀ b=none
structure Inv (X:Cx) (pins:List (Addr×Obj)) (σ:List (Option V)) (H:Hp) (s:Shared):Prop where
 ok:X.Ok
 os:s.os=X.s₀.os
 bare:AllBare s.gens
 base:Un X.fs X.ex X.H₀ H X.s₀.heap s.heap
 loc:∃m,s.heap.Ns X.env.locals m/\∀(i:Nat) (x:Str) (v:V),X.N[i]? =some x->σ[i]? =some (some v)->Vis X.env.scope x->∃u,RelV v u/\Look X.env s.heap m x u
 cell:∀x c,X.env.cells.lookup x=some c->∃v,s.heap.IsCell c v
 free:H X.env.locals=none
 freeC:∀x c,X.env.cells.lookup x=some c->H c=none
 pin:∀p∈X.pn++pins,s.heap.get? p.1=some p.2/\H p.1=none/\p.1≠X.env.locals/\p.1∉X.fs/\∀v,p.2.data≠ .cell v
 hok:HOk X.prog X.w H s.heap
 len:σ.length=X.N.length
section
variable {X:Cx} {pins:List (Addr×Obj)} {σ:List (Option V)} {H H':Hp} {s:Shared} {h':Heap}
theorem Cx.Ok.nofr (ok:X.Ok) {b:Addr} {o:Obj} (e:X.base.get? b=some o):b∉X.fs:=fun hb=>by
 have:=(ok.funs.mem hb).1
 rw [e]at this;cases this
theorem Inv.bs (I:Inv X pins σ H s):∀b o,X.base.get? b=some o->s.heap.get? b=some o/\H b=none:=fun b o e=>
 ⟨I.base.keep b o (I.ok.bs b o e).1 (I.ok.bs b o e).2 (I.ok.nofr e) (I.ok.noex b o e),I.base.free b o (I.ok.bs b o e).1 (I.ok.bs b o e).2 (I.ok.noex b o e)⟩
theorem Inv.bk (I:Inv X pins σ H s):∀b o,X.base.get? b=some o->s.heap.get? b=some o:=fun b o e=>(I.bs b o e).1
theorem Inv.mod (I:Inv X pins σ H s):Mod X.K X.mg X.base:=I.ok.mod
theorem Inv.kIn (I:Inv X pins σ H s):X.K.In s.heap:=I.ok.mod.kin.keeps I.bk
theorem Inv.lt (I:Inv X pins σ H s):X.env.locals<s.heap.objs.size:=let⟨_,hn,_⟩:=I.loc;hn.lt
theorem Inv.sz (I:Inv X pins σ H s):X.s₀.heap.objs.size<=s.heap.objs.size:=Nat.le_trans I.ok.above (Nat.le_of_lt I.lt)
theorem Inv.nofs (I:Inv X pins σ H s) {a:Addr} (h:s.heap.objs.size<=a):a∉X.fs:=fun hb=>by
 obtain⟨_,o,ho,_⟩:=I.ok.funs.mem hb
 exact absurd (Nat.lt_of_lt_of_le (Heap.lt_size ho) (Nat.le_trans I.sz h)) (Nat.lt_irrefl _)
theorem Inv.cne (I:Inv X pins σ H s):∀x c,X.env.cells.lookup x=some c->c≠X.env.locals:=fun x c e z=>by
 obtain⟨v,o,ho,hd⟩:=I.cell x c e
 obtain⟨m,⟨o',es,ep,ho',hd',_⟩,_⟩:=I.loc
 rw [z,ho']at ho;cases ho;rw [hd']at hd;cases hd
theorem Inv.funs (I:Inv X pins σ H s):s.heap.FunFrames X.base X.outer:=by
 have all:∀(l:List Env),(∀b∈frs l,b∈X.fs)->X.s₀.heap.FunFrames X.base l->s.heap.FunFrames X.base l:=by
  intro l
  induction l with
  |nil=>intro _ _;trivial
  |cons env r ih=>
   intro hs hl
   obtain⟨hk,⟨L,o,hf,hn,ho,hd⟩,hr⟩:=hl
   have hL:L∈X.fs:=hs L (by unfold frs;rw [List.filterMap_cons,hf];exact List.mem_cons_self)
   obtain⟨sl,e⟩:=I.base.slot L o ho (I.ok.frf L hL) hL fun z=>I.ok.exfs L z hL
   exact⟨hk,⟨L,_,hf,hn,e,hd⟩,ih (fun b hb=>hs b (by unfold frs;rw [List.filterMap_cons,hf];exact List.mem_cons_of_mem _ hb)) hr⟩
 exact all X.outer (fun _ hb=>hb) I.ok.funs
theorem Inv.stack (I:Inv X pins σ H s):s.heap.FunFrames X.base X.stack:=by
 rcases I.ok.stk with e|⟨e,hf⟩
 ·rw [e];exact I.funs
 ·rw [e]
  obtain⟨m,hn,_⟩:=I.loc
  refine .cons (by rw [I.ok.kind];decide) hf hn ?_ I.funs
  exact Heap.get?_none_of_le (Nat.le_trans I.ok.bsz I.ok.above)
theorem Inv.stkSub (I:Inv X pins σ H s):∀b∈frs X.stack,b∈X.env.locals::X.fs:=fun b hb=>by
 rcases I.ok.stk with e|⟨e,hf⟩
 ·rw [e]at hb;exact List.mem_cons_of_mem _ hb
 ·rw [e]at hb
  unfold frs at hb
  rw [List.filterMap_cons,hf]at hb
  exact hb
theorem Inv.stkFree (I:Inv X pins σ H s):∀b∈frs X.stack,H b=none:=fun b hb=>by
 rcases List.mem_cons.mp (I.stkSub b hb)with e|hb
 ·rw [e];exact I.free
 ·obtain⟨_,o,ho,_⟩:=I.ok.funs.mem hb
  exact I.base.free b o ho (I.ok.frf b hb) fun z=>I.ok.exfs b z hb
theorem Inv.step {g':Array GenState} {t':Nat} {d':Drawn} {ch:List Addr} (I:Inv X pins σ H s)
  (hch:∀b∈ch,(b∈X.ex∨X.s₀.heap.objs.size<=b)/\b≠X.env.locals/\(∀x c,X.env.cells.lookup x=some c->c≠b)/\∀p∈X.pn++pins,p.1≠b)
  (keep:∀b o,b≠X.env.locals->b∉X.fs->b∉ch->s.heap.get? b=some o->H b=none->h'.get? b=some o)
  (slot:∀b o,b≠X.env.locals->b∈X.fs->b∉ch->s.heap.get? b=some o->H b=none->∃sl,h'.get? b=some {o with slots:=sl}) (free:∀b o,b∉ch->s.heap.get? b=some o->H b=none->H' b=none)
  (there:∀b o,b∉ch->s.heap.get? b=some o->∃o',h'.get? b=some o')
  (tups:∀b xs,H b=some (.tup xs)->H' b=some (.tup xs)) (frzs:∀b o u,H b=some (.frz o u)->H' b=some (.frz o u)) (tbls:∀b ps,H b=some (.tbl ps)->∃more,H' b=some (.tbl (ps++more)))
  (ns:∀m,s.heap.Ns X.env.locals m->h'.Ns X.env.locals m) (hok:HOk X.prog X.w H' h') (hg:AllBare g'):
  Inv X pins σ H' {s with heap:=h',gens:=g',drawn:=d',toks:=t'}:=by
 have neL:∀b o,X.s₀.heap.get? b=some o->b≠X.env.locals:=fun b o e=>Nat.ne_of_lt (Nat.lt_of_lt_of_le (Heap.lt_size e) I.ok.above)
 have neC:∀b o,X.s₀.heap.get? b=some o->b∉X.ex->b∉ch:=fun b o e hx hb=>by
  rcases (hch b hb).1 with z|z
  ·exact hx z
  ·exact absurd (Nat.lt_of_lt_of_le (Heap.lt_size e) z) (Nat.lt_irrefl _)
 have cellK:∀x c,X.env.cells.lookup x=some c->∀v,s.heap.IsCell c v->h'.IsCell c v:=fun x c e v ⟨o,ho,hd⟩=>by
  have nch:c∉ch:=fun z=>(hch c z).2.2.1 x c e rfl
  by_cases hc:c∈X.fs
  ·obtain⟨sl,q⟩:=slot c o (I.cne x c e) hc nch ho (I.freeC x c e)
   exact⟨_,q,hd⟩
  ·exact⟨o,keep c o (I.cne x c e) hc nch ho (I.freeC x c e),hd⟩
 refine⟨I.ok,I.os,hg,⟨fun b o e n hb hx=>?_,fun b o e n hb hx=>?_,fun b o e n hx=>?_,fun b o e hx=>?_,fun b xs e=>tups b xs (I.base.tups b xs e),fun b o xs e=>frzs b o xs (I.base.frzs b o xs e),fun b ps e=>?_⟩,?_,fun x c e=>?_,?_,fun x c e=>?_,fun p hp=>?_,hok,I.len⟩
 ·exact keep b o (neL b o e) hb (neC b o e hx) (I.base.keep b o e n hb hx) (I.base.free b o e n hx)
 ·obtain⟨sl,e1⟩:=I.base.slot b o e n hb hx
  obtain⟨sl',e2⟩:=slot b _ (neL b o e) hb (neC b o e hx) e1 (I.base.free b o e n hx)
  exact⟨sl',e2⟩
 ·obtain⟨o',e1⟩:=I.base.there b o e hx
  exact free b o' (neC b o e hx) e1 (I.base.free b o e n hx)
 ·obtain⟨o',e1⟩:=I.base.there b o e hx
  exact there b o' (neC b o e hx) e1
 ·obtain⟨m1,e1⟩:=I.base.tbls b ps e
  obtain⟨m2,e2⟩:=tbls b _ e1
  exact⟨m1++m2,by rw [e2,Array.append_assoc]⟩
 ·obtain⟨m,hn,hl⟩:=I.loc
  refine⟨m,ns m hn,fun i x v e1 e2 e3=>?_⟩
  obtain⟨u,r,l⟩:=hl i x v e1 e2 e3
  refine⟨u,r,?_⟩
  rcases l with l|⟨k,c,e,z⟩
  ·exact .inl l
  ·exact .inr ⟨k,c,e,cellK x c e _ z⟩
 ·obtain⟨v,z⟩:=I.cell x c e
  exact⟨v,cellK x c e v z⟩
 ·obtain⟨m,⟨o,_,_,ho,_⟩,_⟩:=I.loc
  exact free _ o (fun z=>(hch _ z).2.1 rfl) ho I.free
 ·obtain⟨v,o,ho,hd⟩:=I.cell x c e
  exact free c o (fun z=>(hch c z).2.2.1 x c e rfl) ho (I.freeC x c e)
 ·obtain⟨e,n,ne,nf,d⟩:=I.pin p hp
  have nch:p.1∉ch:=fun z=>(hch p.1 z).2.2.2 p hp rfl
  exact⟨keep p.1 p.2 ne nf nch e n,free p.1 p.2 nch e n,ne,nf,d⟩
theorem Inv.un {t':Nat} (I:Inv X pins σ H s) (u:Un X.fs [] H H' s.heap h') (hok:HOk X.prog X.w H' h'):Inv X pins σ H' {s with heap:=h',toks:=t'}:=by
 obtain⟨m,⟨o,es,ep,ho,r⟩,_⟩:=id I.loc
 obtain⟨sl,hL⟩:=u.any ho I.free (by simp)
 exact I.step (g':=s.gens) (d':=s.drawn) (ch:=[]) (fun _ z=>nomatch z) (fun b o _ hb _ e n=>u.keep b o e n hb (by simp)) (fun b o _ hb _ e n=>u.slot b o e n hb (by simp)) (fun b o _ e n=>u.free b o e n (by simp)) (fun b o _ e=>u.there b o e (by simp)) u.tups u.frzs u.tbls (fun m' hm=>by
  obtain⟨o',es',ep',ho',r'⟩:=hm
  rw [ho]at ho';cases ho'
  exact⟨_,es',ep',hL,r'⟩) hok I.bare
theorem Inv.call {g':Array GenState} {t':Nat} {d':Drawn} {ch:List Addr} (I:Inv X pins σ H s) (u:Un (frs X.stack) ch H H' s.heap h') (hok:HOk X.prog X.w H' h') (hg:AllBare g')
  (hch:∀b∈ch,(b∈X.ex∨X.s₀.heap.objs.size<=b)/\b≠X.env.locals/\(∀x c,X.env.cells.lookup x=some c->c≠b)/\∀p∈X.pn++pins,p.1≠b):
  Inv X pins σ H' {s with heap:=h',gens:=g',drawn:=d',toks:=t'}:=by
 obtain⟨m,⟨o,es,ep,ho,r⟩,_⟩:=id I.loc
 obtain⟨sl,hL⟩:=u.any ho I.free fun z=>(hch _ z).2.1 rfl
 exact I.step (ch:=ch) hch (fun b o hL hb hc e n=>u.keep b o e n (fun z=>(List.mem_cons.mp (I.stkSub b z)).elim hL hb) hc) (fun b o _ _ hc e n=>u.any e n hc) (fun b o hc e n=>u.free b o e n hc) (fun b o hc e=>u.there b o e hc) u.tups u.frzs u.tbls (fun m' hm=>by
  obtain⟨o',es',ep',ho',r'⟩:=hm
  rw [ho]at ho';cases ho'
  exact⟨_,es',ep',hL,r'⟩) hok hg
theorem Inv.turned {t':Nat} {it:Addr} (I:Inv X pins σ H s) (k:∀b o,b≠it->s.heap.get? b=some o->h'.get? b=some o) (hn:H it=none) (hL:it≠X.env.locals)
  (h1:it∈X.ex∨X.s₀.heap.objs.size<=it) (h2:∀x c,X.env.cells.lookup x=some c->c≠it) (h3:∀p∈X.pn++pins,p.1≠it):Inv X pins σ H {s with heap:=h',toks:=t'}:=by
 have nit:∀b u,H b=some u->b≠it:=fun b u e z=>by rw [z,hn]at e;cases e
 refine I.step (g':=s.gens) (d':=s.drawn) (ch:=[it]) (fun b hb=>?_) (fun b o _ _ hc e _=>k b o (fun z=>hc (by simp [z])) e) (fun b o _ _ hc e _=>⟨o.slots,k b o (fun z=>hc (by simp [z])) e⟩) (fun _ _ _ _ n=>n)
  (fun b o hc e=>⟨o,k b o (fun z=>hc (by simp [z])) e⟩) (fun _ _ e=>e) (fun _ _ _ e=>e) (fun b ps e=>⟨#[],by rw [e];simp⟩) (fun m hm=>?_) (fun b u e=>?_) I.bare
 ·have e:b=it:=by simpa using hb
  subst e
  exact⟨h1,hL,h2,h3⟩
 ·obtain⟨o,es,ep,ho,r⟩:=hm
  exact⟨o,es,ep,k _ o (Ne.symm hL) ho,r⟩
 ·refine(I.hok b u e).stay (fun c v hc q=>k c v ?_ q) (fun _ q=>q) fun _ _ q=>q
  rcases hc with z|z
  ·rw [z];exact nit b u e
  ·exact nit c _ z
theorem Inv.tok (I:Inv X pins σ H s) (t:Nat):Inv X pins σ H {s with toks:=t}:=I.un (h':=s.heap) (t':=t) Un.refl I.hok
theorem Inv.kept {t':Nat} (I:Inv X pins σ H s) (k:∀b u,s.heap.get? b=some u->h'.get? b=some u):Inv X pins σ H {s with heap:=h',toks:=t'}:=I.un (Un.kept k) (I.hok.kept k)
theorem Inv.laid {a:Addr} {o:HO} {t':Nat} (I:Inv X pins σ H s) (k:∀b u,s.heap.get? b=some u->h'.get? b=some u) (hp:s.heap.objs.size<=a) (new:ObjOk X.prog X.w (upd H a o) h' a o):
  Inv X pins σ (upd H a o) {s with heap:=h',toks:=t'}:=I.un (Un.laid k hp (I.hok.fresh hp)) (I.hok.laid k hp new)
theorem Inv.write {x e:Addr} {o:HO} {t':Nat} (I:Inv X pins σ H s) (mu:Mut (H x)) (he:e=x∨H e=some (.own x)) (k:∀b u,b≠e->s.heap.get? b=some u->h'.get? b=some u) (heo:∃u,h'.get? e=some u)
  (new:ObjOk X.prog X.w (upd H x o) h' x o):Inv X pins σ (upd H x o) {s with heap:=h',toks:=t'}:=I.un (Un.write mu he k heo) (I.hok.write mu he k heo new)
theorem Inv.pins_of {pins':List (Addr×Obj)} (I:Inv X pins σ H s) (h:∀p∈pins',s.heap.get? p.1=some p.2/\H p.1=none/\p.1≠X.env.locals/\p.1∉X.fs/\∀v,p.2.data≠ .cell v):Inv X pins' σ H s:=
 ⟨I.ok,I.os,I.bare,I.base,I.loc,I.cell,I.free,I.freeC,fun p hp=>(List.mem_append.mp hp).elim (fun z=>I.pin p (List.mem_append_left _ z)) (h p),I.hok,I.len⟩
theorem nodup_ix {N:List Str} (hN:N.Nodup) {i j:Nat} {x:Str} (a:N[i]? =some x) (b:N[j]? =some x):i=j:=by
 obtain⟨h1,e1⟩:=List.getElem?_eq_some_iff.mp a
 obtain⟨h2,e2⟩:=List.getElem?_eq_some_iff.mp b
 exact(List.getElem_inj hN).mp (e1.trans e2.symm)
theorem store_ok2 {M:Model} {A:Around} {E:Value->Shared->Prop} {i:Nat} {x:Str} {v:V} {u:Value} {Q:Unit->Shared->Prop} (I:Inv X pins σ H s) (hN:X.N.Nodup) (hi:X.N[i]? =some x) (hx:Loc X.env.scope x) (r:RelV v u)
  (h:∀s',Inv X pins (σ.set i (some v)) H s'->(∃a,Heap.SameBut a s.heap s'.heap/\(a=X.env.locals∨X.env.cells.lookup x=some a))->Q () s') (hf:X.fn x=true∨X.env.scope.names.lookup x=some .local:=by first|exact .inl rfl|exact .inr rfl|assumption):wpAny M A (storeName X.env x u) Q E s:=by
 obtain⟨m,hn,hl⟩:=id I.loc
 have hcls:(X.env.scope.kind== .class || (X.env.scope.kind== .module && X.env.locals != X.env.globals))=false:=by rw [I.ok.kind];rfl
 have hiσ:i<σ.length:=by rw [I.len];exact(List.getElem?_eq_some_iff.mp hi).1
 have cne:=I.cne
 have tracked:∀{a:Addr} {h':Heap},(∃o,s.heap.get? a=some o/\H a=none)->Heap.SameBut a s.heap h'->HOk X.prog X.w H h':=fun{a h'} ha hs b ob e=>by
  obtain⟨_,_,hfree⟩:=ha
  refine(I.hok b ob e).stay (fun c w' hc q=>(hs.2 c ?_).trans q) (fun _ q=>q) fun _ _ q=>q
  rintro rfl
  rcases hc with rfl|hc
  ·rw [hfree]at e;cases e
  ·rw [hfree]at hc;cases hc
 rcases hx with hk|hk
 ·refine wpAny_storeName_local hk hn (fun h' hn' hs=>?_) hcls
  obtain⟨oL,_,_,hoL,_⟩:=id hn
  refine h _ ⟨I.ok,I.os,I.bare,⟨fun b o e n hb hx=>?_,fun b o e n hb hx=>?_,I.base.free,fun b o e hx=>?_,I.base.tups,I.base.frzs,I.base.tbls⟩,⟨_,hn',fun j y v' e1 e2 e3=>?_⟩,fun y c e=>?_,I.free,I.freeC,fun p hp=>?_,tracked ⟨oL,hoL,I.free⟩ hs,by simpa using I.len⟩ ⟨_,hs,.inl rfl⟩
  ·exact(hs.2 b (Nat.ne_of_lt (Nat.lt_of_lt_of_le (Heap.lt_size e) I.ok.above))).trans (I.base.keep b o e n hb hx)
  ·obtain⟨sl,e1⟩:=I.base.slot b o e n hb hx
   exact⟨sl,(hs.2 b (Nat.ne_of_lt (Nat.lt_of_lt_of_le (Heap.lt_size e) I.ok.above))).trans e1⟩
  ·obtain⟨o',e1⟩:=I.base.there b o e hx
   exact⟨o',(hs.2 b (Nat.ne_of_lt (Nat.lt_of_lt_of_le (Heap.lt_size e) I.ok.above))).trans e1⟩
  ·by_cases hj:j=i
   ·subst hj
    rw [hi]at e1;cases e1
    rw [List.getElem?_set_self hiσ]at e2
    cases e2
    exact⟨u,r,.inl ⟨hk,by simp⟩⟩
   ·rw [List.getElem?_set_ne (Ne.symm hj)]at e2
    obtain⟨u',r',q⟩:=hl j y v' e1 e2 e3
    refine⟨u',r',?_⟩
    rcases q with ⟨k,e⟩|⟨k,c,e,z⟩
    ·refine .inl ⟨k,?_⟩
     have:y≠x:=fun e=>hj (nodup_ix hN e1 (e▸hi))
     simp [this,e]
    ·exact .inr ⟨k,c,e,z.sameBut hs (cne y c e)⟩
  ·obtain⟨w',z⟩:=I.cell y c e
   exact⟨w',z.sameBut hs (cne y c e)⟩
  ·obtain⟨e,n,ne,nf,d⟩:=I.pin p hp
   exact⟨(hs.2 p.1 ne).trans e,n,ne,nf,d⟩
 ·have hfn:X.fn x=true:=by
   rcases hf with z|z
   ·exact z
   ·rw [z]at hk;cases hk
  obtain⟨c,hc⟩:=I.ok.has x (.inl hk)
  obtain⟨w',z⟩:=I.cell x c hc
  refine wpAny_storeName_cell I.ok.kind hk hc z (fun h' hc' hs=>?_)
  obtain⟨oc,hoc,hocd⟩:=id z
  refine h {s with heap:=h'} ⟨I.ok,I.os,I.bare,⟨fun b o e n hb hx=>?_,fun b o e n hb hx=>?_,I.base.free,fun b o e hx=>?_,I.base.tups,I.base.frzs,I.base.tbls⟩,⟨m,hn.sameBut hs (Ne.symm (cne x c hc)),fun j y v' e1 e2 e3=>?_⟩,fun y c' e=>?_,I.free,I.freeC,fun p hp=>?_,tracked ⟨oc,hoc,I.freeC x c hc⟩ hs,by simpa using I.len⟩ ⟨c,hs,.inr hc⟩
  ·exact(hs.2 b (Nat.ne_of_lt (Nat.lt_of_lt_of_le (Heap.lt_size e) (I.ok.cab x c hfn hc)))).trans (I.base.keep b o e n hb hx)
  ·obtain⟨sl,e1⟩:=I.base.slot b o e n hb hx
   exact⟨sl,(hs.2 b (Nat.ne_of_lt (Nat.lt_of_lt_of_le (Heap.lt_size e) (I.ok.cab x c hfn hc)))).trans e1⟩
  ·obtain⟨o',e1⟩:=I.base.there b o e hx
   exact⟨o',(hs.2 b (Nat.ne_of_lt (Nat.lt_of_lt_of_le (Heap.lt_size e) (I.ok.cab x c hfn hc)))).trans e1⟩
  ·by_cases hj:j=i
   ·subst hj
    rw [hi]at e1;cases e1
    rw [List.getElem?_set_self hiσ]at e2
    cases e2
    exact⟨u,r,.inr ⟨.inl hk,c,hc,hc'⟩⟩
   ·rw [List.getElem?_set_ne (Ne.symm hj)]at e2
    obtain⟨u',r',q⟩:=hl j y v' e1 e2 e3
    refine⟨u',r',?_⟩
    rcases q with q|⟨k,c',e,z'⟩
    ·exact .inl q
    ·refine .inr ⟨k,c',e,z'.sameBut hs ?_⟩
     rintro rfl
     exact hj (nodup_ix hN e1 (I.ok.inj _ _ _ e hc▸hi))
  ·by_cases hcc:c'=c
   ·subst hcc;exact⟨_,hc'⟩
   ·obtain⟨w2,z2⟩:=I.cell y c' e
    exact⟨w2,z2.sameBut hs hcc⟩
  ·obtain⟨e,n,ne,nf,d⟩:=I.pin p hp
   refine⟨(hs.2 p.1 ?_).trans e,n,ne,nf,d⟩
   intro q
   rw [q,hoc]at e
   have q':oc=p.2:=Option.some.inj e
   exact d w' (by rw [<-q'];exact hocd)
theorem store_ok {M:Model} {A:Around} {E:Value->Shared->Prop} {i:Nat} {x:Str} {v:V} {u:Value} {Q:Unit->Shared->Prop} (I:Inv X pins σ H s) (hN:X.N.Nodup) (hi:X.N[i]? =some x) (hx:Loc X.env.scope x) (r:RelV v u)
  (h:∀s',Inv X pins (σ.set i (some v)) H s'->Q () s') (hf:X.fn x=true∨X.env.scope.names.lookup x=some .local:=by first|exact .inl rfl|exact .inr rfl|assumption):wpAny M A (storeName X.env x u) Q E s:=
 store_ok2 I hN hi hx r (fun s' I' _=>h s' I') hf
theorem Inv.call' {s':Shared} {ch:List Addr} (I:Inv X pins σ H s) (ho:s'.os=s.os) (u:Un (frs X.stack) ch H H' s.heap s'.heap) (hok:HOk X.prog X.w H' s'.heap) (hg:AllBare s'.gens)
  (hch:∀b∈ch,(b∈X.ex∨X.s₀.heap.objs.size<=b)/\b≠X.env.locals/\(∀x c,X.env.cells.lookup x=some c->c≠b)/\∀p∈X.pn++pins,p.1≠b):Inv X pins σ H' s':=by
 obtain⟨h',g',d',t',o'⟩:=s'
 have e:o'=s.os:=ho
 subst e
 exact I.call (g':=g') (t':=t') (d':=d') u hok hg hch
end
abbrev XK:=Value->Option Addr->Hp->Prop
abbrev St:=List (Option V)
abbrev VK:=V->Hp->Prop
abbrev TE:=St->Hp->VK->Prop
abbrev TT:=St->Hp->(Bool->Hp->Prop)->Prop
abbrev TA:=St->Hp->(List V->Hp->Prop)->Prop
structure Ends where
 nx:St->Hp->Prop
 rt:VK
 bk:St->Hp->Prop:=fun _ _=>False
 ct:St->Hp->Prop:=fun _ _=>False
abbrev TS:=Ends->St->Hp->Prop
def EP (X:Cx) (pins:List (Addr×Obj)) (σ:St) (Q:VK) (u:Value) (s':Shared):Prop:=∃v H',Inv X pins σ H' s'/\RelV v u/\Q v H'
def TP (X:Cx) (pins:List (Addr×Obj)) (σ:St) (Q:Bool->Hp->Prop) (b:Bool) (s':Shared):Prop:=∃H',Inv X pins σ H' s'/\Q b H'
def AP (X:Cx) (pins:List (Addr×Obj)) (σ:St) (Q:List V->Hp->Prop) (us:List Value) (s':Shared):Prop:=∃vs H',Inv X pins σ H' s'/\Vals vs us/\Q vs H'
def SP (X:Cx) (pins:List (Addr×Obj)) (D:Ends) (f:Flow) (s':Shared):Prop:=
 match f with
 | .next=>∃σ' H',Inv X pins σ' H' s'/\D.nx σ' H'
 | .brk=>∃σ' H',Inv X pins σ' H' s'/\D.bk σ' H'
 | .cont=>∃σ' H',Inv X pins σ' H' s'/\D.ct σ' H'
 | .ret u=>∃v σ' H',Inv X pins σ' H' s'/\RelV v u/\D.rt v H'
def PE (X:Cx) (e:Expr) (t:TE):Prop:=
 ∀(pins:List (Addr×Obj)) (s:Shared) (σ:St) (H:Hp) (Q:VK),Inv X pins σ H s->t σ H Q->wpAny (model X.prog X.w) X.A (eval e X.env) (EP X pins σ Q) X.xe s
def PT (X:Cx) (e:Expr) (t:TT):Prop:=
 ∀(pins:List (Addr×Obj)) (s:Shared) (σ:St) (H:Hp) (Q:Bool->Hp->Prop),Inv X pins σ H s->t σ H Q->wpAny (model X.prog X.w) X.A (isTrue e X.env (eval e X.env)) (TP X pins σ Q) X.xe s
def PW (X:Cx) (e:Expr) (t:TT):Prop:=
 ∀(whole:Sem Value) (pins:List (Addr×Obj)) (s:Shared) (σ:St) (H:Hp) (Q:Bool->Hp->Prop),Inv X pins σ H s->t σ H Q->wpAny (model X.prog X.w) X.A (isTrue e X.env whole) (TP X pins σ Q) X.xe s
theorem PW.pt {X:Cx} {e:Expr} {t:TT} (h:PW X e t):PT X e t:=h _
def PA (X:Cx) (es:List Expr) (t:TA):Prop:=
 ∀(pos:Pos) (pins:List (Addr×Obj)) (s:Shared) (σ:St) (H:Hp) (Q:List V->Hp->Prop),Inv X pins σ H s->t σ H Q->wpAny (model X.prog X.w) X.A (spliced (backTo pos (starEach es X.env))) (AP X pins σ Q) X.xe s
def PS (X:Cx) (st:Stmt) (t:TS):Prop:=
 ∀(pins:List (Addr×Obj)) (s:Shared) (σ:St) (H:Hp) (D:Ends),Inv X pins σ H s->t D σ H->wpAny (model X.prog X.w) X.A (exec st X.env) (SP X pins D) X.xe s
def PSs (X:Cx) (st:List Stmt) (t:TS):Prop:=
 ∀(pins:List (Addr×Obj)) (s:Shared) (σ:St) (H:Hp) (D:Ends),Inv X pins σ H s->t D σ H->wpAny (model X.prog X.w) X.A (execs st X.env) (SP X pins D) X.xe s
theorem thn {α:Type} {t:Sem α} {Q Q':α->Shared->Prop} {M:Model} {A:Around} {E:Value->Shared->Prop} {s:Shared} (h:wpAny M A t Q E s) (hQ:∀a s,Q a s->Q' a s):wpAny M A t Q' E s:=wpAny_mono h hQ fun _ _ x=>x
end L2
namespace L2
open PySem PySem.Spec PyProof.Rows
section
variable {X:Cx}
def tVar (i:Nat):TE:=fun σ H Q=>∃v,σ[i]? =some (some v)/\Q v H
def tC (v:V):TE:=fun _ H Q=>Q v H
theorem pe_var {i:Nat} {x:Str} {pos:Pos} (hN:X.N[i]? =some x) (hv:Vis X.env.scope x) (hd:(x==("__debug__":Str))=false:=by decide) (hcd:(x==("__classdict__":Str))=false:=by decide):PE X (.Name x pos) (tVar i):=by
 intro pins s σ H Q I h
 obtain⟨v,e,h⟩:=h
 obtain⟨m,hn,hl⟩:=I.loc
 obtain⟨u,r,l⟩:=hl i x v hN e hv
 have fin:EP X pins σ Q u s:=⟨v,H,I,r,h⟩
 rcases l with ⟨hk,hm⟩|⟨hk,c,hc,hcell⟩
 ·exact wpAny_Name (wpAny_loadName_local I.ok.kind hk hn hm fin) hd
 ·rcases hk with hk|hk
  ·exact wpAny_Name (wpAny_loadName_cell I.ok.kind hk hc hcell fin) hd
  ·exact wpAny_Name (wpAny_loadName_free I.ok.kind hk hc hcell fin hcd) hd
theorem pe_int {i j pos}:PE X (.Constant (.int i) j pos) (tC (.int i)):=fun _ _ _ H _ I h=>wpAny_Constant_int ⟨.int i,H,I.tok _,⟨_,rfl⟩,h⟩
theorem pe_bl {b j pos}:PE X (.Constant (.bool b) j pos) (tC (.bl b)):=fun _ _ _ H _ I h=>Constant_bool ⟨.bl b,H,I,rfl,h⟩
theorem pe_non {j pos}:PE X (.Constant .none j pos) (tC .non):=fun _ _ _ H _ I h=>Constant_none ⟨.non,H,I,rfl,h⟩
theorem pe_str {x j pos}:PE X (.Constant (.str x) j pos) (tC (.str x)):=fun _ _ _ H _ I h=>Calls.Constant_str ⟨.str x,H,I.tok _,⟨_,rfl⟩,h⟩
def Gl (X:Cx) (x:Str):Prop:=X.env.kindOf x=some .globalImplicit
theorem ld_glob {E:Value->Shared->Prop} {pins:List (Addr×Obj)} {s:Shared} {σ:St} {H:Hp} {x:Str} {u:Value} {pos:Pos} {Q:Value->Shared->Prop} (I:Inv X pins σ H s) (hg:Gl X x) (hm:X.mg x=some u) (h:Q u s)
  (hd:(x==("__debug__":Str))=false:=by decide):wpAny (model X.prog X.w) X.A (eval (.Name x pos) X.env) Q E s:=
 Calls.Name_function_global I.ok.kind hg (Calls.loadGlobal_global (by rw [I.ok.glob];exact I.mod.glob.keeps I.bk) hm h) hd
theorem ld_blt {E:Value->Shared->Prop} {pins:List (Addr×Obj)} {s:Shared} {σ:St} {H:Hp} {x:Str} {u:Value} {pos:Pos} {Q:Value->Shared->Prop} (I:Inv X pins σ H s) (hg:Gl X x) (hm:X.mg x=none) (hv:bootBuiltins x=some u) (h:Q u s)
  (hn:x≠"__name__":=by decide) (hd:(x==("__debug__":Str))=false:=by decide):wpAny (model X.prog X.w) X.A (eval (.Name x pos) X.env) Q E s:=by
 obtain⟨mb,h1,h2⟩:=I.mod.blt
 exact Calls.Name_function_global I.ok.kind hg (Calls.loadGlobal_builtin (by rw [I.ok.glob];exact I.mod.glob.keeps I.bk) hm (by rw [I.ok.blt];exact h1.keeps I.bk) ((h2 x hn).trans hv) h) hd
theorem pe_glob {x:Str} {v:V} {u:Value} {pos:Pos} (hg:Gl X x) (hm:X.mg x=some u) (r:RelV v u) (hd:(x==("__debug__":Str))=false:=by decide):PE X (.Name x pos) (tC v):=
 fun _ _ _ H _ I h=>ld_glob I hg hm ⟨v,H,I,r,h⟩ hd
theorem pe_bltn {x:Str} {v:V} {u:Value} {pos:Pos} (hg:Gl X x) (hm:X.mg x=none) (hv:bootBuiltins x=some u) (r:RelV v u) (hn:x≠"__name__":=by decide) (hd:(x==("__debug__":Str))=false:=by decide):PE X (.Name x pos) (tC v):=
 fun _ _ _ H _ I h=>ld_blt I hg hm hv ⟨v,H,I,r,h⟩ hn hd
variable {a b:Expr} {ta tb:TE} {pos:Pos}
def tB (t:TE):TT:=fun σ H Q=>t σ H fun x H1=>∃c,x= .bl c/\Q c H1
theorem pt_val {e:Expr} {t:TE} (h:PE X e t) (he:∀whole,isTrue e X.env whole=(do let v<-whole;standAt e.pos;holding [v] (truthy v)):=by intro _;rfl):PT X e (tB t):=by
 intro pins s σ H Q I hw
 refine isTrue_plain (thn (h pins s σ H _ I hw) fun v s1 ⟨x,H1,I1,r1,q1⟩=>?_) (he _)
 obtain⟨d,rfl,q⟩:=q1
 cases r1
 exact wpAny_truthy_bool ⟨H1,I1,q⟩
variable {tA tB':TT} {rest:List Expr}
def tAnd (t u:TT):TT:=fun σ H Q=>t σ H fun c H1=>if c=true then u σ H1 Q else Q false H1
def tOr (t u:TT):TT:=fun σ H Q=>t σ H fun c H1=>if c=true then Q true H1 else u σ H1 Q
def tNot (t:TT):TT:=fun σ H Q=>t σ H fun c H1=>Q (!c) H1
theorem pw_and1 (ha:PT X a tA):PW X (.BoolOp .And [a] pos) tA:=by
 intro wh pins s σ H Q I h
 refine isTrue_and (thn (ha pins s σ H Q I h) fun c s1 e=>?_)
 cases c with
 |true=>exact isTrue_and_nil e
 |false=>exact e
theorem pw_or1 (ha:PT X a tA):PW X (.BoolOp .Or [a] pos) tA:=by
 intro wh pins s σ H Q I h
 refine isTrue_or (thn (ha pins s σ H Q I h) fun c s1 e=>?_)
 cases c with
 |false=>exact isTrue_or_nil e
 |true=>exact e
theorem pw_and (ha:PT X a tA) (hb:PW X (.BoolOp .And (b::rest) pos) tB'):PW X (.BoolOp .And (a::b::rest) pos) (tAnd tA tB'):=by
 intro wh pins s σ H Q I h
 refine isTrue_and (thn (ha pins s σ H _ I h) fun c s1 ⟨H1,I1,q1⟩=>?_)
 cases c with
 |true=>exact hb wh pins s1 σ H1 Q I1 q1
 |false=>exact⟨H1,I1,q1⟩
theorem pw_or (ha:PT X a tA) (hb:PW X (.BoolOp .Or (b::rest) pos) tB'):PW X (.BoolOp .Or (a::b::rest) pos) (tOr tA tB'):=by
 intro wh pins s σ H Q I h
 refine isTrue_or (thn (ha pins s σ H _ I h) fun c s1 ⟨H1,I1,q1⟩=>?_)
 cases c with
 |true=>exact⟨H1,I1,q1⟩
 |false=>exact hb wh pins s1 σ H1 Q I1 q1
theorem pt_not (ha:PT X a tA):PT X (.UnaryOp .Not a pos) (tNot tA):=by
 intro pins s σ H Q I h
 exact isTrue_not (ha pins s σ H (fun c H1=>Q (!c) H1) I h)
def tAndV (ta tb:TE):TE:=fun σ H Q=>ta σ H fun x H1=>∃c,x= .bl c/\if c=true then tb σ H1 Q else Q (.bl false) H1
def tNotV (ta:TE):TE:=fun σ H Q=>ta σ H fun x H1=>∃c,x= .bl c/\Q (.bl (!c)) H1
theorem pe_one {op} {t:TE} (h:PE X a t):PE X (.BoolOp op [a] pos) t:=fun pins s σ H Q I hw=>BoolOp_one (h pins s σ H Q I hw)
theorem pe_and (ha:PE X a ta) (hb:PE X (.BoolOp .And (b::rest) pos) tb):PE X (.BoolOp .And (a::b::rest) pos) (tAndV ta tb):=by
 intro pins s σ H Q I h
 refine BoolOp_and (thn (ha pins s σ H _ I h) fun v s1 ⟨x,H1,I1,r1,q1⟩=>?_)
 obtain⟨c,rfl,q1⟩:=q1
 cases r1
 refine wpAny_truthy_bool ?_
 cases c with
 |true=>exact hb pins s1 σ H1 Q I1 q1
 |false=>exact⟨.bl false,H1,I1,rfl,q1⟩
theorem pe_not (ha:PE X a ta):PE X (.UnaryOp .Not a pos) (tNotV ta):=by
 intro pins s σ H Q I h
 refine UnaryOp_ (thn (ha pins s σ H _ I h) fun v s1 ⟨x,H1,I1,r1,q1⟩=>?_)
 obtain⟨c,rfl,q1⟩:=q1
 cases r1
 exact not_of (wpAny_truthy_bool ⟨.bl (!c),H1,I1,rfl,q1⟩)
end
end L2
namespace L2
open PySem PySem.Spec PyProof.Rows
def SqL (K:PySem.W.Frag) (H:Hp) (a:Addr) (xs:List V):Prop:=
 Rd H a (.lst xs)∨
  ∃(o:Obj) (its:Array Value) (n:Nat),K.lookup a=some o/\o.cls= .type "list"/\o.dict=none/\o.data= .seq its n/\its.size<=sizeLine/\Vals xs its.toList
def SqT (K:PySem.W.Frag) (H:Hp) (a:Addr) (xs:List V):Prop:=
 Rd H a (.tup xs)∨
  ∃(o:Obj) (its:Array Value) (n:Nat),K.lookup a=some o/\o.cls= .type "tuple"/\o.data= .seq its n/\its.size<=sizeLine/\Vals xs its.toList
def absV:Value->Option V
 | .none=>some .non
 | .bool b=>some (.bl b)
 | .int i _=>some (.int i)
 | .str x _=>some (.str x)
 | .bytes b _=>some (.byt b)
 | .float b _=>some (.flt b)
 | .ref a=>some (.ref a)
 | .type n=>some (.ty n)
 |_=>none
theorem RelV.abs {x:V} {u:Value} (r:RelV x u):absV u=some x:=by
 cases x with
 |non=>cases r;rfl
 |bl _=>cases r;rfl
 |int _=>obtain⟨t,rfl⟩:=r;rfl
 |str _=>obtain⟨t,rfl⟩:=r;rfl
 |byt _=>obtain⟨t,rfl⟩:=r;rfl
 |flt _=>obtain⟨t,rfl⟩:=r;rfl
 |ref _=>cases r;rfl
 |ty _=>cases r;rfl
theorem RelV.inj {x y:V} {u:Value} (r:RelV x u) (q:RelV y u):x=y:=Option.some.inj (r.abs.symm.trans q.abs)
theorem Vals.inj:∀{xs ys:List V} {us:List Value},Vals xs us->Vals ys us->xs=ys
 |_,_,_,.nil,.nil=>rfl
 |_,_,_,.cons r t,.cons r' t'=>by rw [r.inj r',Vals.inj t t']
section
variable {X:Cx} {pins:List (Addr×Obj)} {σ:St} {H:Hp} {s:Shared} {a:Addr} {xs ys:List V}
theorem SqL.of {K:PySem.W.Frag} (h:H a=some (.lst xs)):SqL K H a xs:= .inl (.inl h)
theorem SqT.of {K:PySem.W.Frag} (h:H a=some (.tup xs)):SqT K H a xs:= .inl (.inl h)
theorem Inv.list (I:Inv X pins σ H s) (h:SqL X.K H a xs):∃its:List Value,Vals xs its/\PlainL s.heap a its.toArray/\xs.length<=sizeLine:=by
 rcases h with h|⟨o,its,n,hk,hc,hd,hs,hz,r⟩
 ·obtain⟨z,its,n,r,e⟩:=h.ok I.hok
  exact⟨its,r,⟨_,n,e,rfl,rfl,rfl⟩,z⟩
 ·refine⟨its.toList,r,⟨o,n,I.kIn a o hk,hc,hd,by simpa using hs⟩,?_⟩
  have e:=r.length
  simp only [Array.length_toList]at e
  omega
theorem Inv.tuple (I:Inv X pins σ H s) (h:SqT X.K H a xs):∃its:List Value,Vals xs its/\IsTup s.heap a its.toArray/\xs.length<=sizeLine:=by
 rcases h with h|⟨o,its,n,hk,hc,hs,hz,r⟩
 ·obtain⟨z,its,r,p⟩:=h.ok I.hok
  exact⟨its,r,p,z⟩
 ·refine⟨its.toList,r,⟨o,I.kIn a o hk,hc,n,by simpa using hs⟩,?_⟩
  have e:=r.length
  simp only [Array.length_toList]at e
  omega
theorem Inv.list_inj (I:Inv X pins σ H s) (h:SqL X.K H a xs) (h':SqL X.K H a ys):xs=ys:=by
 obtain⟨its,r,⟨o,n,e,_,_,d⟩,_⟩:=I.list h
 obtain⟨its',r',⟨o',n',e',_,_,d'⟩,_⟩:=I.list h'
 rw [e]at e';cases e'
 rw [d]at d'
 injection d' with d1 _
 have:its=its':=by simpa using congrArg Array.toList d1
 subst this
 exact r.inj r'
theorem Inv.tuple_inj (I:Inv X pins σ H s) (h:SqT X.K H a xs) (h':SqT X.K H a ys):xs=ys:=by
 obtain⟨its,r,⟨o,e,_,n,d⟩,_⟩:=I.tuple h
 obtain⟨its',r',⟨o',e',_,n',d'⟩,_⟩:=I.tuple h'
 rw [e]at e';cases e'
 rw [d]at d'
 injection d' with d1 _
 have:its=its':=by simpa using congrArg Array.toList d1
 subst this
 exact r.inj r'
end
abbrev Cx.wish (X:Cx) (E:Value->Shared->Prop):Cx:={X with xe:=E}
abbrev Cx.nox (X:Cx):Cx:=X.wish fun _ _=>False
theorem Cx.Ok.wish {X:Cx} (ok:X.Ok) (E:Value->Shared->Prop):(X.wish E).Ok:=
 ⟨ok.mod,ok.kind,ok.glob,ok.blt,ok.above,ok.inj,ok.has,ok.cab,ok.hd,ok.frames,ok.stk,ok.exf,ok.bs,ok.bsz,ok.noex,ok.exfs,ok.funs,ok.frf⟩
theorem Cx.Ok.unwish {X:Cx} {E:Value->Shared->Prop} (ok:(X.wish E).Ok):X.Ok:=
 ⟨ok.mod,ok.kind,ok.glob,ok.blt,ok.above,ok.inj,ok.has,ok.cab,ok.hd,ok.frames,ok.stk,ok.exf,ok.bs,ok.bsz,ok.noex,ok.exfs,ok.funs,ok.frf⟩
section
variable {X:Cx} {pins:List (Addr×Obj)} {σ:St} {H:Hp} {s:Shared} {E:Value->Shared->Prop}
theorem Inv.wish (I:Inv X pins σ H s) (E:Value->Shared->Prop):Inv (X.wish E) pins σ H s:=⟨I.ok.wish E,I.os,I.bare,I.base,I.loc,I.cell,I.free,I.freeC,I.pin,I.hok,I.len⟩
theorem Inv.unwish (I:Inv (X.wish E) pins σ H s):Inv X pins σ H s:=⟨I.ok.unwish,I.os,I.bare,I.base,I.loc,I.cell,I.free,I.freeC,I.pin,I.hok,I.len⟩
theorem SP.unwish {D:Ends} {f:Flow} {s':Shared} (h:SP (X.wish E) pins D f s'):SP X pins D f s':=by
 cases f with
 |next=>obtain⟨σ',H',I,q⟩:=h;exact⟨σ',H',I.unwish,q⟩
 |brk=>obtain⟨σ',H',I,q⟩:=h;exact⟨σ',H',I.unwish,q⟩
 |cont=>obtain⟨σ',H',I,q⟩:=h;exact⟨σ',H',I.unwish,q⟩
 |ret u=>obtain⟨v,σ',H',I,r,q⟩:=h;exact⟨v,σ',H',I.unwish,r,q⟩
theorem PSs.nox {st:List Stmt} {t:TS} (h:PSs X.nox st t):PSs X st t:=fun pins s σ H D I hw=>
 wpAny_mono (h pins s σ H D (I.wish _) hw) (fun _ _ q=>q.unwish) fun _ _ z=>False.elim z
end
section
variable {X:Cx} {st:Stmt} {rest:List Stmt} {t u:TS} {e:Expr} {te:TE} {pos:Pos}
def tNext:TS:=fun D σ H=>D.nx σ H
def tSeq (t u:TS):TS:=fun D σ H=>t {D with nx:=u D} σ H
theorem pss_nil:PSs X [] tNext:=fun _ _ σ H _ I h=>wpAny_execs_nil ⟨σ,H,I,h⟩
theorem pss_cons (h1:PS X st t) (h2:PSs X rest u):PSs X (st::rest) (tSeq t u):=by
 intro pins s σ H D I h
 refine wpAny_execs_cons (thn (h1 pins s σ H {D with nx:=u D} I h) fun f s1 q=>?_)
 cases f with
 |next=>
  obtain⟨σ',H',I',q⟩:=q
  exact h2 pins s1 σ' H' D I' q
 |ret v=>exact q
 |brk=>exact q
 |cont=>exact q
theorem pss_one (h1:PS X st t):PSs X [st] t:=by
 intro pins s σ H D I h
 refine wpAny_execs_cons (thn (h1 pins s σ H D I h) fun f s1 q=>?_)
 cases f with
 |next=>exact wpAny_execs_nil q
 |ret v=>exact q
 |brk=>exact q
 |cont=>exact q
theorem Inv.quiet {pins:List (Addr×Obj)} {σ:St} {H:Hp} {s:Shared} (I:Inv X pins σ H s):interactive X.env=false:=by simp [interactive,I.ok.kind]
def tDrop (te:TE):TS:=fun D σ H=>te σ H fun _ H1=>D.nx σ H1
theorem ps_expr (he:PE X e te) (hs:swapsWith e none pos.line X.env=pure false:=by rfl):PS X (.Expr e pos) (tDrop te):=by
 intro pins s σ H D I h
 exact wpAny_Expr_any (thn (he pins s σ H _ I h) fun v s1 ⟨x,H1,I1,r1,q1⟩=>⟨σ,H1,I1,q1⟩) I.quiet hs
def tRet (te:TE):TS:=fun D σ H=>te σ H D.rt
theorem ps_ret (he:PE X e te):PS X (.Return (some e) pos) (tRet te):=by
 intro pins s σ H D I h
 exact wpAny_Return_some (thn (he pins s σ H _ I h) fun v s1 ⟨x,H1,I1,r1,q1⟩=>⟨x,σ,H1,I1,r1,q1⟩)
def tIfS (c:TT) (t u:TS):TS:=fun D σ H=>c σ H fun b H1=>if b=true then t D σ H1 else u D σ H1
theorem ps_if {c:Expr} {a b:List Stmt} {tc:TT} (hc:PT X c tc) (ha:PSs X a t) (hb:PSs X b u):PS X (.If c a b pos) (tIfS tc t u):=by
 intro pins s σ H D I h
 refine wpAny_If (thn (hc pins s σ H _ I h) fun d s1 ⟨H1,I1,q1⟩=>?_)
 cases d with
 |true=>exact ha pins s1 σ H1 D I1 q1
 |false=>exact hb pins s1 σ H1 D I1 q1
def tNever:TS:=fun _ _ _=>False
theorem ps_never:PS X st tNever:=fun _ _ _ _ _ _ h=>h.elim
end
abbrev TG:=V->St->Hp->(St->Hp->Prop)->Prop
def PG (X:Cx) (target:Expr) (t:TG):Prop:=
 ∀(pins:List (Addr×Obj)) (s:Shared) (σ:St) (H:Hp) (v:V) (u:Value) (Q:St->Hp->Prop),Inv X pins σ H s->RelV v u->t v σ H Q->
  wpAny (model X.prog X.w) X.A (assign target X.env u) (fun _ s'=>∃σ' H',Inv X pins σ' H' s'/\Q σ' H') X.xe s
abbrev TSet:=V->V->V->Hp->(Hp->Prop)->Prop
def PSet (X:Cx) (t:TSet):Prop:=
 ∀(pins:List (Addr×Obj)) (s:Shared) (σ:St) (H:Hp) (o i v:V) (ov iv u:Value) (Q:Hp->Prop),Inv X pins σ H s->RelV o ov->RelV i iv->RelV v u->t o i v H Q->
  wpAny (model X.prog X.w) X.A (setItem ov iv u) (fun _ s'=>∃H',Inv X pins σ H' s'/\Q H') X.xe s
section
variable {X:Cx} {pos:Pos}
def gName (i:Nat):TG:=fun v σ H Q=>Q (σ.set i (some v)) H
theorem pg_name {i:Nat} {x:Str} (hN:X.N.Nodup) (hi:X.N[i]? =some x) (hx:Loc X.env.scope x) (hf:X.fn x=true∨X.env.scope.names.lookup x=some .local:=by first|exact .inl rfl|exact .inr rfl|assumption):PG X (.Name x pos) (gName i):=by
 intro pins s σ H v u Q I r h
 exact wpAny_assign_Name (store_ok I hN hi hx r (fun s' I'=>⟨_,H,I',h⟩) hf)
def gSub (to ti:TE) (t:TSet):TG:=fun v σ H Q=>to σ H fun o H1=>ti σ H1 fun i H2=>t o i v H2 fun H3=>Q σ H3
theorem pg_sub {o i:Expr} {to ti:TE} {t:TSet} (ho:PE X o to) (hi:PE X i ti) (hs:PSet X t)
  (ha:∀v,assign (.Subscript o i pos) X.env v=(do
   let ov<-holding [v] (eval o X.env)
   let iv<-holding [v,ov] (eval i X.env)
   standAt pos
   holding [v,ov,iv] (setItem ov iv v)
   release [v,ov,iv] []):=by intro _;rfl):PG X (.Subscript o i pos) (gSub to ti t):=by
 intro pins s σ H v u Q I r h
 rw [ha]
 refine wpAny_bind (wpAny_holding (thn (ho pins s σ H _ I h) fun ov s1 ⟨x,H1,I1,r1,q1⟩=>?_))
 refine wpAny_bind (wpAny_holding (thn (hi pins s1 σ H1 _ I1 q1) fun iv s2 ⟨y,H2,I2,r2,q2⟩=>?_))
 refine wpAny_bind (wpAny_standAt (wpAny_bind (wpAny_holding (thn (hs pins s2 σ H2 x y v ov iv u _ I2 r1 r2 r q2) fun _ s3 ⟨H3,I3,q3⟩=>?_))))
 exact wpAny_release ⟨σ,H3,I3,q3⟩
def tAsg (te:TE) (g:TG):TS:=fun D σ H=>te σ H fun x H1=>g x σ H1 D.nx
theorem ps_asg {tg e:Expr} {te:TE} {g:TG} (he:PE X e te) (hg:PG X tg g) (hs:swapsWithSole [tg] e pos.line X.env=pure false:=by rfl) (hw:swappedStores [tg] e X.env=pure none:=by rfl)
  (h1:(assignEach [tg] X.env).map (·.2)=[assign tg X.env]:=by rfl):PS X (.Assign [tg] e pos) (tAsg te g):=by
 intro pins s σ H D I h
 refine wpAny_Assign_stores (thn (he pins s σ H _ I h) fun v s1 ⟨x,H1,I1,r1,q1⟩=>?_) hs hw
 rw [h1]
 exact thn (hg pins s1 σ H1 x v _ I1 r1 q1) fun _ s2 q=>q
theorem ps_set {i:Nat} {x:Str} {e:Expr} {te:TE} {pos':Pos} (hN:X.N.Nodup) (hi:X.N[i]? =some x) (hx:Loc X.env.scope x) (he:PE X e te) (hs:swapsWith e (some (.Name x pos')) pos.line X.env=pure false:=by rfl) (hf:X.fn x=true∨X.env.scope.names.lookup x=some .local:=by first|exact .inl rfl|exact .inr rfl|assumption):
  PS X (.Assign [.Name x pos'] e pos) (tAsg te (gName i)):=by
 intro pins s σ H D I h
 refine wpAny_Assign_Name (thn (he pins s σ H _ I h) fun v s1 ⟨y,H1,I1,r1,q1⟩=>?_) hs
 exact store_ok I1 hN hi hx r1 (fun s2 I2=>⟨_,H1,I2,q1⟩) hf
end
section
variable {X:Cx} {pos:Pos}
def tWhile (c:TT) (tb:TS):TS:=fun D σ H=>∃W:Nat->St->Hp->Prop,(∃m,W m σ H)/\∀m σ H,W m σ H->
 c σ H fun b H1=>if b=true then∃N:St->Hp->Prop,(∀σ' H',N σ' H'->∃m',m'<m/\W m' σ' H')/\tb {D with nx:=N,ct:=N,bk:=D.nx} σ H1 else D.nx σ H1
theorem ps_while {c:Expr} {body:List Stmt} {tc:TT} {tb:TS} (hp:PassesOwn (model X.prog X.w) X.A X.env X.xe) (hc:PT X c tc) (hb:PSs X body tb):PS X (.While c body [] pos) (tWhile tc tb):=by
 intro pins s σ H D I h
 obtain⟨W,⟨m0,w0⟩,turn⟩:=h
 refine wpAny_While (codeAny_whileLoop (fun n s'=>∃σ' H',Inv X pins σ' H' s'/\W n σ' H') ?_ m0 ⟨σ,H,I,w0⟩)
 rintro n s1 ⟨σ1,H1,I1,w1⟩
 refine wpAny_passesOwn hp (thn (hc pins s1 σ1 H1 _ I1 (turn n σ1 H1 w1)) fun b s2 ⟨H2,I2,q2⟩=>?_)
 cases b with
 |true=>
  obtain⟨N,hN,q2⟩:=q2
  rw [if_pos rfl]
  refine wpAny_passesOwn hp (thn (hb pins s2 σ1 H2 _ I2 q2) fun f s3 q3=>?_)
  cases f with
  |next=>
   obtain⟨σ3,H3,I3,n3⟩:=q3
   obtain⟨m',hm,w3⟩:=hN σ3 H3 n3
   exact⟨m',hm,σ3,H3,I3,w3⟩
  |cont=>
   obtain⟨σ3,H3,I3,n3⟩:=q3
   obtain⟨m',hm,w3⟩:=hN σ3 H3 n3
   exact⟨m',hm,σ3,H3,I3,w3⟩
  |brk=>exact q3
  |ret v=>exact q3
 |false=>
  rw [if_neg Bool.false_ne_true]
  exact wpAny_execs_nil ⟨σ1,H2,I2,q2⟩
end
structure It where
 go:Nat->Hp->Prop
 yld:Nat->Hp->V->Hp->Prop
 stop:Nat->Hp->Prop
def FpOk (X:Cx) (pins:List (Addr×Obj)) (H:Hp) (b:Addr):Prop:=
 H b=none/\b≠X.env.locals/\b∉X.fs/\(b∈X.ex∨X.s₀.heap.objs.size<=b)/\(∀x c,X.env.cells.lookup x=some c->c≠b)/\∀p∈X.pn++pins,p.1≠b
theorem Inv.fpOk {X:Cx} {pins:List (Addr×Obj)} {σ:St} {H H':Hp} {s:Shared} {b:Addr} (I:Inv X pins σ H s) (hb:s.heap.objs.size<=b) (hn:H' b=none):FpOk X pins H' b:=by
 refine⟨hn,Nat.ne_of_gt (Nat.lt_of_lt_of_le I.lt hb),I.nofs hb,.inr (Nat.le_trans I.sz hb),fun x c e z=>?_,fun p hp z=>?_⟩
 ·obtain⟨v,q⟩:=I.cell x c e
  exact absurd (Nat.lt_of_lt_of_le q.lt (by rw [z];exact hb)) (Nat.lt_irrefl _)
 ·exact absurd (Nat.lt_of_lt_of_le (Heap.lt_size (I.pin p hp).1) (by rw [z];exact hb)) (Nat.lt_irrefl _)
structure Turn (P:Program) (w:World) (K:PySem.W.Frag) (tg:Expr) (J:It) (fp:List Addr) (it:Addr) (tn:Nat->Heap->Prop):Prop where
 mem:it∈fp
 obj:∀i h,tn i h->∀b∈fp,∃o,h.get? b=some o/\∀v,o.data≠ .cell v
 keep:∀i h h',tn i h->(∀b∈fp,∀o,h.get? b=some o->h'.get? b=some o)->tn i h'
 item:∀(X:Cx),X.prog=P->X.w=w->X.K=K->X.calm=true->∀(i:Nat) (pins:List (Addr×Obj)) (s:Shared) (σ:St) (H:Hp) (E:Value->Shared->Prop),Inv X pins σ H s->(∀b∈fp,FpOk X pins H b)->tn i s.heap->J.go i H->
  wpAny (model P w) X.A (pyNext (.ref it)) (fun r s1=>∃u,r=some u/\
   wpAny (model P w) X.A (letOwnedTupleGo tg (.ref it) u) (fun _ s2=>∃x H',Inv X pins σ H' s2/\RelV x u/\J.yld i H x H'/\tn (i+1) s2.heap/\∀b∈fp,H' b=none) E s1) E s
 done:∀(X:Cx),X.prog=P->X.w=w->X.K=K->X.calm=true->∀(i:Nat) (pins:List (Addr×Obj)) (s:Shared) (σ:St) (H:Hp) (E:Value->Shared->Prop),Inv X pins σ H s->(∀b∈fp,FpOk X pins H b)->tn i s.heap->J.stop i H->
  wpAny (model P w) X.A (pyNext (.ref it)) (fun r s1=>r=none/\Inv X pins σ H s1) E s
 self:∀(A:Around) (i:Nat) (s:Shared) (Q:Value->Shared->Prop) (E:Value->Shared->Prop),tn i s.heap->Q (.ref it) s->wpAny (model P w) A (pyIter (.ref it)) Q E s
abbrev TI:=St->Hp->(It->Hp->Prop)->Prop
def PIE (X:Cx) (pins:List (Addr×Obj)) (σ:St) (tg:Expr) (R:It->Hp->Prop) (itv:Value) (s2:Shared):Prop:=
 ∃(it:Addr) (fp:List Addr) (tn:Nat->Heap->Prop) (J:It) (H':Hp),itv= .ref it/\Inv X pins σ H' s2/\Turn X.prog X.w X.K tg J fp it tn/\tn 0 s2.heap/\(∀b∈fp,FpOk X pins H' b)/\R J H'
def PI (X:Cx) (tg iter:Expr) (wi:TI):Prop:=
 ∀(pins:List (Addr×Obj)) (s:Shared) (σ:St) (H:Hp) (R:It->Hp->Prop),Inv X pins σ H s->wi σ H R->
  wpAny (model X.prog X.w) X.A (eval iter X.env) (fun v s1=>wpAny (model X.prog X.w) X.A (pyIter v) (PIE X pins σ tg R) X.xe s1) X.xe s
theorem go_of {M : Model} {A : Around} {E : Value → Shared → Prop} {s : Shared} {tg : Expr} {it : Addr} {u : Value} {o : Obj} {n : String} {vs : Array Value} {Q : Unit → Shared → Prop} (ho : s.heap.get? it = some o) (hc : o.cls = .type n) (hd : o.data = .fields vs)
    (hn : ["enumerate", "zip", "dict_itemiterator", "dict_reverseitemiterator", "odict_iterator", "itertools.zip_longest", "itertools.pairwise"].contains n = false) (hQ : Q () s) : wpAny M A (letOwnedTupleGo tg (.ref it) u) Q E s := by
  unfold letOwnedTupleGo
  cases tg <;> first
    | exact wpAny_pure hQ
    | (cases u <;> first
        | exact wpAny_pure hQ
        | (refine wpAny_bind (wpAny_load ho ?_)
           rw [hc, hd]
           show wpAny M A (if (["enumerate", "zip", "dict_itemiterator", "dict_reverseitemiterator", "odict_iterator", "itertools.zip_longest", "itertools.pairwise"].contains n && vs[0]? == some (rawInt _)) = true then _ else _) Q E s
           rw [if_neg (by intro h; rw [hn, Bool.false_and] at h; cases h)]
           exact wpAny_pure hQ))
def Itl (K:PySem.W.Frag) (a:Addr):It:=
 ⟨fun i H=>∃xs x,SqL K H a xs/\xs[i]? =some x,fun i H x H'=>H'=H/\∀xs,SqL K H a xs->xs[i]? =some x,fun i H=>∃xs,SqL K H a xs/\xs.length<=i⟩
def Itt (K:PySem.W.Frag) (a:Addr):It:=
 ⟨fun i H=>∃xs x,SqT K H a xs/\xs[i]? =some x,fun i H x H'=>H'=H/\∀xs,SqT K H a xs->xs[i]? =some x,fun i H=>∃xs,SqT K H a xs/\xs.length<=i⟩
def Itr (lo:Int) (n:Nat):It:=⟨fun i _=>i<n,fun i H x H'=>H'=H/\x= .int (lo+i),fun i _=>n<=i⟩
theorem turn_list {P:Program} {w:World} {K:PySem.W.Frag} {tg:Expr} (a it:Addr):Turn P w K tg (Itl K a) [it] it (fun i h=>h.IsListIter it a i) where
 mem:=by simp
 obj:=fun i h st b hb=>by
  have e:b=it:=by simpa using hb
  subst e
  obtain⟨o,e,c,d⟩:=st
  exact⟨o,e,fun v z=>by rw [d]at z;cases z⟩
 keep:=fun i h h' st k=>st.at fun o e=>k it (by simp) o e
 item:=by
  intro X hP hw hK hc i pins s σ H E I hf st hg
  subst hP hw hK
  obtain⟨xs,x,hq,hx⟩:=hg
  obtain⟨its,rv,p,hz⟩:=I.list hq
  obtain⟨u,hu,ru⟩:=rv.get hx
  obtain⟨f0,f1,f2,f3,f4,f5⟩:=hf it (by simp)
  refine wpAny_pyNext_list_item st p.isList (x:=u) (by simpa using hu) fun h' st' sb=>?_
  have I1:Inv X pins σ H {s with heap:=h'}:=I.turned (t':=s.toks) (fun b o hb e=>(sb.2 b hb).trans e) f0 f1 f3 f4 f5
  obtain⟨o,e,c,d⟩:=id st'
  exact⟨u,rfl,go_of (s:={s with heap:=h'}) e c d (by decide) ⟨x,H,I1,ru,⟨rfl,fun ys hy=>by rw [I.list_inj hy hq];exact hx⟩,st',fun b hb=>(hf b hb).1⟩⟩
 done:=by
  intro X hP hw hK hc i pins s σ H E I hf st hg
  subst hP hw hK
  obtain⟨xs,hq,hx⟩:=hg
  obtain⟨its,rv,p,hz⟩:=I.list hq
  obtain⟨f0,f1,f2,f3,f4,f5⟩:=hf it (by simp)
  have hl:=rv.length
  exact wpAny_pyNext_list_end (I.ok.hd hc) st p.isList (by simp;omega) fun h' eb=>⟨rfl,I.turned (t':=s.toks) (fun b o hb e=>eb b o hb e) f0 f1 f3 f4 f5⟩
 self:=fun _ _ _ _ _ st h=>wpAny_pyIter_listiter st h
theorem turn_tuple {P:Program} {w:World} {K:PySem.W.Frag} {tg:Expr} (a it:Addr):Turn P w K tg (Itt K a) [it] it (fun i h=>h.IsTupleIter it a i) where
 mem:=by simp
 obj:=fun i h st b hb=>by
  have e:b=it:=by simpa using hb
  subst e
  obtain⟨o,e,c,d⟩:=st
  exact⟨o,e,fun v z=>by rw [d]at z;cases z⟩
 keep:=fun i h h' st k=>st.at fun o e=>k it (by simp) o e
 item:=by
  intro X hP hw hK hc i pins s σ H E I hf st hg
  subst hP hw hK
  obtain⟨xs,x,hq,hx⟩:=hg
  obtain⟨its,rv,p,hz⟩:=I.tuple hq
  obtain⟨u,hu,ru⟩:=rv.get hx
  obtain⟨f0,f1,f2,f3,f4,f5⟩:=hf it (by simp)
  refine wpAny_pyNext_tuple_item st (show s.heap.IsTuple a its.toArray from p) (x:=u) (by simpa using hu) fun h' st' sb=>?_
  have I1:Inv X pins σ H {s with heap:=h'}:=I.turned (t':=s.toks) (fun b o hb e=>(sb.2 b hb).trans e) f0 f1 f3 f4 f5
  obtain⟨o,e,c,d⟩:=id st'
  exact⟨u,rfl,go_of (s:={s with heap:=h'}) e c d (by decide) ⟨x,H,I1,ru,⟨rfl,fun ys hy=>by rw [I.tuple_inj hy hq];exact hx⟩,st',fun b hb=>(hf b hb).1⟩⟩
 done:=by
  intro X hP hw hK hc i pins s σ H E I hf st hg
  subst hP hw hK
  obtain⟨xs,hq,hx⟩:=hg
  obtain⟨its,rv,p,hz⟩:=I.tuple hq
  obtain⟨f0,f1,f2,f3,f4,f5⟩:=hf it (by simp)
  have hl:=rv.length
  exact wpAny_pyNext_tuple_end (I.ok.hd hc) st (show s.heap.IsTuple a its.toArray from p) (by simp;omega) fun h' eb=>⟨rfl,I.turned (t':=s.toks) (fun b o hb e=>eb b o hb e) f0 f1 f3 f4 f5⟩
 self:=fun _ _ _ _ _ st h=>wpAny_pyIter_tupleiter st h
theorem turn_range {P:Program} {w:World} {K:PySem.W.Frag} {tg:Expr} (it:Addr) (lo:Int) (n:Nat):Turn P w K tg (Itr lo n) [it] it (fun i h=>IsRangeIter h it (lo+(i:Nat)*1) ((n:Int)-(i:Nat)) 1) where
 mem:=by simp
 obj:=fun i h st b hb=>by
  have e:b=it:=by simpa using hb
  subst e
  exact⟨_,st,fun v z=>by
   have z':Data.fields _=Data.cell v:=z
   cases z'⟩
 keep:=fun i h h' st k=>k it (by simp) _ st
 item:=by
  intro X hP hw hK hc i pins s σ H E I hf st hg
  subst hP hw hK
  obtain⟨f0,f1,f2,f3,f4,f5⟩:=hf it (by simp)
  have W:=Walks.range (prog:=X.prog) (w:=X.w) (I.ok.hd hc) it lo 1 n
  refine W.item i s _ _ hg st fun v h' tk hv st' kk=>?_
  obtain⟨t,rfl⟩:=hv
  have I1:Inv X pins σ H {s with heap:=h',toks:=tk}:=I.turned (fun b o hb e=>kk b o (by simpa using hb) e) f0 f1 f3 f4 f5
  refine⟨_,rfl,go_of (s:={s with heap:=h',toks:=tk}) (n:="range_iterator") st' rfl rfl (by decide) ⟨.int (lo+i),H,I1,⟨t,?_⟩,⟨rfl,rfl⟩,st',fun b hb=>(hf b hb).1⟩⟩
  rw [Int.mul_one]
 done:=by
  intro X hP hw hK hc i pins s σ H E I hf st hg
  subst hP hw hK
  obtain⟨f0,f1,f2,f3,f4,f5⟩:=hf it (by simp)
  exact wpAny_pyNext_range_end (I.ok.hd hc) st (by have:n<=i:=hg;omega) fun h' eb=>⟨rfl,I.turned (t':=s.toks) (fun b o hb e=>eb b o hb e) f0 f1 f3 f4 f5⟩
 self:=fun _ _ _ _ _ st h=>wpAny_pyIter_rangeiter st h
end L2
namespace L2
open PySem PySem.Spec PyProof.Rows
section
variable {X:Cx} {tg:Expr}
def iList (K:PySem.W.Frag) (tl:TE):TI:=fun σ H R=>tl σ H fun x H1=>∃a,x= .ref a/\(∃xs,SqL K H1 a xs)/\R (Itl K a) H1
def iTup (K:PySem.W.Frag) (tl:TE):TI:=fun σ H R=>tl σ H fun x H1=>∃a,x= .ref a/\(∃xs,SqT K H1 a xs)/\R (Itt K a) H1
theorem pi_list {l:Expr} {tl:TE} (hl:PE X l tl):PI X tg l (iList X.K tl):=by
 intro pins s σ H R I h
 refine thn (hl pins s σ H _ I h) fun v s1 ⟨x,H1,I1,r1,q1⟩=>?_
 obtain⟨a,e,⟨xs,hq⟩,q⟩:=q1
 subst e
 cases r1
 obtain⟨its,rv,p,hz⟩:=I1.list hq
 refine wpAny_pyIter_list p.isList ?_
 refine⟨s1.heap.objs.size,[s1.heap.objs.size],_,_,H1,rfl,I1.kept (t':=s1.toks) fun b o e=>Heap.get?_push_of_some _ e,turn_list a _,⟨_,Heap.get?_push_size _ rfl,rfl,rfl⟩,fun b hb=>?_,q⟩
 have e:b=s1.heap.objs.size:=by simpa using hb
 subst e
 exact I1.fpOk (Nat.le_refl _) (I1.hok.fresh (Nat.le_refl _))
theorem pi_tup {l:Expr} {tl:TE} (hl:PE X l tl):PI X tg l (iTup X.K tl):=by
 intro pins s σ H R I h
 refine thn (hl pins s σ H _ I h) fun v s1 ⟨x,H1,I1,r1,q1⟩=>?_
 obtain⟨a,e,⟨xs,hq⟩,q⟩:=q1
 subst e
 cases r1
 obtain⟨its,rv,p,hz⟩:=I1.tuple hq
 refine wpAny_pyIter_tuple (show s1.heap.IsTuple a its.toArray from p) ?_
 refine⟨s1.heap.objs.size,[s1.heap.objs.size],_,_,H1,rfl,I1.kept (t':=s1.toks) fun b o e=>Heap.get?_push_of_some _ e,turn_tuple a _,⟨_,Heap.get?_push_size _ rfl,rfl,rfl⟩,fun b hb=>?_,q⟩
 have e:b=s1.heap.objs.size:=by simpa using hb
 subst e
 exact I1.fpOk (Nat.le_refl _) (I1.hok.fresh (Nat.le_refl _))
theorem range_it {pins:List (Addr×Obj)} {σ:St} {H:Hp} {s:Shared} {R:It->Hp->Prop} {E:Value->Shared->Prop} {lo hi:Int} {t u v:Tok} {tk:Nat} (I:Inv X pins σ H s) (h1: -(2 ^ 62)<=lo) (h2:lo<2 ^ 62) (h3: -(2 ^ 62)<=hi) (h4:hi<2 ^ 62)
  (q:R (Itr lo (hi-lo).toNat) H):wpAny (model X.prog X.w) X.A (pyIter (.ref s.heap.objs.size)) (PIE X pins σ tg R) E {s with heap:=s.heap.push {cls:= .type "range",data:= .fields #[.int lo t,.int hi u,.int 1 v]},toks:=tk}:=by
 refine wpAny_pyIter_range (IsRange.new ..) (small_one h1 h2 h3 h4) ?_
 have I1:Inv X pins σ H {s with heap:=s.heap.push {cls:= .type "range",data:= .fields #[.int lo t,.int hi u,.int 1 v]},toks:=tk}:=I.kept fun b o e=>Heap.get?_push_of_some _ e
 refine⟨(s.heap.push {cls:= .type "range",data:= .fields #[.int lo t,.int hi u,.int 1 v]}).objs.size,[(s.heap.push {cls:= .type "range",data:= .fields #[.int lo t,.int hi u,.int 1 v]}).objs.size],_,_,H,rfl,
  I1.kept (t':=tk) fun b o e=>Heap.get?_push_of_some _ e,turn_range _ lo (hi-lo).toNat,?_,fun b hb=>?_,q⟩
 ·have e1:lo+((0:Nat):Int)*1=lo:=by simp
  have e2:(((hi-lo).toNat:Nat):Int)-((0:Nat):Int)=Builtin.Range.rangeSize lo hi 1:=by rw [rangeSize_one];split<;>omega
  show IsRangeIter _ _ (lo+((0:Nat):Int)*1) ((((hi-lo).toNat:Nat):Int)-((0:Nat):Int)) 1
  rw [e1,e2]
  exact Heap.get?_push_size _ rfl
 ·have e:b=(s.heap.push {cls:= .type "range",data:= .fields #[.int lo t,.int hi u,.int 1 v]}).objs.size:=by simpa using hb
  subst e
  exact I1.fpOk (Nat.le_refl _) (I1.hok.fresh (Nat.le_refl _))
def iRng1 (ta:TA):TI:=fun σ H R=>ta σ H fun vs H1=>∃j:Int,vs=[.int j]/\ -(2 ^ 62)<=j/\j<2 ^ 62/\R (Itr 0 j.toNat) H1
theorem pi_range1 {a:Expr} {ta:TA} {p pos:Pos} (hg:Gl X "range") (hm:X.mg "range"=none) (ha:PA X [a] ta) (hs:starEach [a] X.env=[(false,eval a X.env)]:=by rfl):PI X tg (.Call (.Name "range" p) [a] [] pos) (iRng1 ta):=by
 intro pins s σ H R I h
 refine Call_ (ld_blt I hg hm boot_range (PyProof.Rows.callWith_type1 (thn (ha pos pins s σ H _ I h) fun us s1 ⟨vs,H1,I1,r1,q1⟩=>?_) hs rfl))
 obtain⟨j,e,q1,q2,q⟩:=q1
 subst e
 cases r1 with
 |cons r rr=>
  cases rr
  obtain⟨t,rfl⟩:=r
  exact call_range_1 (range_it I1 (by omega) (by omega) q1 q2 (by simpa using q))
def tFor (wi:TI) (g:TG) (tb:TS):TS:=fun D σ H=>wi σ H fun J H1=>∃W:Nat->Nat->St->Hp->Prop,(∃m,W 0 m σ H1)/\∀i m σ H,W i m σ H->
 (J.stop i H/\D.nx σ H)∨(J.go i H/\∃N:St->Hp->Prop,(∀σ' H',N σ' H'->∃m',m'<m/\W (i+1) m' σ' H')/\∀x H',J.yld i H x H'->g x σ H' fun σ2 H2=>tb {D with nx:=N,ct:=N,bk:=D.nx} σ2 H2)
def pinsAt (fp:List Addr) (h:Heap):List (Addr×Obj):=fp.filterMap fun b=>(h.get? b).map fun o=>(b,o)
theorem mem_pinsAt {fp:List Addr} {h:Heap} {b:Addr} {o:Obj} (hb:b∈fp) (e:h.get? b=some o):(b,o)∈pinsAt fp h:=List.mem_filterMap.mpr ⟨b,hb,by rw [e];rfl⟩
theorem of_pinsAt {fp:List Addr} {h:Heap} {p:Addr×Obj} (hp:p∈pinsAt fp h):p.1∈fp/\h.get? p.1=some p.2:=by
 obtain⟨b,hb,e⟩:=List.mem_filterMap.mp hp
 cases q:h.get? b with
 |none=>rw [q]at e;cases e
 |some o=>
  rw [q]at e
  have e':(b,o)=p:=Option.some.inj e
  subst e'
  exact⟨hb,q⟩
theorem Inv.pinned {pins:List (Addr×Obj)} {σ:St} {H:Hp} {s:Shared} {fp:List Addr} (I:Inv X pins σ H s) (hf:∀b∈fp,FpOk X pins H b) (ho:∀b∈fp,∃o,s.heap.get? b=some o/\∀v,o.data≠ .cell v):Inv X (pins++pinsAt fp s.heap) σ H s:=
 I.pins_of fun p hp=>(List.mem_append.mp hp).elim (fun z=>I.pin p (List.mem_append_right _ z)) fun z=>by
  obtain⟨hb,e⟩:=of_pinsAt z
  obtain⟨f0,f1,f2,_⟩:=hf p.1 hb
  obtain⟨o,e',d⟩:=ho p.1 hb
  rw [e]at e';cases e'
  exact⟨e,f0,f1,f2,d⟩
theorem Inv.unpinned {pins pl:List (Addr×Obj)} {σ:St} {H:Hp} {s:Shared} (I:Inv X (pins++pl) σ H s):Inv X pins σ H s:=I.pins_of fun p hp=>I.pin p (List.mem_append_right _ (List.mem_append_left _ hp))
theorem ps_for {iter:Expr} {body:List Stmt} {wi:TI} {g:TG} {tb:TS} {pos:Pos} (hp:PassesOwn (model X.prog X.w) X.A X.env X.xe) (hc:X.calm=true) (hi:PI X tg iter wi) (hg:PG X tg g) (hb:PSs X body tb)
  (hs:∀x,foldedSetIterable iter X.env x=pure x:=by intro _;rfl):PS X (.For tg iter body [] pos) (tFor wi g tb):=by
 intro pins s σ H D I h
 refine wpAny_For (thn (hi pins s σ H _ I h) fun v s1 h1=>thn h1 fun itv s2 h2=>?_) hs
 obtain⟨it,fp,tn,J,H2,e,I2,T,st2,f2,W,⟨m0,w0⟩,turn⟩:=h2
 subst e
 have stat:∀{H':Hp},(∀b∈fp,H' b=none)->∀b∈fp,FpOk X pins H' b:=fun hn b hb=>⟨hn b hb,(f2 b hb).2⟩
 refine codeAny_forLoop_any (fun n s'=>∃i σ' H',Inv X pins σ' H' s'/\tn i s'.heap/\(∀b∈fp,H' b=none)/\W i n σ' H') ?_ m0 ⟨0,σ,H2,I2,st2,fun b hb=>(f2 b hb).1,w0⟩
 rintro n s3 ⟨i,σ3,H3,I3,st3,fr3,w3⟩
 rcases turn i n σ3 H3 w3 with ⟨stop,qn⟩|⟨go,N,hN,step⟩
 ·refine wpAny_passesOwn hp (thn (T.done X rfl rfl rfl hc i pins s3 σ3 H3 X.xe I3 (stat fr3) st3 stop) fun r s4 ⟨hr,I4⟩=>?_)
  subst hr
  exact wpAny_execs_nil ⟨σ3,H3,I4,qn⟩
 ·refine wpAny_passesOwn hp (thn (T.item X rfl rfl rfl hc i pins s3 σ3 H3 X.xe I3 (stat fr3) st3 go) fun r s4 ⟨u,hr,h4⟩=>?_)
  subst hr
  refine wpAny_passesOwn hp (thn h4 fun _ s5 ⟨x,H5,I5,r5,y5,st5,fr5⟩=>?_)
  have I5':=I5.pinned (stat fr5) (T.obj _ _ st5)
  refine wpAny_passesOwn hp (thn (hg _ s5 σ3 H5 x u _ I5' r5 (step x H5 y5)) fun _ s6 ⟨σ6,H6,I6,q6⟩=>?_)
  refine wpAny_passesOwn hp (thn (hb _ s6 σ6 H6 _ I6 q6) fun f s7 q7=>?_)
  have again:∀{σ7:St} {H7:Hp},Inv X (pins++pinsAt fp s5.heap) σ7 H7 s7->N σ7 H7->∃m,m<n/\∃i σ' H',Inv X pins σ' H' s7/\tn i s7.heap/\(∀b∈fp,H' b=none)/\W i m σ' H':=fun{σ7 H7} I7 n7=>by
   obtain⟨m',hm,w7⟩:=hN σ7 H7 n7
   refine⟨m',hm,i+1,σ7,H7,I7.unpinned,T.keep _ _ _ st5 fun b hb o e=>(I7.pin (b,o) (List.mem_append_right _ (List.mem_append_right _ (mem_pinsAt hb e)))).1,fun b hb=>?_,w7⟩
   obtain⟨o,e,d⟩:=T.obj _ _ st5 b hb
   exact(I7.pin (b,o) (List.mem_append_right _ (List.mem_append_right _ (mem_pinsAt hb e)))).2.1
  cases f with
  |next=>obtain⟨σ7,H7,I7,n7⟩:=q7;exact again I7 n7
  |cont=>obtain⟨σ7,H7,I7,n7⟩:=q7;exact again I7 n7
  |brk=>obtain⟨σ7,H7,I7,q7⟩:=q7;exact⟨σ7,H7,I7.unpinned,q7⟩
  |ret v=>obtain⟨x7,σ7,H7,I7,r7,q7⟩:=q7;exact⟨x7,σ7,H7,I7.unpinned,r7,q7⟩
end
theorem for_list {K:PySem.W.Frag} {a:Addr} {xs:List V} {g:TG} {tb:TS} {D:Ends} {σ:St} {H:Hp} (Pv:Nat->St->Hp->Prop) (h0:Pv 0 σ H) (hl:∀i σ H,i<=xs.length->Pv i σ H->SqL K H a xs)
  (hs:∀i x σ H,xs[i]? =some x->Pv i σ H->g x σ H fun σ2 H2=>tb {D with nx:=Pv (i+1),ct:=Pv (i+1),bk:=D.nx} σ2 H2) (hd:∀σ H,Pv xs.length σ H->D.nx σ H):
  ∃W:Nat->Nat->St->Hp->Prop,(∃m,W 0 m σ H)/\∀i m σ H,W i m σ H->
   ((Itl K a).stop i H/\D.nx σ H)∨((Itl K a).go i H/\∃N:St->Hp->Prop,(∀σ' H',N σ' H'->∃m',m'<m/\W (i+1) m' σ' H')/\∀x H',(Itl K a).yld i H x H'->g x σ H' fun σ2 H2=>tb {D with nx:=N,ct:=N,bk:=D.nx} σ2 H2):=by
 refine⟨fun i m σ H=>m=xs.length-i/\i<=xs.length/\Pv i σ H,⟨xs.length,by simp,Nat.zero_le _,h0⟩,?_⟩
 rintro i m σ H ⟨rfl,hi,p⟩
 have q:=hl i σ H hi p
 by_cases hlt:i<xs.length
 ·refine .inr ⟨⟨xs,xs[i],q,by simp [hlt]⟩,Pv (i+1),fun σ' H' p'=>⟨xs.length-(i+1),by omega,rfl,hlt,p'⟩,fun x H' y=>?_⟩
  obtain⟨e,y⟩:=y
  subst e
  exact hs i x σ _ (y xs q) p
 ·have e:i=xs.length:=by omega
  subst e
  exact .inl ⟨⟨xs,q,Nat.le_refl _⟩,hd σ H p⟩
end L2
namespace L2
open PySem PySem.Spec PyProof.Rows
abbrev R2:=V->V->Hp->VK->Prop
def OpR (X:Cx) (f:Value->Value->Sem Value) (r:R2):Prop:=
 ∀(pins:List (Addr×Obj)) (s:Shared) (σ:St) (H:Hp) (x y:V) (v u:Value) (Q:VK),Inv X pins σ H s->RelV x v->RelV y u->r x y H Q->
  wpAny (model X.prog X.w) X.A (f v u) (EP X pins σ Q) X.xe s
def UnR (X:Cx) (f:Value->Sem Value) (r:V->Hp->VK->Prop):Prop:=
 ∀(pins:List (Addr×Obj)) (s:Shared) (σ:St) (H:Hp) (x:V) (v:Value) (Q:VK),Inv X pins σ H s->RelV x v->r x H Q->
  wpAny (model X.prog X.w) X.A (f v) (EP X pins σ Q) X.xe s
def CallR (X:Cx) (f:Value) (r:List V->Hp->VK->Prop):Prop:=
 ∀(pins:List (Addr×Obj)) (s:Shared) (σ:St) (H:Hp) (xs:List V) (us:List Value) (Q:VK),Inv X pins σ H s->Vals xs us->r xs H Q->
  wpAny (model X.prog X.w) X.A (call f us) (EP X pins σ Q) X.xe s
def tOp (r:R2) (ta tb:TE):TE:=fun σ H Q=>ta σ H fun x H1=>tb σ H1 fun y H2=>r x y H2 Q
def tUn (r:V->Hp->VK->Prop) (ta:TE):TE:=fun σ H Q=>ta σ H fun x H1=>r x H1 Q
def rI (C:Int->Int->Prop) (g:Int->Int->V):R2:=fun x y H Q=>∃i j,x= .int i/\y= .int j/\C i j/\Q (g i j) H
def rI0 (g:Int->Int->V):R2:=fun x y H Q=>∃i j,x= .int i/\y= .int j/\Q (g i j) H
def rU (g:Int->V):V->Hp->VK->Prop:=fun x H Q=>∃i,x= .int i/\Q (g i) H
section
variable {X:Cx} {a b c:Expr} {ta tb tc:TE} {pos:Pos}
theorem binT (ha:PE X a ta) (hb:PE X b tb) {pins:List (Addr×Obj)} {s:Shared} {σ:St} {H:Hp} {R:V->V->Hp->Prop} (I:Inv X pins σ H s)
  (h:ta σ H fun x H1=>tb σ H1 fun y H2=>R x y H2) {Q:Value->Shared->Prop} {f:Value->Value->Sem Value}
  (hf:∀v u s2 x y H2,Inv X pins σ H2 s2->RelV x v->RelV y u->R x y H2->wpAny (model X.prog X.w) X.A (f v u) Q X.xe s2):
  wpAny (model X.prog X.w) X.A (eval a X.env) (fun v s₁=>wpAny (model X.prog X.w) X.A (eval b X.env) (fun u s₂=>wpAny (model X.prog X.w) X.A (f v u) Q X.xe s₂) X.xe s₁) X.xe s:=by
 refine thn (ha pins s σ H _ I h) fun v s1 ⟨x,H1,I1,r1,q1⟩=>?_
 refine thn (hb pins s1 σ H1 _ I1 q1) fun u s2 ⟨y,H2,I2,r2,q2⟩=>?_
 exact hf v u s2 x y H2 I2 r1 r2 q2
theorem pe_op {op:Operator} {r:R2} (ho:OpR X (binaryOp op) r) (ha:PE X a ta) (hb:PE X b tb):PE X (.BinOp a op b pos) (tOp r ta tb):=by
 intro pins s σ H Q I h
 exact wpAny_BinOp (binT ha hb I h fun v u s2 x y H2 I2 rx ry q=>ho pins s2 σ H2 x y v u Q I2 rx ry q)
theorem pe_un {op:UnaryOp} {r:V->Hp->VK->Prop} (ho:UnR X (unaryOp op) r) (ha:PE X a ta):PE X (.UnaryOp op a pos) (tUn r ta):=by
 intro pins s σ H Q I h
 exact UnaryOp_ (thn (ha pins s σ H _ I h) fun v s1 ⟨x,H1,I1,r1,q1⟩=>ho pins s1 σ H1 x v Q I1 r1 q1)
theorem opI {f:Value->Value->Sem Value} {C:Int->Int->Prop} {g:Int->Int->Int}
  (rule:∀(i j:Int) (t u:Tok) (s:Shared) (Q:Value->Shared->Prop) (E:Value->Shared->Prop),C i j->Q (.int (g i j) s.toks) {s with toks:=s.toks+1}->wpAny (model X.prog X.w) X.A (f (.int i t) (.int j u)) Q E s):
  OpR X f (rI C fun i j=> .int (g i j)):=by
 intro pins s σ H x y v u Q I rx ry h
 obtain⟨i,j,rfl,rfl,hc,q⟩:=h
 obtain⟨t,rfl⟩:=rx
 obtain⟨t',rfl⟩:=ry
 exact rule i j t t' s _ _ hc ⟨.int (g i j),H,I.tok _,⟨_,rfl⟩,q⟩
theorem opI0 {f:Value->Value->Sem Value} {g:Int->Int->Int}
  (rule:∀(i j:Int) (t u:Tok) (s:Shared) (Q:Value->Shared->Prop) (E:Value->Shared->Prop),Q (.int (g i j) s.toks) {s with toks:=s.toks+1}->wpAny (model X.prog X.w) X.A (f (.int i t) (.int j u)) Q E s):
  OpR X f (rI0 fun i j=> .int (g i j)):=by
 intro pins s σ H x y v u Q I rx ry h
 obtain⟨i,j,rfl,rfl,q⟩:=h
 obtain⟨t,rfl⟩:=rx
 obtain⟨t',rfl⟩:=ry
 exact rule i j t t' s _ _ ⟨.int (g i j),H,I.tok _,⟨_,rfl⟩,q⟩
theorem opB0 {f:Value->Value->Sem Value} {g:Int->Int->Bool}
  (rule:∀(i j:Int) (t u:Tok) (s:Shared) (Q:Value->Shared->Prop) (E:Value->Shared->Prop),Q (.bool (g i j)) s->wpAny (model X.prog X.w) X.A (f (.int i t) (.int j u)) Q E s):
  OpR X f (rI0 fun i j=> .bl (g i j)):=by
 intro pins s σ H x y v u Q I rx ry h
 obtain⟨i,j,rfl,rfl,q⟩:=h
 obtain⟨t,rfl⟩:=rx
 obtain⟨t',rfl⟩:=ry
 exact rule i j t t' s _ _ ⟨.bl (g i j),H,I,rfl,q⟩
def CDiv (i j:Int):Prop:=0<j/\j<1073741824
def CPow (i j:Int):Prop:=0<=j/\j<=1000000/\i.natAbs<2 ^ 64
def CMul (i j:Int):Prop:=(-(2 ^ 64)<i/\i<2 ^ 64)∨(-(2 ^ 64)<j/\j<2 ^ 64)
theorem CMul.ok {i j:Int} (h:CMul i j):IntMulOk i j:=by
 rcases h with ⟨h1,h2⟩|⟨h1,h2⟩
 ·exact .of_left (intBits_le_64 h1 h2)
 ·exact .of_right (intBits_le_64 h1 h2)
theorem op_add:OpR X (binaryOp .Add) (rI0 fun i j=> .int (i+j)):=opI0 fun _ _ _ _ _ _ _ q=>add_int q
theorem op_sub:OpR X (binaryOp .Sub) (rI0 fun i j=> .int (i-j)):=opI0 fun _ _ _ _ _ _ _ q=>sub_int q
theorem op_mul:OpR X (binaryOp .Mult) (rI CMul fun i j=> .int (i*j)):=opI fun _ _ _ _ _ _ _ hc q=>mul_int q hc.ok
theorem op_fdiv:OpR X (binaryOp .FloorDiv) (rI CDiv fun i j=> .int (i / j)):=opI fun i j _ _ _ _ _ hc q=>by
 have h1:(0:Int)<j:=hc.1
 have h2:j<1073741824:=hc.2
 exact floordiv_int (by omega) (by rw [Int.fdiv_eq_ediv_of_nonneg i (by omega)];exact q) (.inl (PyProof.noPylong_small (by omega)))
theorem op_mod:OpR X (binaryOp .Mod) (rI (fun _ j=>0<j) fun i j=> .int (i % j)):=opI fun i j _ _ _ _ _ hc q=>by
 have h1:(0:Int)<j:=hc
 exact mod_int' (by omega) (by rw [Int.fmod_eq_emod_of_nonneg i (by omega)];exact q)
theorem op_pow:OpR X (binaryOp .Pow) (rI CPow fun i j=> .int (i ^ j.toNat)):=opI fun _ _ _ _ _ _ _ hc q=>pow_int_small hc.1 hc.2.1 hc.2.2 q
theorem unI {f:Value->Sem Value} {g:Int->Int}
  (rule:∀(i:Int) (t:Tok) (s:Shared) (Q:Value->Shared->Prop) (E:Value->Shared->Prop),Q (.int (g i) s.toks) {s with toks:=s.toks+1}->wpAny (model X.prog X.w) X.A (f (.int i t)) Q E s):
  UnR X f (rU fun i=> .int (g i)):=by
 intro pins s σ H x v Q I rx h
 obtain⟨i,rfl,q⟩:=h
 obtain⟨t,rfl⟩:=rx
 exact rule i t s _ _ ⟨.int (g i),H,I.tok _,⟨_,rfl⟩,q⟩
theorem un_neg:UnR X (unaryOp .USub) (rU fun i=> .int (-i)):=unI fun _ _ _ _ _ q=>neg_int q
end
def scal:V->V->Bool
 | .non,.non=>true| .non,.int _=>true| .int _,.non=>true| .non,.bl _=>true| .bl _,.non=>true| .non,.str _=>true| .str _,.non=>true
 | .int _,.int _=>true| .bl _,.bl _=>true| .str _,.str _=>true| .byt _,.byt _=>true
 | .int _,.str _=>true| .str _,.int _=>true| .bl _,.str _=>true| .str _,.bl _=>true
 |_,_=>false
def rEq:R2:=fun x y H Q=>scal x y=true/\Q (.bl (decide (x=y))) H
def rNe:R2:=fun x y H Q=>scal x y=true/\Q (.bl (!decide (x=y))) H
theorem dec_int {i j:Int}:decide (V.int i=V.int j)=(i==j):=by
 rw [Bool.eq_iff_iff]
 simp
theorem dec_bl {i j:Bool}:decide (V.bl i=V.bl j)=(i==j):=by
 rw [Bool.eq_iff_iff]
 simp
theorem dec_str {i j:Str}:decide (V.str i=V.str j)=(i==j):=by
 rw [Bool.eq_iff_iff]
 simp
theorem dec_byt {i j:Array UInt8}:decide (V.byt i=V.byt j)=(i.toList==j.toList):=by
 rw [Bool.eq_iff_iff]
 cases i
 cases j
 simp
section
variable {X:Cx} {a b c:Expr} {ta tb tc:TE} {pos:Pos}
theorem fin_bl {pins:List (Addr×Obj)} {σ:St} {H:Hp} {s:Shared} {Q:VK} {k k':Bool} (I:Inv X pins σ H s) (q:Q (.bl k) H) (e:k=k'):EP X pins σ Q (.bool k') s:=by
 subst e
 exact⟨.bl k,H,I,rfl,q⟩
theorem op_eq:OpR X (compareOp .Eq) rEq:=by
 intro pins s σ H x y v u Q I rx ry h
 obtain⟨hs,q⟩:=h
 cases x with
 |non=>
  cases rx
  cases y with
  |non=>cases ry;exact PySem.EqNone.eq_none_none (fin_bl I q (by simp))
  |bl j=>cases ry;exact PySem.EqNone.eq_none_bool (fin_bl I q (by simp))
  |int j=>obtain⟨t',rfl⟩:=ry;exact PySem.EqNone.eq_none_int (fin_bl I q (by simp))
  |str j=>obtain⟨t',rfl⟩:=ry;exact PySem.EqNone.eq_none_str (fin_bl I q (by simp))
  |_=>exact absurd (show false=true from hs) Bool.false_ne_true
 |bl i=>
  cases rx
  cases y with
  |non=>cases ry;exact PySem.EqNone.eq_bool_none (fin_bl I q (by simp))
  |bl j=>cases ry;exact eq_bool (fin_bl I q dec_bl)
  |str j=>obtain⟨t',rfl⟩:=ry;exact PySem.EqMixed.eq_bool_str (fin_bl I q (by simp))
  |_=>exact absurd (show false=true from hs) Bool.false_ne_true
 |int i=>
  obtain⟨t,rfl⟩:=rx
  cases y with
  |non=>cases ry;exact PySem.EqNone.eq_int_none (fin_bl I q (by simp))
  |int j=>obtain⟨t',rfl⟩:=ry;exact eq_int (fin_bl I q dec_int)
  |str j=>obtain⟨t',rfl⟩:=ry;exact PySem.EqMixed.eq_int_str (fin_bl I q (by simp))
  |_=>exact absurd (show false=true from hs) Bool.false_ne_true
 |str i=>
  obtain⟨t,rfl⟩:=rx
  cases y with
  |non=>cases ry;exact PySem.EqNone.eq_str_none (fin_bl I q (by simp))
  |bl j=>cases ry;exact PySem.EqMixed.eq_str_bool (fin_bl I q (by simp))
  |int j=>obtain⟨t',rfl⟩:=ry;exact PySem.EqMixed.eq_str_int (fin_bl I q (by simp))
  |str j=>obtain⟨t',rfl⟩:=ry;exact eq_str (fin_bl I q dec_str)
  |_=>exact absurd (show false=true from hs) Bool.false_ne_true
 |byt i=>
  obtain⟨t,rfl⟩:=rx
  cases y with
  |byt j=>obtain⟨t',rfl⟩:=ry;exact PySem.W.eq_bytes (fin_bl I q dec_byt)
  |_=>exact absurd (show false=true from hs) Bool.false_ne_true
 |_=>cases y<;>exact absurd (show false=true from hs) Bool.false_ne_true
theorem op_ne:OpR X (compareOp .NotEq) rNe:=by
 intro pins s σ H x y v u Q I rx ry h
 obtain⟨hs,q⟩:=h
 cases x with
 |non=>
  cases rx
  cases y with
  |non=>cases ry;exact PySem.EqNone.ne_none_none (fin_bl I q (by simp))
  |bl j=>cases ry;exact PySem.EqNone.ne_none_bool (fin_bl I q (by simp))
  |int j=>obtain⟨t',rfl⟩:=ry;exact PySem.EqNone.ne_none_int (fin_bl I q (by simp))
  |str j=>obtain⟨t',rfl⟩:=ry;exact PySem.EqNone.ne_none_str (fin_bl I q (by simp))
  |_=>exact absurd (show false=true from hs) Bool.false_ne_true
 |bl i=>
  cases rx
  cases y with
  |non=>cases ry;exact PySem.EqNone.ne_bool_none (fin_bl I q (by simp))
  |bl j=>cases ry;exact ne_bool (fin_bl I q (congrArg not dec_bl))
  |str j=>obtain⟨t',rfl⟩:=ry;exact PySem.EqMixed.ne_bool_str (fin_bl I q (by simp))
  |_=>exact absurd (show false=true from hs) Bool.false_ne_true
 |int i=>
  obtain⟨t,rfl⟩:=rx
  cases y with
  |non=>cases ry;exact PySem.EqNone.ne_int_none (fin_bl I q (by simp))
  |int j=>obtain⟨t',rfl⟩:=ry;exact ne_int (fin_bl I q (congrArg not dec_int))
  |str j=>obtain⟨t',rfl⟩:=ry;exact PySem.EqMixed.ne_int_str (fin_bl I q (by simp))
  |_=>exact absurd (show false=true from hs) Bool.false_ne_true
 |str i=>
  obtain⟨t,rfl⟩:=rx
  cases y with
  |non=>cases ry;exact PySem.EqNone.ne_str_none (fin_bl I q (by simp))
  |bl j=>cases ry;exact PySem.EqMixed.ne_str_bool (fin_bl I q (by simp))
  |int j=>obtain⟨t',rfl⟩:=ry;exact PySem.EqMixed.ne_str_int (fin_bl I q (by simp))
  |str j=>obtain⟨t',rfl⟩:=ry;exact ne_str (fin_bl I q (congrArg not dec_str))
  |_=>exact absurd (show false=true from hs) Bool.false_ne_true
 |byt i=>
  obtain⟨t,rfl⟩:=rx
  cases y with
  |byt j=>obtain⟨t',rfl⟩:=ry;exact PySem.W.ne_bytes (fin_bl I q (congrArg not dec_byt))
  |_=>exact absurd (show false=true from hs) Bool.false_ne_true
 |_=>cases y<;>exact absurd (show false=true from hs) Bool.false_ne_true
theorem op_lt:OpR X (compareOp .Lt) (rI0 fun i j=> .bl (decide (i<j))):=opB0 fun _ _ _ _ _ _ _ q=>lt_int q
theorem op_le:OpR X (compareOp .LtE) (rI0 fun i j=> .bl (decide (i<=j))):=opB0 fun _ _ _ _ _ _ _ q=>le_int q
theorem op_gt:OpR X (compareOp .Gt) (rI0 fun i j=> .bl (decide (j<i))):=opB0 fun _ _ _ _ _ _ _ q=>gt_int q
theorem op_ge:OpR X (compareOp .GtE) (rI0 fun i j=> .bl (decide (j<=i))):=opB0 fun _ _ _ _ _ _ _ q=>ge_int q
theorem op_in_str:OpR X (compareOp .In) (fun x y H Q=>∃i j,x= .str i/\y= .str j/\Q (.bl (!(Builtin.Str.occurrences j i 0 j.length 1).isEmpty)) H):=by
 intro pins s σ H x y v u Q I rx ry h
 obtain⟨i,j,rfl,rfl,q⟩:=h
 obtain⟨t,rfl⟩:=rx
 obtain⟨t',rfl⟩:=ry
 exact in_str (fin_bl I q rfl)
theorem op_notN:OpR X (compareOp .IsNot) (fun x y H Q=>y= .non/\Q (.bl (!decide (x= .non))) H):=by
 intro pins s σ H x y v u Q I rx ry h
 obtain⟨rfl,q⟩:=h
 cases ry
 refine isnot_none_gen (fin_bl I q ?_)
 cases x<;>first
  |(cases rx;rfl)
  |(obtain⟨t,rfl⟩:=rx;rfl)
theorem nomark (b:Expr) {op:CmpOp} (h:op≠ .In:=by decide) (h2:op≠ .NotIn:=by decide):behindInMarks op b=false:=by
 have e1:(op==CmpOp.In)=false:=by cases op<;>first|rfl|exact absurd rfl h
 have e2:(op==CmpOp.NotIn)=false:=by cases op<;>first|rfl|exact absurd rfl h2
 cases b<;>simp [behindInMarks,e1,e2]
theorem pe_cmpR {op:CmpOp} {r:R2} (ho:OpR X (compareOp op) r) (ha:PE X a ta) (hb:PE X b tb) (hm:behindInMarks op b=false):PE X (.Compare a [op] [b] pos) (tOp r ta tb):=by
 intro pins s σ H Q I h
 exact wpAny_Compare1 (binT ha hb I h fun v u s2 x y H2 I2 rx ry q=>ho pins s2 σ H2 x y v u Q I2 rx ry q) hm
def tTest (t:TE):TT:=fun σ H Q=>t σ H fun x H'=>∃k,x= .bl k/\Q k H'
theorem pt_cmpR {op:CmpOp} {r:R2} (ho:OpR X (compareOp op) r) (ha:PE X a ta) (hb:PE X b tb) (hm:behindInMarks op b=false):PT X (.Compare a [op] [b] pos) (tTest (tOp r ta tb)):=by
 intro pins s σ H Q I h
 refine wpAny_isTrue_Compare1 (thn (ha pins s σ H _ I h) fun v s1 ⟨x,H1,I1,r1,q1⟩=>thn (hb pins s1 σ H1 _ I1 q1) fun u s2 ⟨y,H2,I2,r2,q2⟩=>
  thn (ho pins s2 σ H2 x y v u _ I2 r1 r2 q2) fun c s3 ⟨z,H3,I3,r3,k,e,q3⟩=>?_) hm
 subst e
 cases r3
 exact wpAny_truthy_bool ⟨H3,I3,q3⟩
def tChain (r r':R2) (ta tb tc:TE):TE:=fun σ H Q=>ta σ H fun x H1=>tb σ H1 fun y H2=>r x y H2 fun z H3=>∃k,z= .bl k/\
 (if k=true then tc σ H3 fun w' H4=>r' y w' H4 Q else Q (.bl false) H3)
theorem pe_chain {op op':CmpOp} {r r':R2} (ho:OpR X (compareOp op) r) (ho':OpR X (compareOp op') r') (ha:PE X a ta) (hb:PE X b tb) (hc:PE X c tc)
  (hm:lastMarks [op,op'] [b,c]=false:=by with_unfolding_all rfl):PE X (.Compare a [op,op'] [b,c] pos) (tChain r r' ta tb tc):=by
 intro pins s σ H Q I h
 refine Compare_chain (thn (ha pins s σ H _ I h) fun v s1 ⟨x,H1,I1,r1,q1⟩=>chain_link (thn (hb pins s1 σ H1 _ I1 q1) fun u s2 ⟨y,H2,I2,r2,q2⟩=>
  thn (ho pins s2 σ H2 x y v u _ I2 r1 r2 q2) fun d s3 ⟨z,H3,I3,r3,k,e,q3⟩=>?_)) hm
 subst e
 cases r3
 refine wpAny_truthy_bool ?_
 cases k with
 |false=>exact ite_ff ⟨.bl false,H3,I3,rfl,q3⟩
 |true=>exact ite_tt (chain_last (thn (hc pins s3 σ H3 _ I3 q3) fun w' s4 ⟨z',H4,I4,r4,q4⟩=>ho' pins s4 σ H4 y z' u w' Q I4 r2 r4 q4))
theorem pt_chain {op op':CmpOp} {r r':R2} (ho:OpR X (compareOp op) r) (ho':OpR X (compareOp op') r') (ha:PE X a ta) (hb:PE X b tb) (hc:PE X c tc)
  (hm:lastMarks [op,op'] [b,c]=false:=by with_unfolding_all rfl):PT X (.Compare a [op,op'] [b,c] pos) (tTest (tChain r r' ta tb tc)):=by
 intro pins s σ H Q I h
 refine isTrue_chain (thn (ha pins s σ H _ I h) fun v s1 ⟨x,H1,I1,r1,q1⟩=>test_link (thn (hb pins s1 σ H1 _ I1 q1) fun u s2 ⟨y,H2,I2,r2,q2⟩=>
  thn (ho pins s2 σ H2 x y v u _ I2 r1 r2 q2) fun d s3 ⟨z,H3,I3,r3,k,e,q3⟩=>?_)) hm
 subst e
 cases r3
 refine wpAny_truthy_bool ?_
 cases k with
 |false=>
  obtain⟨k',e',q'⟩:=q3
  cases e'
  exact ite_ff ⟨H3,I3,q'⟩
 |true=>
  refine ite_tt (test_last (thn (hc pins s3 σ H3 _ I3 q3) fun w' s4 ⟨z',H4,I4,r4,q4⟩=>thn (ho' pins s4 σ H4 y z' u w' _ I4 r2 r4 q4) fun d' s5 ⟨z2,H5,I5,r5,k2,e2,q5⟩=>?_))
  subst e2
  cases r5
  exact wpAny_truthy_bool ⟨H5,I5,q5⟩
theorem line63:(sizeLine:Nat)<2 ^ 63:=by rw [sizeLine_eq];decide
theorem op_add_str:OpR X (binaryOp .Add) (fun x y H Q=>∃i j,x= .str i/\y= .str j/\i.length+j.length<=sizeLine/\Q (.str (i++j)) H):=by
 intro pins s σ H x y v u Q I rx ry h
 obtain⟨i,j,rfl,rfl,hz,q⟩:=h
 obtain⟨t,rfl⟩:=rx
 obtain⟨t',rfl⟩:=ry
 exact add_str (fun t' tk=>⟨.str (i++j),H,I.tok _,⟨_,rfl⟩,q⟩) hz
theorem vals1 {x:V} {us:List Value} (r:Vals [x] us):∃u,us=[u]/\RelV x u:=by
 cases r with
 |cons r1 r2=>cases r2;exact⟨_,rfl,r1⟩
theorem vals2 {x y:V} {us:List Value} (r:Vals [x,y] us):∃u w',us=[u,w']/\RelV x u/\RelV y w':=by
 cases r with
 |cons r1 r2=>
  cases r2 with
  |cons r3 r4=>cases r4;exact⟨_,_,rfl,r1,r3⟩
theorem call_max2 (hc:X.calm=true):CallR X (.builtin "max") (fun xs H Q=>∃i j,xs=[.int i,.int j]/\Q (.int (if j>i then j else i)) H):=by
 intro pins s σ H xs us Q I r h
 obtain⟨i,j,rfl,q⟩:=h
 obtain⟨u,w',rfl,⟨t,rfl⟩,⟨t',rfl⟩⟩:=vals2 r
 refine max_two_ints (I.ok.hd hc) fun h' tk k=>⟨_,H,I.kept k,?_,q⟩
 by_cases hj:j>i
 ·rw [if_pos hj,if_pos hj];exact⟨_,rfl⟩
 ·rw [if_neg hj,if_neg hj];exact⟨_,rfl⟩
theorem call_min2 (hc:X.calm=true):CallR X (.builtin "min") (fun xs H Q=>∃i j,xs=[.int i,.int j]/\Q (.int (if j<i then j else i)) H):=by
 intro pins s σ H xs us Q I r h
 obtain⟨i,j,rfl,q⟩:=h
 obtain⟨u,w',rfl,⟨t,rfl⟩,⟨t',rfl⟩⟩:=vals2 r
 refine min_two_ints (I.ok.hd hc) fun h' tk k=>⟨_,H,I.kept k,?_,q⟩
 by_cases hj:j<i
 ·rw [if_pos hj,if_pos hj];exact⟨_,rfl⟩
 ·rw [if_neg hj,if_neg hj];exact⟨_,rfl⟩
theorem call_int1:CallR X (.type "int") (fun xs H Q=>(∃i,xs=[.int i]/\Q (.int i) H)∨∃k,xs=[.bl k]/\Q (.int (if k then 1 else 0)) H):=by
 intro pins s σ H xs us Q I r h
 rcases h with ⟨i,rfl,q⟩|⟨k,rfl,q⟩
 ·obtain⟨u,rfl,t,rfl⟩:=vals1 r
  exact call_int_int ⟨.int i,H,I,⟨_,rfl⟩,q⟩
 ·obtain⟨u,rfl,r1⟩:=vals1 r
  cases r1
  exact call_int_bool ⟨.int (if k then 1 else 0),H,I.tok _,⟨_,rfl⟩,q⟩
theorem call_str_int:CallR X (.type "str") (fun xs H Q=>∃i,xs=[.int i]/\i.natAbs.log2<1920/\Q (.str (toString i)) H):=by
 intro pins s σ H xs us Q I r h
 obtain⟨i,rfl,hz,q⟩:=h
 obtain⟨u,rfl,t,rfl⟩:=vals1 r
 exact PySem.P.str_of_int hz ⟨.str _,H,I.tok _,⟨_,rfl⟩,q⟩
end
end L2
namespace L2
open PySem PySem.Spec PyProof.Rows
structure ObjM (h:Heap) (x dx C:Addr) (mA:Str->Option Value):Prop where
 obj:h.get? x=some (PySem.W.instObj C dx)
 ns:h.Ns1 dx mA
 ne:dx≠x
theorem lookIn_ns {h:Heap} {dx:Addr} {mA:Str->Option Value} (n:h.Ns1 dx mA):∃od,h.get? dx=some od/\∀name,PySem.W.lookIn name od=some (mA name):=by
 obtain⟨o,es,ep,ho,hd,hk,_,hm⟩:=n
 refine⟨o,ho,fun name=>?_⟩
 have e:=hm name
 unfold nsFind findBy at e
 rw [<-Array.find?_toList]at e
 unfold PySem.W.lookIn
 rw [hd]
 dsimp only
 split
 ·rename_i y q
  rw [q]at e
  exact congrArg some e
 ·rename_i q
  rw [q]at e
  have a:es.toList.any (·.refKey)=false:=by
   rw [List.any_eq_false]
   intro y hy
   obtain⟨z,t,hkey⟩:=hk y (Array.mem_toList_iff.mp hy)
   simp [DictEntry.refKey,hkey]
  have a':¬es.toList.any (·.refKey)=true:=by rw [a];exact Bool.false_ne_true
  rw [if_neg a']
  exact congrArg some e
theorem ObjM.look {h:Heap} {x dx C:Addr} {mA:Str->Option Value} (I:ObjM h x dx C mA):∃od,PySem.W.InstAt h x (PySem.W.instObj C dx) C (some od)/\∀name,PySem.W.lookIn name od=some (mA name):=
 let⟨od,ho,hl⟩:=lookIn_ns I.ns
 ⟨od,⟨I.obj,rfl,rfl,ho⟩,hl⟩
section
variable {prog:Program} {w:World} {A:Around} {E:Value->Shared->Prop} {s:Shared} {K:PySem.W.Frag} {x dx C f:Addr} {mA:Str->Option Value} {name:Str} {v:Value}
theorem get_map {expr:Bool} {Q:Value->Shared->Prop} (X:K.In s.heap) (I:ObjM s.heap x dx C mA) (hg:PySem.W.plainGet K C name=true) (hh:PySem.W.hasDictIn K C=true)
  (ha:PySem.W.findIn K (.ref C) name=some none) (hv:mA name=some v) (hv':PySem.W.handedIn v=true) (h:Q v {s with toks:=s.toks+1}):
  wpAny (model prog w) A (getAttr (.ref x) name expr) Q E s:=by
 obtain⟨od,J,hl⟩:=I.look
 exact PySem.W.get_value X J (PySem.W.plainGet_of hg).1 (PySem.W.findObj_own hh ha rfl (by rw [hl,hv])) hv' h
theorem get_meth {pl:Sem Bool} {Q:Value×List Value->Shared->Prop} (X:K.In s.heap) (I:ObjM s.heap x dx C mA) (hg:PySem.W.plainGet K C name=true)
  (hf:PySem.W.findIn K (.ref C) name=some (some (.ref f))) (ht:PySem.W.isFn K (.ref f)=true) (hv:mA name=none) (h:Q (.ref f,[.ref x]) s):
  wpAny (model prog w) A (getMethod (.ref x) name pl) Q E s:=by
 obtain⟨od,J,hl⟩:=I.look
 exact PySem.W.method_fn X J (PySem.W.plainGet_of hg).1 (PySem.W.plainGet_of hg).2 hf (beq_iff_eq.mp ht) (by show(PySem.W.lookIn name od).map (·.isSome)=some false;rw [hl,hv];rfl) h
theorem set_map {ns:List Str} {Q:Unit->Shared->Prop} (X:K.In s.heap) (I:ObjM s.heap x dx C mA)
  (hs:PySem.W.findIn K (.ref C) "__setattr__"=some (some (.builtin "object.__setattr__"))) (hp:PySem.W.plainOver K C=true) (ht:PySem.W.takerIn K C name=some none) (hh:PySem.W.hasDictIn K C=true)
  (hw:PySem.Within mA ns) (hsz:ns.length<=sizeLine)
  (h:∀h',ObjM h' x dx C (fun y=>if y=name then some v else mA y)->Heap.SameBut dx s.heap h'->Q () {s with heap:=h',toks:=s.toks+2}):
  wpAny (model prog w) A (setAttr (.ref x) name v) Q E s:=by
 obtain⟨od,J,hl⟩:=I.look
 refine PySem.W.set_plain X J hs (PySem.W.osa_open (s:={s with toks:=s.toks+1}) (r:=none) X J hp ht fun b=>?_)
 obtain⟨cd,hc,hd'⟩:=PySem.W.any_some hh
 have hx:s.heap.get? x=some ⟨.ref C,some dx,.plain, #[]⟩:=I.obj
 refine wpAny_bind (wpAny_pure (wpAny_bind (wpAny_bind (wpAny_loadPart hx (wpAny_bind (PySem.W.Looks.here (s:={s with toks:=s.toks+1}) (PySem.W.looks_clsIn X hc) ?_))))))
 rw [hd']
 refine wpAny_pure (a:=some dx) (wpAny_bind (wpAny_pure (wpAny_bind ?_)))
 refine wpAny_nsSet1 (s:={s with toks:=s.toks+1}) I.ns fun h' hn2 hs2=>?_
 obtain⟨oD,esD,epD,hoD,hdD,hcD⟩:=hn2.count (PySem.Within.cons name v hw)
 refine wpAny_bind (wpAny_lookBehind hoD (by rw [hdD];exact pastItsLine_dict (Nat.le_trans hcD (by rw [List.length_cons];omega))) ?_)
 exact wpAny_pure (h _ ⟨(hs2.2 _ (Ne.symm I.ne)).trans I.obj,hn2,I.ne⟩ hs2)
theorem make_map {R:Result->Shared->Prop} {vs:List Value} {kw:List (Str×Value)} (X:K.In s.heap) (hm:PySem.W.makesIn K C=true)
  (hi:PySem.W.findIn K (.ref C) "__init__"=some (some (.ref f))) (hf:PySem.W.typeIn K (.ref f)=some (.type "function"))
  (h:codeAny (model prog w) (A.under (.builtin "type.__call__" ⟨.ref C::vs,kw⟩)) (.call (.ref f) ⟨.ref (s.heap.objs.size+1)::vs,kw⟩) (PySem.W.InitBack (s.heap.objs.size+1) R)
   {s with heap:=(s.heap.push PySem.W.emptyDict).push (PySem.W.instObj C s.heap.objs.size)}):
  codeAny (model prog w) A (.call (.ref C) ⟨vs,kw⟩) R s:=by
 obtain⟨hh,g,d,t,os⟩:=s
 exact PySem.W.make_core (PySem.W.makes_of X hm) (PySem.W.looks_findIn X hi) (fun self=>PySem.W.bind_fn X self hf) (.inl rfl) h
end
def putF (f:Str) (v:V):List (Str×V)->List (Str×V)
 | []=>[(f,v)]
 |(g,x)::r=>if g=f then(g,v)::r else(g,x)::putF f v r
theorem lookup_putF (f g:Str) (v:V):∀fs:List (Str×V),(putF f v fs).lookup g=if g=f then some v else fs.lookup g
 | []=>by
  show List.lookup g [(f,v)]=_
  by_cases h:g=f
  ·have hb:(g==f)=true:=beq_iff_eq.mpr h
   simp only [List.lookup,hb,if_pos h]
  ·have hb:(g==f)=false:=beq_eq_false_iff_ne.mpr h
   simp only [List.lookup,hb,if_neg h]
 |(k,x)::r=>by
  have ih:=lookup_putF f g v r
  rw [show putF f v ((k,x)::r)=(if k=f then(k,v)::r else(k,x)::putF f v r)from rfl]
  by_cases hk:k=f
  ·rw [if_pos hk]
   by_cases h:g=k
   ·have hb:(g==k)=true:=beq_iff_eq.mpr h
    simp only [List.lookup,hb,if_pos (h.trans hk)]
   ·have hb:(g==k)=false:=beq_eq_false_iff_ne.mpr h
    simp only [List.lookup,hb,if_neg (fun e:g=f=>h (e.trans hk.symm))]
  ·rw [if_neg hk]
   by_cases h:g=k
   ·have hb:(g==k)=true:=beq_iff_eq.mpr h
    simp only [List.lookup,hb,if_neg (fun e:g=f=>hk (h.symm.trans e))]
   ·have hb:(g==k)=false:=beq_eq_false_iff_ne.mpr h
    simp only [List.lookup,hb]
    exact ih
theorem keys_putF (f:Str) (v:V):∀fs:List (Str×V),f∈(putF f v fs).map (·.1)/\∀g,g∈fs.map (·.1)->g∈(putF f v fs).map (·.1)
 | []=>⟨by simp [putF],fun g h=>by simp at h⟩
 |(k,x)::r=>by
  obtain⟨i1,i2⟩:=keys_putF f v r
  rw [show putF f v ((k,x)::r)=(if k=f then(k,v)::r else(k,x)::putF f v r)from rfl]
  by_cases hk:k=f
  ·rw [if_pos hk]
   subst hk
   exact⟨by simp,fun g h=>by simpa using h⟩
  ·rw [if_neg hk]
   refine⟨?_,fun g h=>?_⟩
   ·rw [List.map_cons]
    exact List.mem_cons_of_mem _ i1
   ·rw [List.map_cons]at h⊢
    rcases List.mem_cons.mp h with e|e
    ·exact List.mem_cons.mpr (.inl e)
    ·exact List.mem_cons_of_mem _ (i2 g e)
theorem length_putF (f:Str) (v:V):∀fs:List (Str×V),(putF f v fs).length<=fs.length+1
 | []=>by simp [putF]
 |(k,x)::r=>by
  have ih:=length_putF f v r
  rw [show putF f v ((k,x)::r)=(if k=f then(k,v)::r else(k,x)::putF f v r)from rfl]
  by_cases hk:k=f
  ·rw [if_pos hk,List.length_cons,List.length_cons];omega
  ·rw [if_neg hk,List.length_cons,List.length_cons];omega
theorem RelO.some_of {v:V} {o:Option Value} (r:RelO (some v) o):∃u,o=some u/\RelV v u:=by
 cases o with
 |none=>exact(show False from r).elim
 |some u=>exact⟨u,rfl,r⟩
theorem RelO.none_of {o:Option Value} (r:RelO none o):o=none:=by
 cases o with
 |none=>rfl
 |some u=>exact(show False from r).elim
theorem handed_of {v:V} {u:Value} (r:RelV v u):PySem.W.handedIn u=true:=by
 cases v with
 |non=>cases (show u=Value.none from r);rfl
 |bl b=>cases (show u=Value.bool b from r);rfl
 |int i=>obtain⟨t,e⟩:=(show∃t,u=Value.int i t from r);cases e;rfl
 |str x=>obtain⟨t,e⟩:=(show∃t,u=Value.str x t from r);cases e;rfl
 |byt b=>obtain⟨t,e⟩:=(show∃t,u=Value.bytes b t from r);cases e;rfl
 |flt b=>obtain⟨t,e⟩:=(show∃t,u=Value.float b t from r);cases e;rfl
 |ref a=>cases (show u=Value.ref a from r);rfl
 |ty n=>cases (show u=Value.type n from r);rfl
section
variable {P:Program} {w:World} {H H':Hp} {h h':Heap} {a C dx:Addr} {fs fs':List (Str×V)}
theorem ins_get (hok:HOk P w H h) (e:H a=some (.ins C dx fs)):∃mA,ObjM h a dx C mA/\(∀f,RelO (fs.lookup f) (mA f))/\PySem.Within mA (fs.map (·.1))/\fs.length<=1000/\H dx=some (.own a):=by
 obtain⟨d,z,ne,ob,mA,n,r,q⟩:=(show ObjOk P w H h a (.ins C dx fs)from hok a _ e)
 exact⟨mA,⟨ob,n,ne⟩,r,q,z,d⟩
end
structure Cls (K:PySem.W.Frag) (C:Addr):Prop where
 pg:PySem.W.plainGet K C Str.empty=true
 hd:PySem.W.hasDictIn K C=true
 po:PySem.W.plainOver K C=true
 sa:PySem.W.findIn K (.ref C) "__setattr__"=some (some (.builtin "object.__setattr__"))
theorem Cls.get {K:PySem.W.Frag} {C:Addr} (c:Cls K C) (f:Str):PySem.W.plainGet K C f=true:=c.pg
def NoAttr (K:PySem.W.Frag) (C:Addr) (f:Str):Prop:=PySem.W.findIn K (.ref C) f=some none
theorem NoAttr.taker {K:PySem.W.Frag} {C:Addr} {f:Str} (n:NoAttr K C f):PySem.W.takerIn K C f=some none:=by
 unfold PySem.W.takerIn
 rw [show PySem.W.findIn K (.ref C) f=some none from n]
 rfl
structure Meth (K:PySem.W.Frag) (C:Addr) (m:Str) (f:Addr):Prop where
 at_:PySem.W.findIn K (.ref C) m=some (some (.ref f))
 fn:PySem.W.isFn K (.ref f)=true
 kp:PySem.W.keepIn K (.ref f)=true
section
variable {X:Cx} {pins:List (Addr×Obj)} {σ:St} {H:Hp} {s:Shared} {a C dx:Addr} {fs:List (Str×V)} {f:Str} {v:V} {A:Around} {E:Value->Shared->Prop}
theorem getattr_ok {b:Bool} {Q:Value->Shared->Prop} (I:Inv X pins σ H s) (e:H a=some (.ins C dx fs)) (c:Cls X.K C) (n:NoAttr X.K C f) (l:fs.lookup f=some v)
  (h:∀u s',Inv X pins σ H s'->RelV v u->Q u s'):wpAny (model X.prog X.w) A (getAttr (.ref a) f b) Q E s:=by
 obtain⟨mA,O,r,_,_,_⟩:=ins_get I.hok e
 obtain⟨u,hu,ru⟩:=RelO.some_of (v:=v) (o:=mA f) (by rw [<-l];exact r f)
 exact get_map I.kIn O (c.get f) c.hd n hu (handed_of ru) (h u _ (I.tok _) ru)
theorem getmeth_ok {m:Str} {g:Addr} {pl:Sem Bool} {Q:Value×List Value->Shared->Prop} (I:Inv X pins σ H s) (e:H a=some (.ins C dx fs)) (c:Cls X.K C) (k:Meth X.K C m g) (l:fs.lookup m=none)
  (h:Q (.ref g,[.ref a]) s):wpAny (model X.prog X.w) A (getMethod (.ref a) m pl) Q E s:=by
 obtain⟨mA,O,r,_,_,_⟩:=ins_get I.hok e
 have hn:mA m=none:=RelO.none_of (by rw [<-l];exact r m)
 exact get_meth I.kIn O (c.get m) k.at_ k.fn hn h
theorem setattr_ok {y:V} {u:Value} {Q:Unit->Shared->Prop} (I:Inv X pins σ H s) (e:H a=some (.ins C dx fs)) (c:Cls X.K C) (n:NoAttr X.K C f) (hl:fs.length<1000) (ry:RelV y u)
  (h:∀s',Inv X pins σ (upd H a (.ins C dx (putF f y fs))) s'->Q () s'):wpAny (model X.prog X.w) A (setAttr (.ref a) f u) Q E s:=by
 obtain⟨mA,O,r,wi,_,ho⟩:=ins_get I.hok e
 have hz:(fs.map (·.1)).length<=sizeLine:=by rw [List.length_map,sizeLine_eq];omega
 refine set_map I.kIn O c.sa c.po n.taker c.hd wi hz fun h' O' sb=>h _ ?_
 have hd:∃o,h'.get? dx=some o:=let⟨o,_,_,e',_⟩:=O'.ns;⟨o,e'⟩
 refine I.write (x:=a) (e:=dx) (by rw [e];exact True.intro) (.inr ho) (fun b q hb z=>(sb.2 b hb).trans z) hd ?_
 refine⟨by rw [upd_ne O.ne];exact ho,?_,O.ne,O'.obj,_,O'.ns,fun g=>?_,fun g hg=>?_⟩
 ·have:=length_putF f y fs;omega
 ·show RelO ((putF f y fs).lookup g) (if g=f then some u else mA g)
  rw [lookup_putF]
  by_cases q:g=f
  ·rw [if_pos q,if_pos q];exact ry
  ·rw [if_neg q,if_neg q];exact r g
 ·by_cases q:g=f
  ·rw [q];exact(keys_putF f y fs).1
  ·refine(keys_putF f y fs).2 g (wi g fun z=>hg ?_)
   show(if g=f then some u else mA g)=none
   rw [if_neg q];exact z
theorem Inv.made (I:Inv X pins σ H s):Inv X pins σ (upd (upd H s.heap.objs.size (.own (s.heap.objs.size+1))) (s.heap.objs.size+1) (.ins C s.heap.objs.size []))
  {s with heap:=(s.heap.push PySem.W.emptyDict).push (PySem.W.instObj C s.heap.objs.size)}:=by
 have e1:(s.heap.push PySem.W.emptyDict).get? s.heap.objs.size=some PySem.W.emptyDict:=Heap.get?_push_size s.heap rfl
 have e2:((s.heap.push PySem.W.emptyDict).push (PySem.W.instObj C s.heap.objs.size)).get? (s.heap.objs.size+1)=some (PySem.W.instObj C s.heap.objs.size):=by
  have:=Heap.get?_push_size (s.heap.push PySem.W.emptyDict) (o:=PySem.W.instObj C s.heap.objs.size) rfl
  rwa [Heap.size_push]at this
 have e3:(s.heap.push PySem.W.emptyDict).Ns s.heap.objs.size (fun _=>none):=⟨PySem.W.emptyDict, #[],_,e1,rfl,(fun e he=>absurd he (by simp)),fun _=>rfl⟩
 have I1:=I.laid (a:=s.heap.objs.size) (o:= .own (s.heap.objs.size+1)) (h':=s.heap.push PySem.W.emptyDict) (t':=s.toks) (fun b u q=>Heap.get?_push_of_some _ q) (Nat.le_refl _) ⟨_,e1⟩
 refine I1.laid (a:=s.heap.objs.size+1) (o:= .ins C s.heap.objs.size []) (t':=s.toks) (fun b u q=>Heap.get?_push_of_some _ q) (Nat.le_of_eq (Heap.size_push _ _)) ?_
 have ne:s.heap.objs.size≠s.heap.objs.size+1:=Nat.ne_of_lt (Nat.lt_succ_self _)
 refine⟨by rw [upd_ne ne,upd_same],Nat.zero_le _,ne,e2,fun _=>none,(Heap.Ns1.of_empty e3).at fun o q=>Heap.get?_push_of_some _ q,fun _=>True.intro,fun y hy=>absurd rfl hy⟩
theorem attr_of {prog:Program} {w:World} {env:Env} {e:Expr} {f:Str} {pos:Pos} {s:Shared} {Q:Value->Shared->Prop} (hb:attributeBase e f env (eval e env)=eval e env)
  (h:wpAny (model prog w) A (eval e env) (fun o s₁=>wpAny (model prog w) A (getAttr o f true) Q E s₁) E s):wpAny (model prog w) A (eval (.Attribute e f pos) env) Q E s:=
 Attribute_any_ h (by rw [arm_eval_Attribute,hb])
end
def tFld (K:PySem.W.Frag) (ta:TE) (f:Str):TE:=fun σ H Q=>ta σ H fun x H1=>∃a C dx fs v,x= .ref a/\H1 a=some (.ins C dx fs)/\Cls K C/\NoAttr K C f/\fs.lookup f=some v/\Q v H1
def sFld (K:PySem.W.Frag) (ta tv:TE) (f:Str):TS:=fun D σ H=>tv σ H fun y H1=>ta σ H1 fun x H2=>∃a C dx fs,x= .ref a/\H2 a=some (.ins C dx fs)/\Cls K C/\NoAttr K C f/\fs.length<1000/\
 D.nx σ (upd H2 a (.ins C dx (putF f y fs)))
section
variable {X:Cx} {o e value:Expr} {f:Str} {pos pos' tpos:Pos} {ta tv:TE}
theorem pe_fld (he:PE X e ta) (hb:attributeBase e f X.env (eval e X.env)=eval e X.env):PE X (.Attribute e f pos) (tFld X.K ta f):=by
 intro pins s σ H Q I h
 refine attr_of hb (thn (he pins s σ H _ I h) fun u s1 ⟨x,H1,I1,rx,a,C,dx,fs,v,ex,ea,c,n,l,q⟩=>?_)
 subst ex
 obtain rfl:u=Value.ref a:=rx
 exact getattr_ok I1 ea c n l fun u' s2 I2 ru=>⟨v,H1,I2,ru,q⟩
theorem ps_fld (ha:PE X o ta) (hv:PE X value tv) (hs:swapsWith value (some (.Attribute o f pos')) pos.line X.env=pure false):PS X (.Assign [.Attribute o f pos'] value pos) (sFld X.K ta tv f):=by
 intro pins s σ H D I h
 refine plainObj_wpAny_Assign_Attribute (thn (hv pins s σ H _ I h) fun u s1 ⟨y,H1,I1,ry,q⟩=>thn (ha pins s1 σ H1 _ I1 q) fun ov s2 ⟨x,H2,I2,rx,a,C,dx,fs,ex,ea,c,n,l,q2⟩=>?_) hs
 subst ex
 obtain rfl:ov=Value.ref a:=rx
 exact setattr_ok I2 ea c n l ry fun s3 I3=>⟨σ,_,I3,q2⟩
end
section
variable {X:Cx} {pins:List (Addr×Obj)} {σ:St} {H:Hp} {s:Shared} {A:Around} {E:Value->Shared->Prop} {Q:Value->Shared->Prop} {c:Value} {b:Bool}
inductive TyOf (K:PySem.W.Frag) (H:Hp):V->Value->Prop where
 |non:TyOf K H .non (.type "NoneType")
 |bl (x:Bool):TyOf K H (.bl x) (.type "bool")
 |int (i:Int):TyOf K H (.int i) (.type "int")
 |str (x:Str):TyOf K H (.str x) (.type "str")
 |flt (x:UInt64):TyOf K H (.flt x) (.type "float")
 |lst {a:Addr} {xs:List V} (e:H a=some (.lst xs)):TyOf K H (.ref a) (.type "list")
 |frz {a:Addr} {o:Obj} {xs:List V} (e:H a=some (.frz o (.lst xs))):TyOf K H (.ref a) (.type "list")
 |tup {a:Addr} {xs:List V} (e:H a=some (.tup xs)):TyOf K H (.ref a) (.type "tuple")
 |dK {a:Addr} {kvs:List (Key×V)} (e:H a=some (.dK kvs)):TyOf K H (.ref a) (.type "dict")
 |dT {a:Addr} {kvs:List (List Key×V)} (e:H a=some (.dT kvs)):TyOf K H (.ref a) (.type "dict")
 |ins {a C dx:Addr} {fs:List (Str×V)} (e:H a=some (.ins C dx fs)) (cl:Cls K C) (ha:PySem.W.findIn K (.ref C) "__class__"=some (some (.builtin "object.__class__")))
   (hn:PySem.W.specialIn K (.builtin "object.__class__") "__get__"=some (some (.builtin "getset_descriptor.__get__"))) (htk:PySem.W.takesIn K (.builtin "object.__class__")=some true)
   (hm:PySem.W.mroIn K C (.type "object")=some true):TyOf K H (.ref a) (.ref C)
theorem isinst_ok {x:V} {u t:Value} (I:Inv X pins σ H s) (rx:RelV x u) (ty:TyOf X.K H x t) (e:PySem.W.kitOne X.K t c=some b) (h:∀tk,Q (.bool b) {s with toks:=tk}):
  wpAny (model X.prog X.w) A (call (.builtin "isinstance") [u,c]) Q E s:=by
 cases ty with
 |non=>cases (show u=Value.none from rx);exact PySem.W.kia_one PySem.W.kitx_none I.kIn True.intro e (fun z=>nomatch z) h
 |bl y=>cases (show u=Value.bool y from rx);exact PySem.W.kia_one PySem.W.kitx_bool I.kIn True.intro e (fun z=>nomatch z) h
 |int i=>obtain⟨t,q⟩:=(show∃t,u=Value.int i t from rx);cases q;exact PySem.W.kia_one PySem.W.kitx_int I.kIn True.intro e (fun z=>nomatch z) h
 |str y=>obtain⟨t,q⟩:=(show∃t,u=Value.str y t from rx);cases q;exact PySem.W.kia_one PySem.W.kitx_str I.kIn True.intro e (fun z=>nomatch z) h
 |flt y=>obtain⟨t,q⟩:=(show∃t,u=Value.float y t from rx);cases q;exact PySem.W.kia_one PySem.W.kitx_float I.kIn True.intro e (fun z=>nomatch z) h
 |@lst a xs ea=>
  cases (show u=Value.ref a from rx)
  obtain⟨_,_,n,_,h1⟩:=(show ObjOk X.prog X.w H s.heap a (.lst xs)from I.hok a _ ea)
  exact PySem.W.kia_one PySem.W.kitx_list I.kIn ⟨_,h1,rfl⟩ e (fun z=>nomatch z) h
 |@frz a ob xs ea=>
  cases (show u=Value.ref a from rx)
  obtain⟨_,_,_,n,_,h1⟩:=(show ObjOk X.prog X.w H s.heap a (.frz ob (.lst xs))from I.hok a _ ea)
  exact PySem.W.kia_one PySem.W.kitx_list I.kIn ⟨_,h1,rfl⟩ e (fun z=>nomatch z) h
 |@tup a xs ea=>
  cases (show u=Value.ref a from rx)
  obtain⟨_,_,_,p⟩:=(show ObjOk X.prog X.w H s.heap a (.tup xs)from I.hok a _ ea)
  obtain⟨o,h1,h2,_⟩:=p
  exact PySem.W.kia_one PySem.W.kitx_tuple I.kIn ⟨o,h1,h2⟩ e (fun z=>nomatch z) h
 |@dK a kvs ea=>
  cases (show u=Value.ref a from rx)
  obtain⟨_,_,vs,_,p⟩:=(show ObjOk X.prog X.w H s.heap a (.dK kvs)from I.hok a _ ea)
  obtain⟨o,es,ep,h1,h2,_⟩:=p
  exact PySem.W.kia_one PySem.W.kitx_dict I.kIn ⟨o,h1,h2.1⟩ e (fun z=>nomatch z) h
 |@dT a kvs ea=>
  cases (show u=Value.ref a from rx)
  obtain⟨_,_,xs,_,o,es,ep,h1,h2,_⟩:=(show ObjOk X.prog X.w H s.heap a (.dT kvs)from I.hok a _ ea)
  exact PySem.W.kia_one PySem.W.kitx_dict I.kIn ⟨o,h1,h2.1⟩ e (fun z=>nomatch z) h
 |@ins a C dx fs ea cl ha hn htk hm=>
  cases (show u=Value.ref a from rx)
  obtain⟨mA,O,_⟩:=ins_get I.hok ea
  obtain⟨od,J,_⟩:=O.look
  exact PySem.W.kia_one (PySem.W.kitx_own (cl.get _) cl.hd ha hn htk hm) I.kIn J e (fun z=>nomatch z) h
end
end L2
namespace L2
open PySem PySem.Spec PyProof.Rows
structure Room (k:Nat) (A:Around):Prop where
 hd:A.handled=none
 dp:A.depth+3*k+5<recursionLimit
 un:A.units+16*k+200<cLine
theorem Room.mono {j k:Nat} {A:Around} (r:Room k A) (h:j<=k):Room j A:=⟨r.hd,by have:=r.dp;omega,by have:=r.un;omega⟩
theorem Room.deeper {k:Nat} {A:Around} (r:Room (k+1) A) (env:Env):Room k (A.deeper env):=
 ⟨r.hd,by have:=r.dp;show A.depth+1+3*k+5<_;omega,by have:=r.un;show A.units+3+16*k+200<_;omega⟩
theorem make_depth {A:Around} {C:Addr} {us:List Value} {kw:List (Str×Value)}:(A.under (.builtin "type.__call__" ⟨.ref C::us,kw⟩)).depth=A.depth+1:=by
 first|rfl|simp [Around.under,Code.weight,Code.isCreation,Code.isGuard,Code.isCaller,Code.frames,Code.isFrame,guardIds]
theorem make_units {A:Around} {C:Addr} {us:List Value} {kw:List (Str×Value)}:(A.under (.builtin "type.__call__" ⟨.ref C::us,kw⟩)).units=A.units+1:=by
 first|rfl|simp [Around.under,Code.cUnits,Code.frames,Code.isFrame]
theorem Room.make {k:Nat} {A:Around} (r:Room (k+1) A) (C:Addr) (us:List Value) (kw:List (Str×Value)):Room k (A.under (.builtin "type.__call__" ⟨.ref C::us,kw⟩)):=
 ⟨r.hd,by have:=r.dp;rw [make_depth];omega,by have:=r.un;rw [make_units];omega⟩
theorem Room.depth {k:Nat} {A:Around} (r:Room k A):A.depth<recursionLimit:=by have:=r.dp;omega
def tNil:TA:=fun _ H Q=>Q [] H
def tCons (ta:TE) (tr:TA):TA:=fun σ H Q=>ta σ H fun x H1=>tr σ H1 fun xs H2=>Q (x::xs) H2
section
variable {X:Cx} {e:Expr} {es:List Expr} {te:TE} {t:TA} {pos:Pos}
theorem pa_nil:PA X [] tNil:=fun _ _ _ _ H Q I h=>Calls.spliced_nil ⟨[],H,I,.nil,h⟩
theorem pa_cons (ha:PE X e te) (hr:PA X es t) (hs:starEach (e::es) X.env=(false,eval e X.env)::starEach es X.env:=by rfl):PA X (e::es) (tCons te t):=by
 intro pos pins s σ H Q I h
 rw [hs]
 show wpAny _ _ (spliced ((false,eval e X.env)::backTo pos (starEach es X.env))) _ _ s
 refine Calls.spliced_cons (thn (ha pins s σ H _ I h) fun u s1 ⟨x,H1,I1,r1,q1⟩=>?_)
 exact thn (hr pos pins s1 σ H1 _ I1 q1) fun us s2 ⟨xs,H2,I2,r2,q2⟩=>⟨x::xs,H2,I2,.cons r1 r2,q2⟩
def tTup (t:TA):TE:=fun σ H Q=>t σ H fun xs H1=>xs.length<=sizeLine/\∀p,H1 p=none->Q (.ref p) (upd H1 p (.tup xs))
def tLst (t:TA):TE:=fun σ H Q=>t σ H fun xs H1=>xs.length<=sizeLine/\∀p,H1 p=none->Q (.ref p) (upd H1 p (.lst xs))
theorem pe_tup {x1} (h:PA X es t):PE X (.Tuple es x1 pos) (tTup t):=by
 intro pins s σ H Q I hq
 refine wpAny_Tuple_spliced (thn (h pos pins s σ H _ I hq) fun us s1 ⟨xs,H1,I1,r,z,q⟩=>⟨by rw [<-r.length];exact z,?_⟩)
 have hf:H1 s1.heap.objs.size=none:=I1.hok.fresh (Nat.le_refl _)
 refine⟨.ref s1.heap.objs.size,upd H1 s1.heap.objs.size (.tup xs),I1.laid (t':=s1.toks) (fun b u e=>Heap.get?_push_of_some _ e) (Nat.le_refl _) ?_,rfl,q _ hf⟩
 exact⟨z,us,r,⟨_,Heap.get?_push_size _ rfl,rfl,_,rfl⟩⟩
theorem pe_lst (h:PA X es t):PE X (.List es pos) (tLst t):=by
 intro pins s σ H Q I hq
 refine wpAny_List_spliced (thn (h pos pins s σ H _ I hq) fun us s1 ⟨xs,H1,I1,r,z,q⟩=>⟨by rw [<-r.length];exact z,?_⟩)
 have hf:H1 s1.heap.objs.size=none:=I1.hok.fresh (Nat.le_refl _)
 refine⟨.ref s1.heap.objs.size,upd H1 s1.heap.objs.size (.lst xs),I1.laid (t':=s1.toks) (fun b u e=>Heap.get?_push_of_some _ e) (Nat.le_refl _) ?_,rfl,q _ hf⟩
 exact⟨z,us,0,r,Heap.get?_push_size _ rfl⟩
end
abbrev Sp:=List V->Hp->VK->XK->Prop
abbrev CXT:=List Env->Hp->Shared->XK->Value->Shared->Prop
structure Env0 (P:Program) (w:World) (K:PySem.W.Frag) (mg:Str->Option Value) (base:Heap) (A:Around) (outer:List Env) (s:Shared) (H:Hp):Prop where
 frames:A.frames=some outer
 mod:Mod K mg base
 bs:∀b o,base.get? b=some o->s.heap.get? b=some o/\H b=none
 bsz:base.objs.size<=s.heap.objs.size
 funs:s.heap.FunFrames base outer
 frf:∀b∈frs outer,H b=none
 hok:HOk P w H s.heap
 bare:AllBare s.gens
def CE (outer:List Env) (P:Program) (w:World) (H:Hp) (s:Shared) (Q:VK) (u:Value) (s':Shared):Prop:=
 ∃v H',s'.os=s.os/\AllBare s'.gens/\Un (frs outer) [] H H' s.heap s'.heap/\HOk P w H' s'.heap/\RelV v u/\Q v H'
def CR (CX:CXT) (outer:List Env) (P:Program) (w:World) (H:Hp) (s:Shared) (Q:VK) (E:XK) (r:Result) (s':Shared):Prop:=
 match r with
 | .ok (.ret u)=>CE outer P w H s Q u s'
 | .ok _=>False
 | .error e=>CX outer H s E e s'
structure FnOk (P:Program) (w:World) (K:PySem.W.Frag) (mg:Str->Option Value) (base:Heap) (CX:CXT) (k:Nat) (f:Addr) (fd:FuncData) (ps:List Str) (sp:Sp):Prop where
 len:∀vs H Q E,sp vs H Q E->vs.length=ps.length
 run:∀(A:Around) (outer:List Env) (s:Shared) (H:Hp) (args:Args) (us:List Value) (vs:List V) (Q:VK) (E:XK),Room k A->Env0 P w K mg base A outer s H->BindsTo s fd args (ps.zip us)->Vals vs us->sp vs H Q E->
  codeAny (model P w) A (.call (.ref f) args) (CR CX outer P w H s Q E) s
theorem FnOk.mono {P:Program} {w:World} {K:PySem.W.Frag} {mg:Str->Option Value} {base:Heap} {CX:CXT} {j k:Nat} {f:Addr} {fd:FuncData} {ps:List Str} {sp:Sp} (F:FnOk P w K mg base CX j f fd ps sp) (h:j<=k):
  FnOk P w K mg base CX k f fd ps sp:=⟨F.len,fun A outer s H args us vs Q E hr=>F.run A outer s H args us vs Q E (hr.mono h)⟩
theorem Env0.make {P:Program} {w:World} {K:PySem.W.Frag} {mg:Str->Option Value} {base:Heap} {A:Around} {outer:List Env} {s:Shared} {H:Hp} (e:Env0 P w K mg base A outer s H) (C:Addr) (us:List Value) (kw:List (Str×Value)):
  Env0 P w K mg base (A.under (.builtin "type.__call__" ⟨.ref C::us,kw⟩)) outer s H:=⟨by first|exact e.frames|(simpa [Around.under,Code.envs,Code.isFrame,pushEnvs]using e.frames),e.mod,e.bs,e.bsz,e.funs,e.frf,e.hok,e.bare⟩
section
variable {X:Cx} {pins:List (Addr×Obj)} {σ:St} {H:Hp} {s s':Shared}
theorem Inv.env0 (I:Inv X pins σ H s):Env0 X.prog X.w X.K X.mg X.base X.A X.stack s H:=
 ⟨I.ok.frames,I.ok.mod,I.bs,Nat.le_trans I.ok.bsz I.sz,I.stack,I.stkFree,I.hok,I.bare⟩
theorem Inv.after {Q:VK} {u:Value} (I:Inv X pins σ H s) (h:CE X.stack X.prog X.w H s Q u s'):EP X pins σ Q u s':=by
 obtain⟨v,H',os,bare,un,hok,r,q⟩:=h
 obtain⟨hh,g,d,t,os'⟩:=s'
 obtain rfl:os'=s.os:=os
 exact⟨v,H',I.call (h':=hh) (g':=g) (d':=d) (t':=t) (ch:=[]) un hok bare (fun b z=>absurd z (by simp)),r,q⟩
end
def tCall (sp:Sp) (dvs:List V) (E:XK) (t:TA):TE:=fun σ H Q=>t σ H fun vs H1=>sp (vs++dvs) H1 Q E
def tMake (C:Addr) (sp:Sp) (dvs:List V) (E:XK) (t:TA):TE:=fun σ H Q=>t σ H fun vs H1=>∀x dx,H1 x=none->H1 dx=none->dx≠x->
 sp (.ref x::(vs++dvs)) (upd (upd H1 dx (.own x)) x (.ins C dx [])) (fun v H2=>v= .non/\Q (.ref x) H2) E
def Binds (K:PySem.W.Frag) (fd:FuncData) (ps:List Str) (ds:List Value):Prop:=
 ∀(s:Shared) (us:List Value),K.In s.heap->(us++ds).length=ps.length->BindsTo s fd ⟨us,[]⟩ (ps.zip (us++ds))
theorem Binds.all {K:PySem.W.Frag} {fd:FuncData} {ps:List Str} (h:∀us:List Value,us.length=ps.length->bindArgs fd ⟨us,[]⟩=pure (ps.zip us)):Binds K fd ps []:=fun s us _ hl=>by
 rw [List.append_nil]at hl⊢
 exact .of_eq (h us hl)
def Passes (CX:CXT) (X:Cx) (E:XK):Prop:=∀(pins:List (Addr×Obj)) (σ:St) (H:Hp) (s:Shared) (e:Value) (s':Shared),Inv X pins σ H s->CX X.stack H s E e s'->X.xe e s'
section
variable {X:Cx} {CX:CXT} {k:Nat} {f C:Addr} {fd:FuncData} {ps:List Str} {sp:Sp} {dvs:List V} {ds:List Value} {E:XK} {x m:Str} {p pos apos:Pos} {e o:Expr} {es:List Expr} {ta:TE} {t:TA}
theorem run_fn {pins:List (Addr×Obj)} {σ:St} {H:Hp} {s:Shared} {Q:VK} {us:List Value} {vs:List V} (F:FnOk X.prog X.w X.K X.mg X.base CX k f fd ps sp) (hr:Room k X.A) (hb:Binds X.K fd ps ds) (hd:Vals dvs ds) (hx:Passes CX X E)
  (I:Inv X pins σ H s) (r:Vals vs us) (h:sp (vs++dvs) H Q E):wpAny (model X.prog X.w) X.A (call (.ref f) us) (EP X pins σ Q) X.xe s:=by
 have r2:Vals (vs++dvs) (us++ds):=r.append hd
 have hl:(us++ds).length=ps.length:=by rw [<-r2.length];exact F.len _ _ _ _ h
 refine wpAny_call (codeAny_mono (F.run X.A X.stack s H ⟨us,[]⟩ (us++ds) (vs++dvs) Q E hr I.env0 (hb s us I.kIn hl) r2 h) fun r s' hq=>?_)
 cases r with
 |error e=>exact hx pins σ H s e s' I hq
 |ok fl=>
  cases fl with
  |ret u=>exact I.after hq
  |next=>exact False.elim hq
  |brk=>exact False.elim hq
  |cont=>exact False.elim hq
theorem pe_call (F:FnOk X.prog X.w X.K X.mg X.base CX k f fd ps sp) (hr:Room k X.A) (hg:Gl X x) (hm:X.mg x=some (.ref f)) (hk:PySem.W.keepIn X.K (.ref f)=true) (hb:Binds X.K fd ps ds) (hd:Vals dvs ds) (hx:Passes CX X E)
  (ha:PA X (e::es) t) (hdb:(x==("__debug__":Str))=false:=by decide) (he:starEach (e::es) X.env=(false,eval e X.env)::starEach es X.env:=by rfl) (hpl:(backTo pos (starEach es X.env)).any (·.1)=false:=by rfl):
  PE X (.Call (.Name x p) (e::es) [] pos) (tCall sp dvs E t):=by
 intro pins s σ H Q I h
 refine wpAny_Call_Name_kw (ld_glob I hg hm ?_ hdb)
 refine PySem.W.callWith_K (h₀:=X.base) I.ok.mod.kin hk (thn (ha pos pins s σ H _ I h) fun us s1 ⟨vs,H1,I1,r,q⟩=>⟨I1.kIn,?_⟩) he hpl
 exact run_fn F hr hb hd hx I1 r q
structure Mk (K:PySem.W.Frag) (C f:Addr):Prop where
 makes:PySem.W.makesIn K C=true
 init:PySem.W.findIn K (.ref C) "__init__"=some (some (.ref f))
 fn:PySem.W.isFn K (.ref f)=true
 kp:PySem.W.keepIn K (.ref C)=true
theorem run_make {pins:List (Addr×Obj)} {σ:St} {H:Hp} {s:Shared} {Q:VK} {us:List Value} {vs:List V} (M:Mk X.K C f) (F:FnOk X.prog X.w X.K X.mg X.base CX k f fd ps sp) (hr:Room (k+1) X.A) (hb:Binds X.K fd ps ds) (hd:Vals dvs ds)
  (hx:Passes CX X E) (I:Inv X pins σ H s) (r:Vals vs us)
  (h:∀x dx,H x=none->H dx=none->dx≠x->sp (.ref x::(vs++dvs)) (upd (upd H dx (.own x)) x (.ins C dx [])) (fun v H2=>v= .non/\Q (.ref x) H2) E):
  wpAny (model X.prog X.w) X.A (call (.ref C) us) (EP X pins σ Q) X.xe s:=by
 have hq:=h (s.heap.objs.size+1) s.heap.objs.size (I.hok.fresh (Nat.le_succ _)) (I.hok.fresh (Nat.le_refl _)) (Nat.ne_of_lt (Nat.lt_succ_self _))
 have I2:=Inv.made (C:=C) I
 have r2:Vals (V.ref (s.heap.objs.size+1)::(vs++dvs)) (Value.ref (s.heap.objs.size+1)::(us++ds)):= .cons rfl (r.append hd)
 have hl:(Value.ref (s.heap.objs.size+1)::us++ds).length=ps.length:=by
  have e:=r2.length
  rw [F.len _ _ _ _ hq]at e
  exact e.symm
 refine wpAny_call (make_map (f:=f) I.kIn M.makes M.init (beq_iff_eq.mp M.fn) (codeAny_mono (F.run _ X.stack _ _ ⟨Value.ref (s.heap.objs.size+1)::us,[]⟩ (Value.ref (s.heap.objs.size+1)::(us++ds)) _ _ E (hr.make C us [])
  (I2.env0.make C us []) (hb _ (Value.ref (s.heap.objs.size+1)::us) I2.kIn hl) r2 hq) fun r s' hq'=>?_))
 cases r with
 |error e=>exact hx pins σ _ _ e s' I2 hq'
 |ok fl=>
  cases fl with
  |ret u=>
   obtain⟨v,H',I3,rv,ev,q3⟩:=I2.after hq'
   subst ev
   exact⟨rv,⟨V.ref (s.heap.objs.size+1),H',I3,rfl,q3⟩⟩
  |next=>exact False.elim hq'
  |brk=>exact False.elim hq'
  |cont=>exact False.elim hq'
theorem pe_make (M:Mk X.K C f) (F:FnOk X.prog X.w X.K X.mg X.base CX k f fd ps sp) (hr:Room (k+1) X.A) (hg:Gl X x) (hm:X.mg x=some (.ref C)) (hb:Binds X.K fd ps ds) (hd:Vals dvs ds) (hx:Passes CX X E)
  (ha:PA X (e::es) t) (hdb:(x==("__debug__":Str))=false:=by decide) (he:starEach (e::es) X.env=(false,eval e X.env)::starEach es X.env:=by rfl) (hpl:(backTo pos (starEach es X.env)).any (·.1)=false:=by rfl):
  PE X (.Call (.Name x p) (e::es) [] pos) (tMake C sp dvs E t):=by
 intro pins s σ H Q I h
 refine wpAny_Call_Name_kw (ld_glob I hg hm ?_ hdb)
 refine PySem.W.callWith_K (h₀:=X.base) I.ok.mod.kin M.kp (thn (ha pos pins s σ H _ I h) fun us s1 ⟨vs,H1,I1,r,q⟩=>⟨I1.kIn,?_⟩) he hpl
 exact run_make M F hr hb hd hx I1 r q
end
def PK (X:Cx) (kws:List Keyword) (t:TA):Prop:=
 ∀(pos:Pos) (pins:List (Addr×Obj)) (s:Shared) (σ:St) (H:Hp) (Q:List V->Hp->Prop),Inv X pins σ H s->t σ H Q->wpAny (model X.prog X.w) X.A (evalAll ((backToKw pos (keywordEach kws X.env)).map (·.2))) (AP X pins σ Q) X.xe s
section
variable {X:Cx} {CX:CXT} {k:Nat} {f C:Addr} {fd:FuncData} {ps ks:List Str} {sp:Sp} {E:XK} {x m:Str} {p pos apos kpos:Pos} {e o:Expr} {es:List Expr} {kws:List Keyword} {te ta:TE} {t tk:TA} {nm:Option Str}
theorem pk_nil:PK X [] tNil:=fun _ _ _ _ H Q I h=>wpAny_evalAll_nil ⟨[],H,I,.nil,h⟩
theorem pk_cons (ha:PE X e te) (hr:PK X kws t):PK X (⟨nm,e,kpos⟩::kws) (tCons te t):=by
 intro pos pins s σ H Q I h
 show wpAny _ _ (evalAll ((do let v<-eval e X.env;standAt pos;pure v)::(backToKw pos (keywordEach kws X.env)).map (·.2))) _ _ s
 refine wpAny_evalAll_cons (wpAny_bind (thn (ha pins s σ H _ I h) fun u s1 ⟨x,H1,I1,r1,q1⟩=>wpAny_bind (wpAny_standAt (wpAny_pure ?_))))
 exact thn (hr pos pins s1 σ H1 _ I1 q1) fun us s2 ⟨xs,H2,I2,r2,q2⟩=>⟨x::xs,H2,I2,.cons r1 r2,q2⟩
variable {g:List Value->List Value->List Value} {gV:List V->List V->List V}
end
structure FnScope (N P:List Str) (sc:Scope):Prop where
 kind:sc.kind= .function
 co:sc.isCoroutine=false
 gen:sc.isGenerator=false
 nd:N.Nodup
 pre:N.take P.length=P
 par:∀x∈P,sc.names.lookup x=some .local∨sc.names.lookup x=some .cell
 nofree:∀y∈sc.names,y.2≠ .free
theorem bindL_out {kindOf:Str->Option NameKind} {x:Str}:∀{binds:List (Str×Value)} {m:Str->Option Value},(∀v,(x,v)∉binds)->bindL kindOf binds m x=m x
 | [],_,_=>rfl
 |(n,v)::r,m,h=>by
  unfold bindL
  rw [bindL_out fun w hw=>h w (List.mem_cons_of_mem _ hw)]
  split
  ·have:x≠n:=by rintro rfl;exact h v List.mem_cons_self
   simp [this]
  ·rfl
theorem bindC_out {kindOf:Str->Option NameKind} {x:Str}:∀{binds:List (Str×Value)} {m:Str->Option Value},(∀v,(x,v)∉binds)->bindC kindOf binds m x=m x
 | [],_,_=>rfl
 |(n,v)::r,m,h=>by
  unfold bindC
  rw [bindC_out fun w hw=>h w (List.mem_cons_of_mem _ hw)]
  split
  ·rfl
  ·have:x≠n:=by rintro rfl;exact h v List.mem_cons_self
   simp [this]
theorem bindL_get {kindOf:Str->Option NameKind} {x:Str} {v:Value}:∀{P:List Str} {vs:List Value} {i:Nat} {m:Str->Option Value},P.Nodup->P[i]? =some x->vs[i]? =some v->kindOf x=some .local->
  bindL kindOf (P.zip vs) m x=some v
 | [],_,_,_,_,h,_,_=>by simp at h
 |_::_,[],_,_,_,_,h,_=>by simp at h
 |p::P,w::vs,0,m,nd,h1,h2,hk=>by
  simp at h1 h2;subst h1;subst h2
  show bindL kindOf ((p,w)::P.zip vs) m p=_
  unfold bindL
  rw [bindL_out fun v hv=>(List.nodup_cons.mp nd).1 (List.of_mem_zip hv).1,if_pos hk]
  simp
 |p::P,w::vs,i+1,m,nd,h1,h2,hk=>by
  show bindL kindOf ((p,w)::P.zip vs) m x=_
  unfold bindL
  exact bindL_get (i:=i) (List.nodup_cons.mp nd).2 (by simpa using h1) (by simpa using h2) hk
theorem bindC_get {kindOf:Str->Option NameKind} {x:Str} {v:Value}:∀{P:List Str} {vs:List Value} {i:Nat} {m:Str->Option Value},P.Nodup->P[i]? =some x->vs[i]? =some v->kindOf x≠some .local->
  bindC kindOf (P.zip vs) m x=some v
 | [],_,_,_,_,h,_,_=>by simp at h
 |_::_,[],_,_,_,_,h,_=>by simp at h
 |p::P,w::vs,0,m,nd,h1,h2,hk=>by
  simp at h1 h2;subst h1;subst h2
  show bindC kindOf ((p,w)::P.zip vs) m p=_
  unfold bindC
  rw [bindC_out fun v hv=>(List.nodup_cons.mp nd).1 (List.of_mem_zip hv).1,if_neg hk]
  simp
 |p::P,w::vs,i+1,m,nd,h1,h2,hk=>by
  show bindC kindOf ((p,w)::P.zip vs) m x=_
  unfold bindC
  exact bindC_get (i:=i) (List.nodup_cons.mp nd).2 (by simpa using h1) (by simpa using h2) hk
def start (N:List Str) (vs:List V):St:=vs.map some++List.replicate (N.length-vs.length) none
def cxOf (CX:CXT) (P:Program) (w:World) (K:PySem.W.Frag) (mg:Str->Option Value) (base:Heap) (N:List Str) (qual:Str) (scope:Scope) (f:Addr) (cd:Value) (A:Around) (outer:List Env) (s:Shared) (H:Hp) (E:XK):Cx where
 prog:=P
 w:=w
 K:=K
 mg:=mg
 base:=base
 A:=A.deeper (envOfC qual scope s.heap.objs.size f cd)
 N:=N
 s₀:=s
 H₀:=H
 env:=envOfC qual scope s.heap.objs.size f cd
 outer:=outer
 stack:=envOfC qual scope s.heap.objs.size f cd::outer
 ex:=[]
 calm:=true
 fn:=fun _=>true
 pn:=[]
 xe:=fun e s'=>wpAny (model P w) (A.deeper (envOfC qual scope s.heap.objs.size f cd)) (leaving (envOfC qual scope s.heap.objs.size f cd) e) (fun _ s''=>CX outer H s E e s'') (fun e' s''=>CX outer H s E e' s'') s'
theorem cell_has {sc:Scope} {n:Nat} {x:Str} (h:sc.names.lookup x=some .cell):∃c,(cellsFrom n sc.names []).lookup x=some c:=by
 have q:=PySem.W.cellsFrom_some sc.names n [] (.inl h)
 exact Option.isSome_iff_exists.mp q
theorem inv_start {CX:CXT} {P:Program} {w:World} {K:PySem.W.Frag} {mg:Str->Option Value} {base:Heap} {N ps:List Str} {qual:Str} {scope:Scope} {f:Addr} {cd:Value} {A:Around} {outer:List Env} {s s1:Shared} {H:Hp} {E:XK} {us:List Value} {vs:List V}
  (S:FnScope N ps scope) (hd:A.handled=none) (e0:Env0 P w K mg base A outer s H) (hl:vs.length=ps.length) (r:Vals vs us)
  (x:InCallC s s.heap.objs.size (bindL (envOfC qual scope s.heap.objs.size f cd).kindOf (ps.zip us) fun _=>none) (cellsFrom (s.heap.objs.size+1) scope.names []) (bindC (envOfC qual scope s.heap.objs.size f cd).kindOf (ps.zip us) fun _=>none) s1):
  Inv (cxOf CX P w K mg base N qual scope f cd A outer s H E) [] (start N vs) H s1:=by
 have hpl:ps.length<=N.length:=by have:=congrArg List.length S.pre;rw [List.length_take]at this;omega
 obtain⟨h1,tk,rfl,hk⟩:=x.done
 have noA:∀b:Addr,b∉(cxOf CX P w K mg base N qual scope f cd A outer s H E).ex:=fun b z=>absurd (show b∈([]:List Addr)from z) (by simp)
 refine⟨⟨e0.mod,S.kind,rfl,rfl,Nat.le_refl _,fun y z c h1 h2=>?_,fun y hy=>?_,fun y c _ h=>?_,fun _=>hd,Around.frames_deeper e0.frames,.inr ⟨rfl,rfl⟩,fun b z=>absurd z (noA b),e0.bs,e0.bsz,fun b _ _=>noA b,fun b z=>absurd z (noA b),e0.funs,e0.frf⟩,
  rfl,e0.bare,Un.kept hk,⟨_,x.toInCall.ns,fun i y v h1 h2 h3=>?_⟩,fun y c h=>⟨_,x.cell y c h⟩,e0.hok.fresh (Nat.le_refl _),fun y c h=>?_,fun p hp=>absurd (show p∈([]:List (Addr×Obj))from hp) (by simp),e0.hok.kept hk,?_⟩
 ·exact name_of_addr x.apart (PySem.mem_of_lookup h1) (PySem.mem_of_lookup h2)
 ·have hy:scope.names.lookup y=some .cell∨scope.names.lookup y=some .free:=hy
  rcases hy with hy|hy
  ·exact cell_has hy
  ·exact absurd rfl (S.nofree _ (PySem.mem_of_lookup hy))
 ·exact Nat.le_of_lt (x.above y c (PySem.mem_of_lookup h))
 ·have hi:i<vs.length:=by
   unfold start at h2
   by_cases hi:i<vs.length
   ·exact hi
   ·rw [List.getElem?_append_right (by simpa using hi)]at h2
    rw [List.getElem?_replicate]at h2
    split at h2<;>cases h2
  have ha:vs[i]? =some v:=by
   unfold start at h2
   rw [List.getElem?_append_left (by simpa using hi),List.getElem?_map]at h2
   cases e:vs[i]? with
   |none=>rw [e]at h2;cases h2
   |some a=>rw [e]at h2;cases h2;rfl
  obtain⟨u,hu,rv⟩:=r.get ha
  have hp:ps[i]? =some y:=by
   rw [<-S.pre,List.getElem?_take_of_lt (by omega)];exact h1
  have ndP:ps.Nodup:=by rw [<-S.pre];exact S.nd.sublist (List.take_sublist _ _)
  refine⟨u,rv,?_⟩
  rcases S.par y (List.mem_of_getElem? hp)with k|k
  ·exact .inl ⟨k,bindL_get ndP hp hu k⟩
  ·obtain⟨c,e⟩:=cell_has (n:=s.heap.objs.size+1) k
   refine .inr ⟨.inl k,c,e,?_⟩
   have q:=x.cell y c e
   rw [bindC_get ndP hp hu (by show scope.names.lookup y≠_;rw [k];decide)]at q
   exact q
 ·exact e0.hok.fresh (Nat.le_of_lt (x.above y c (PySem.mem_of_lookup h)))
 ·unfold start
  show _=N.length
  rw [List.length_append,List.length_map,List.length_replicate]
  omega
theorem fn_of {CX:CXT} {P:Program} {w:World} {K:PySem.W.Frag} {mg:Str->Option Value} {base:Heap} {k:Nat} {f:Addr} {name qual:Str} {params:Arguments} {body:List Stmt} {scope:Scope} {dV kV doc pm cdv ct oc:Value} {an od:Option Addr}
  {osl:Array (Option Value)} {N ps:List Str} {sp:Sp} (lk:K.lookup f=some ⟨oc,od,.func (PySem.W.fnOf name qual params body scope dV kV doc pm an cdv ct),osl⟩) (hcd:PySem.W.codeIn K cdv qual=true) (S:FnScope N ps scope)
  (len:∀vs H Q E,sp vs H Q E->vs.length=ps.length)
  (hbody:∀(A:Around) (outer:List Env) (s:Shared) (H:Hp) (vs:List V) (Q:VK) (E:XK),Room k (A.deeper (envOfC qual scope s.heap.objs.size f cdv))->sp vs H Q E->
   ∃t,PSs (cxOf CX P w K mg base N qual scope f cdv A outer s H E) body t/\t {nx:=fun _ H'=>Q .non H',rt:=Q} (start N vs) H):
  FnOk P w K mg base CX (k+1) f (PySem.W.fnOf name qual params body scope dV kV doc pm an cdv ct) ps sp:=by
 refine⟨len,fun A outer s H args us vs Q E hr e0 hb r hsp=>?_⟩
 have hl:=len _ _ _ _ hsp
 have KX:K.In s.heap:=e0.mod.kin.keeps fun b o e=>(e0.bs b o e).1
 have lim:s.heap.NoLimit:=e0.mod.nolimit.keeps fun b o e=>(e0.bs b o e).1
 have hkind:∀y∈ps.zip us,scope.names.lookup y.1=some .local∨(scope.names.lookup y.1=some .cell/\((cellsFrom (s.heap.objs.size+1) scope.names []).lookup y.1).isSome=true):=fun⟨n,v⟩ hy=>by
  rcases S.par n (List.of_mem_zip hy).1 with q|q
  ·exact .inl q
  ·exact .inr ⟨q,PySem.W.cellsFrom_some _ _ _ (.inl q)⟩
 refine codeAny_call_function hr.depth (KX _ _ lk) rfl S.co S.gen rfl (PySem.W.codeRec_of KX hcd) (hb _ _ _ _ ?_)
 refine wpAny_newFunctionEnv_cells S.kind hkind fun env he s1 x=>?_
 subst he
 refine⟨lim.keeps x.toInCall.keep,codeAny_func ?_⟩
 obtain⟨t,ht,hq⟩:=hbody A outer s H vs Q E (hr.deeper _) hsp
 have I:Inv (cxOf CX P w K mg base N qual scope f cdv A outer s H E) [] (start N vs) H s1:=inv_start S hr.hd e0 hl r x
 refine wpAny_mono (ht [] s1 (start N vs) H _ I hq) (fun fl s' hs=>?_) fun e s' hs=>hs
 have fin:∀{σ':St} {H':Hp} {v:V} {u:Value},Inv (cxOf CX P w K mg base N qual scope f cdv A outer s H E) [] σ' H' s'->RelV v u->Q v H'->CE outer P w H s Q u s':=
  fun{σ' H' v u} J rv q=>⟨v,H',J.os,J.bare,J.base,J.hok,rv,q⟩
 cases fl with
 |ret u=>
  obtain⟨v,σ',H',J,rv,q⟩:=hs
  exact fin J rv q
 |next=>
  obtain⟨σ',H',J,q⟩:=hs
  exact fin (v:=V.non) (u:=Value.none) J rfl q
 |brk=>
  obtain⟨_,_,_,q⟩:=hs
  exact False.elim q
 |cont=>
  obtain⟨_,_,_,q⟩:=hs
  exact False.elim q
end L2
namespace L2
open PySem PySem.Spec PyProof.Rows
section
variable {X:Cx} {x:Str} {p pos:Pos} {e:Expr} {es:List Expr} {t:TA} {id T:String} {r:List V->Hp->VK->Prop}
def tCB (r:List V->Hp->VK->Prop) (t:TA):TE:=fun σ H Q=>t σ H fun vs H1=>r vs H1 Q
theorem pe_callB (hc:CallR X (.builtin id) r) (hg:Gl X x) (hm:X.mg x=none) (hv:bootBuiltins x=some (.builtin id)) (ha:PA X (e::es) t) (hn:x≠"__name__":=by decide) (hdb:(x==("__debug__":Str))=false:=by decide)
  (he:starEach (e::es) X.env=(false,eval e X.env)::starEach es X.env:=by rfl) (hpl:(backTo pos (starEach es X.env)).any (·.1)=false:=by rfl):PE X (.Call (.Name x p) (e::es) [] pos) (tCB r t):=by
 intro pins s σ H Q I h
 refine wpAny_Call_Name_kw (ld_blt I hg hm hv ?_ hn hdb)
 exact PyProof.Rows.callWith_builtin1 (thn (ha pos pins s σ H _ I h) fun us s1 ⟨vs,H1,I1,r1,q1⟩=>hc pins s1 σ H1 vs us Q I1 r1 q1) he hpl
theorem pe_callTy (hc:CallR X (.type T) r) (hg:Gl X x) (hm:X.mg x=none) (hv:bootBuiltins x=some (.type T)) (ha:PA X (e::es) t) (hn:x≠"__name__":=by decide) (hdb:(x==("__debug__":Str))=false:=by decide)
  (he:starEach (e::es) X.env=(false,eval e X.env)::starEach es X.env:=by rfl) (hpl:(backTo pos (starEach es X.env)).any (·.1)=false:=by rfl):PE X (.Call (.Name x p) (e::es) [] pos) (tCB r t):=by
 intro pins s σ H Q I h
 refine wpAny_Call_Name_kw (ld_blt I hg hm hv ?_ hn hdb)
 exact PyProof.Rows.callWith_type1 (thn (ha pos pins s σ H _ I h) fun us s1 ⟨vs,H1,I1,r1,q1⟩=>hc pins s1 σ H1 vs us Q I1 r1 q1) he hpl
end
end L2
namespace HT
open PySem PyProof.Rows
section
open PySem.SeqAt
open PySem.AutoSeq1 (wpAny_loadPart')
open PySem.MeetsSeq PySem.MeetsSeq2 PySem.MeetsSeq3
end
section
variable {prog:Program} {w:World} {A:Around} {E:Value->Shared->Prop} {s:Shared}
theorem cat_tup {t b:Addr} {vs ws:List Value} {Q:Value->Shared->Prop} (ht:IsTup s.heap t vs.toArray) (hb:IsTup s.heap b ws.toArray) (hv:vs≠[])
  (h1:ws=[]->Q (.ref t) s) (h2:ws≠[]->Q (.ref s.heap.objs.size) {s with heap:=s.heap.push {cls:= .type "tuple",data:= .seq (vs++ws).toArray}})
  (hsz:vs.length+ws.length<=sizeLine):wpAny (model prog w) A (binaryOp .Add (.ref t) (.ref b)) Q E s:=by
 obtain⟨⟨cls,dd,data,sl⟩,ho,hc,n,hd⟩:=id ht
 obtain⟨⟨cls2,dd2,data2,sl2⟩,ho2,hc2,n2,hd2⟩:=id hb
 simp only at hc hd hc2 hd2
 subst hc hd hc2 hd2
 have e:vs.toArray++ws.toArray=(vs++ws).toArray:=by simp
 by_cases hw:ws=[]
 ·exact concat_meets ⟨_,ho,rfl⟩ ⟨_,ho2,rfl⟩ noFill_tuple_add seq_tuple_add PySem.F.slot_tuple_add PySem.F.entry_tuple_add (PySem.F.args_tuple_add_2 _ _)
   (tuple_addW1 t b vs.toArray ws.toArray n n2 dd dd2 sl sl2 (by simpa using hv) (by simp [hw])) ⟨ho,ho2,h1 hw⟩
 ·refine concat_meets ⟨_,ho,rfl⟩ ⟨_,ho2,rfl⟩ noFill_tuple_add seq_tuple_add PySem.F.slot_tuple_add PySem.F.entry_tuple_add (PySem.F.args_tuple_add_2 _ _)
   (tuple_addW2 t b vs.toArray ws.toArray n n2 dd dd2 sl sl2 (by simpa using hv) (by simpa using hw) (by rw [List.size_toArray,List.size_toArray];exact hsz)) ⟨ho,ho2,?_⟩
  rw [e]
  exact h2 hw
end
end HT
namespace L2
open PySem PySem.Spec PyProof.Rows
abbrev TO:=St->Hp->(Option Int->Hp->Prop)->Prop
def PO (X:Cx) (e:Option Expr) (t:TO):Prop:=
 ∀(pins:List (Addr×Obj)) (s:Shared) (σ:St) (H:Hp) (Q:Option Int->Hp->Prop),Inv X pins σ H s->t σ H Q->
  wpAny (model X.prog X.w) X.A (evalPart e X.env) (fun u s'=>∃o H',Inv X pins σ H' s'/\IsPart u o/\Q o H') X.xe s
def tPart (t:TE):TO:=fun σ H Q=>t σ H fun x H1=>∃i,x= .int i/\Q (some i) H1
theorem intsAre_of {ns:List Int}:∀{us:List Value},Vals (ns.map V.int) us->IntsAre us ns:=by
 induction ns with
 |nil=>intro us r;rw [List.map_nil]at r;cases r;exact .nil
 |cons n ns ih=>
  intro us r
  rw [List.map_cons]at r
  cases r with
  |cons r1 r2=>
   obtain⟨t,e⟩:=r1
   subst e
   exact .cons n t (ih r2)
section
variable {X:Cx} {e:Expr} {te:TE} {lo hi:Option Expr} {tl th:TO} {pos p2:Pos}
theorem po_some (h:PE X e te):PO X (some e) (tPart te):=by
 intro pins s σ H Q I hw
 rw [evalPart_some]
 refine thn (h pins s σ H _ I hw) fun u s1 ⟨x,H1,I1,r1,q1⟩=>?_
 obtain⟨i,rfl,q⟩:=q1
 obtain⟨t,rfl⟩:=r1
 exact⟨some i,H1,I1,.int i t,q⟩
def SlR (X:Cx) (r:V->Option Int->Option Int->Hp->VK->Prop):Prop:=
 ∀(pins:List (Addr×Obj)) (s:Shared) (σ:St) (H:Hp) (x:V) (v vl vu:Value) (lo hi:Option Int) (sl:Addr) (Q:VK),Inv X pins σ H s->RelV x v->s.heap.IsSliceOf sl vl vu .none->IsPart vl lo->IsPart vu hi->r x lo hi H Q->
  ∃T id,typeLookup (.type T) "__getitem__"=pure (some (.builtin id))/\s.TypeIs v T/\wpAny (model X.prog X.w) X.A (getItem v (.ref sl)) (EP X pins σ Q) X.xe s
def tSl (r:V->Option Int->Option Int->Hp->VK->Prop) (te:TE) (tl th:TO):TE:=fun σ H Q=>te σ H fun x H1=>tl σ H1 fun l H2=>th σ H2 fun u H3=>r x l u H3 Q
theorem pe_slice {r:V->Option Int->Option Int->Hp->VK->Prop} (hr:SlR X r) (he:PE X e te) (hl:PO X lo tl) (hu:PO X hi th):PE X (.Subscript e (.Slice lo hi none p2) pos) (tSl r te tl th):=by
 intro pins s σ H Q I h
 refine Subscript_ (thn (he pins s σ H _ I h) fun v s1 ⟨x,H1,I1,r1,q1⟩=>?_)
 refine wpAny_Slice (thn (hl pins s1 σ H1 _ I1 q1) fun vl s2 ⟨l,H2,I2,pl,q2⟩=>thn (hu pins s2 σ H2 _ I2 q2) fun vu s3 ⟨u,H3,I3,pu,q3⟩=>?_)
 rw [evalPart_none]
 refine wpAny_pure ?_
 have I4:Inv X pins σ H3 {s3 with heap:=s3.heap.push {cls:= .type "slice",data:= .fields #[vl,vu,.none]}}:=I3.kept (t':=s3.toks) fun b ob q=>Heap.get?_push_of_some _ q
 obtain⟨T,id,hT,ht,hg⟩:=hr pins {s3 with heap:=s3.heap.push {cls:= .type "slice",data:= .fields #[vl,vu,.none]}} σ H3 x v vl vu l u s3.heap.objs.size Q I4 r1 (Heap.IsSliceOf.new ..) pl pu q3
 show wpAny (model X.prog X.w) X.A (subscriptTail e (.Slice lo hi none p2) v (.ref s3.heap.objs.size)) (EP X pins σ Q) X.xe {s3 with heap:=s3.heap.push {cls:= .type "slice",data:= .fields #[vl,vu,.none]}}
 exact tail_any (ops:=[.ref s3.heap.objs.size,v]) ht hT hg (by with_unfolding_all rfl)
def rCatT (K:PySem.W.Frag):R2:=fun x y H Q=>∃a b xs ys,x= .ref a/\y= .ref b/\SqT K H a xs/\SqT K H b ys/\xs≠[]/\xs.length+ys.length<=sizeLine/\
 (ys=[]->Q (.ref a) H)/\(ys≠[]->∀p,H p=none->Q (.ref p) (upd H p (.tup (xs++ys))))
theorem Vals.nil_iff {xs:List V} {us:List Value} (r:Vals xs us):us=[]↔xs=[]:=by
 cases r with
 |nil=>simp
 |cons _ _=>simp
theorem op_catT:OpR X (binaryOp .Add) (rCatT X.K):=by
 intro pins s σ H x y v u Q I rx ry h
 obtain⟨a,b,xs,ys,rfl,rfl,ha,hb,hx,hz,q1,q2⟩:=h
 cases rx
 cases ry
 obtain⟨its,r1,p1,_⟩:=I.tuple ha
 obtain⟨its2,r2,p2,_⟩:=I.tuple hb
 refine HT.cat_tup p1 p2 (fun z=>hx (r1.nil_iff.mp z)) (fun z=>⟨.ref a,H,I,rfl,q1 (r2.nil_iff.mp z)⟩) (fun z=>?_) (by rw [<-r1.length, <-r2.length];exact hz)
 refine⟨.ref s.heap.objs.size,_,I.laid (t':=s.toks) (o:= .tup (xs++ys)) (fun b ob q=>Heap.get?_push_of_some _ q) (Nat.le_refl _) ?_,rfl,q2 (fun w=>z (r2.nil_iff.mpr w)) _ (I.hok.fresh (Nat.le_refl _))⟩
 exact⟨by rw [List.length_append];exact hz,_,r1.append r2,IsTup.new _ _⟩
end
end L2
namespace L2
open PySem PySem.Spec PyProof.Rows
def ixN (n:Nat) (i:Int):Option Nat:=if 0<=i then(if i<n then some i.toNat else none)else if-(n:Int)<=i then some (i+n).toNat else none
def atI {α:Type} (xs:List α) (i:Int):Option α:=(ixN xs.length i).bind fun j=>xs[j]?
theorem ixN_seq {n:Nat} {i:Int} {j:Nat} (h:ixN n i=some j):seqIndex? i n=some j/\j<n/\ -(n:Int)<=i/\i<n:=by
 unfold ixN at h
 by_cases h0:0<=i
 ·rw [if_pos h0]at h
  by_cases h1:i<n
  ·rw [if_pos h1]at h
   have e:i.toNat=j:=Option.some.inj h
   exact⟨by rw [seqIndex_of h0 h1,e],by omega,by omega,h1⟩
  ·rw [if_neg h1]at h;cases h
 ·rw [if_neg h0]at h
  by_cases h1: -(n:Int)<=i
  ·rw [if_pos h1]at h
   have e:(i+n).toNat=j:=Option.some.inj h
   exact⟨by rw [seqIndex_neg (by omega) h1,e],by omega,h1,by omega⟩
  ·rw [if_neg h1]at h;cases h
theorem atI_get {α:Type} {xs:List α} {i:Int} {v:α} (h:atI xs i=some v):∃j,seqIndex? i xs.length=some j/\xs[j]? =some v/\j<xs.length/\ -(xs.length:Int)<=i/\i<xs.length:=by
 unfold atI at h
 cases e:ixN xs.length i with
 |none=>rw [e]at h;cases h
 |some j=>
  rw [e]at h
  obtain⟨h1,h2,h3,h4⟩:=ixN_seq e
  exact⟨j,h1,h,h2,h3,h4⟩
theorem atI_nat {α:Type} {xs:List α} {j:Nat} {v:α} (h:xs[j]? =some v):atI xs (j:Int)=some v:=by
 have hj:j<xs.length:=(List.getElem?_eq_some_iff.mp h).1
 have e:ixN xs.length (j:Int)=some j:=by
  unfold ixN
  rw [if_pos (by omega),if_pos (by omega)];simp
 unfold atI;rw [e];exact h
def PlainIx (b:Expr):Prop:=∀o i,subscripted b false o i=operate [o,i] (getItem o i)
def IxR (X:Cx) (r:R2):Prop:=
 ∀(value slice:Expr) (pins:List (Addr×Obj)) (s:Shared) (σ:St) (H:Hp) (x y:V) (v u:Value) (Q:VK),Inv X pins σ H s->RelV x v->RelV y u->r x y H Q->
  subscripted slice false v u=operate [v,u] (getItem v u)->wpAny (model X.prog X.w) X.A (subscriptTail value slice v u) (EP X pins σ Q) X.xe s
def MtR (X:Cx) (id:String) (r:V->List V->Hp->VK->Prop):Prop:=
 ∀(pins:List (Addr×Obj)) (s:Shared) (σ:St) (H:Hp) (x:V) (xs:List V) (v:Value) (us:List Value) (Q:VK),Inv X pins σ H s->RelV x v->Vals xs us->r x xs H Q->
  wpAny (model X.prog X.w) X.A (call (.builtin id) (v::us)) (EP X pins σ Q) X.xe s
section
variable {X:Cx} {a b:Expr} {ta tb:TE} {pos:Pos}
theorem pe_ix {r:R2} (hr:IxR X r) (ha:PE X a ta) (hb:PE X b tb) (hs:PlainIx b):PE X (.Subscript a b pos) (tOp r ta tb):=by
 intro pins s σ H Q I h
 exact Subscript_ (binT ha hb I h fun v u s2 x y H2 I2 rx ry q=>hr a b pins s2 σ H2 x y v u Q I2 rx ry q (hs _ _))
def rIxL (K:PySem.W.Frag):R2:=fun x y H Q=>∃p xs i v,x= .ref p/\y= .int i/\SqL K H p xs/\atI xs i=some v/\Q v H
def rIxT (K:PySem.W.Frag):R2:=fun x y H Q=>∃p xs i v,x= .ref p/\y= .int i/\SqT K H p xs/\atI xs i=some v/\Q v H
theorem ix_list:IxR X (rIxL X.K):=by
 intro value slice pins s σ H x y v u Q I rx ry h hs
 obtain⟨p,xs,i,z,rfl,rfl,hq,he,q⟩:=h
 cases rx
 obtain⟨t,rfl⟩:=ry
 obtain⟨its,r,pl,hz⟩:=I.list hq
 obtain⟨j,h1,h2,h3,h4,h5⟩:=atI_get he
 obtain⟨w,ew,rw'⟩:=r.get h2
 have hl:=r.length
 have hn:=line63
 have fin:EP X pins σ Q w s:=⟨z,H,I,rw',q⟩
 by_cases h0:0<=i
 ·have hj:i.toNat=j:=by
   rw [seqIndex_of h0 h5]at h1
   exact Option.some.inj h1
  exact item_listR pl.isList h0 (by omega) (by rw [hj];simpa using ew) fin hs
 ·have hj:(i+(its.toArray.size:Int)).toNat=j:=by
   rw [seqIndex_neg (by omega) h4]at h1
   rw [List.size_toArray, <-hl]
   exact Option.some.inj h1
  exact subscriptTail_builtinR (x:=w) pl.isList.typeIs slot_list_getitem.lookup
   (wpAny_getItem_list_neg (Q:=fun r s'=>r=w/\EP X pins σ Q r s') pl.isList (by omega) (by rw [List.size_toArray]<;>omega) (by omega) (by rw [hj];simpa using ew) ⟨rfl,fin⟩) hs
theorem ix_tup:IxR X (rIxT X.K):=by
 intro value slice pins s σ H x y v u Q I rx ry h hs
 obtain⟨p,xs,i,z,rfl,rfl,hq,he,q⟩:=h
 cases rx
 obtain⟨t,rfl⟩:=ry
 obtain⟨its,r,pl,hz⟩:=I.tuple hq
 obtain⟨j,h1,h2,h3,h4,h5⟩:=atI_get he
 obtain⟨w,ew,rw'⟩:=r.get h2
 have hl:=r.length
 have hn:=line63
 have fin:EP X pins σ Q w s:=⟨z,H,I,rw',q⟩
 exact subscriptTail_builtinR (x:=w) pl.typeIs slot_tuple_getitem.lookup
  (getItem_tuple (j:=j) (Q:=fun r s'=>r=w/\EP X pins σ Q r s') pl (by omega) (by omega) (by rw [List.size_toArray, <-hl];exact h1) (by simpa using ew) ⟨rfl,fin⟩) hs
theorem mapSeq_set (its:List Value) (n j:Nat) (u:Value):Obj.mapSeq (·.setIfInBounds j u) {cls:= .type "list",data:= .seq its.toArray n}={cls:= .type "list",data:= .seq (its.set j u).toArray n}:=by
 simp [Obj.mapSeq]
theorem Inv.lst {pins:List (Addr×Obj)} {σ:St} {H:Hp} {s:Shared} {p:Addr} {xs:List V} (I:Inv X pins σ H s) (h:H p=some (.lst xs)):
  ∃(its:List Value) (n:Nat),Vals xs its/\s.heap.get? p=some {cls:= .type "list",data:= .seq its.toArray n}/\xs.length<=sizeLine:=by
 obtain⟨z,its,n,r,e⟩:=I.hok p _ h
 exact⟨its,n,r,e,z⟩
theorem Inv.lstUpd {pins:List (Addr×Obj)} {σ:St} {H:Hp} {s:Shared} {p:Addr} {xs ys:List V} {its its':List Value} {n n':Nat} {f:Obj->Obj} (I:Inv X pins σ H s) (h:H p=some (.lst xs))
  (ho:s.heap.get? p=some {cls:= .type "list",data:= .seq its.toArray n}) (hf:f {cls:= .type "list",data:= .seq its.toArray n}={cls:= .type "list",data:= .seq its'.toArray n'}) (r:Vals ys its') (hz:ys.length<=sizeLine) (t:Nat):
  Inv X pins σ (upd H p (.lst ys)) {s with heap:=s.heap.update p f,toks:=t}:=by
 have e:(s.heap.update p f).get? p=some {cls:= .type "list",data:= .seq its'.toArray n'}:=by
  rw [Heap.get?_update_self f ho (by rw [hf]<;>rfl),hf]
 refine I.write (x:=p) (e:=p) (by rw [h];trivial) (.inl rfl) (fun b u hb q=>(Heap.get?_update_other _ _ (Ne.symm hb)).trans q) ⟨_,e⟩ ?_
 exact⟨hz,its',n',r,e⟩
def rSetL:V->V->V->Hp->(Hp->Prop)->Prop:=fun o i v H Q=>∃p xs k j,o= .ref p/\i= .int k/\H p=some (.lst xs)/\ixN xs.length k=some j/\Q (upd H p (.lst (xs.set j v)))
theorem set_list:PSet X rSetL:=by
 intro pins s σ H o i v ov iv u Q I ro ri rv h
 obtain⟨p,xs,k,j,rfl,rfl,hp,hj,q⟩:=h
 cases ro
 obtain⟨t,rfl⟩:=ri
 obtain⟨its,n,r,ho,hz⟩:=I.lst hp
 obtain⟨h1,h2,h3,h4⟩:=ixN_seq hj
 have hl:=r.length
 have hn:=line63
 have I':Inv X pins σ (upd H p (.lst (xs.set j v))) {s with heap:=s.heap.update p (Obj.mapSeq (·.setIfInBounds j u))}:=
  I.lstUpd hp ho (mapSeq_set its n j u) (r.set rv j) (by rw [List.length_set];exact hz) s.toks
 by_cases h0:0<=k
 ·have hk:k.toNat=j:=by
   rw [seqIndex_of h0 h4]at h1
   exact Option.some.inj h1
  exact PySem.W.ki_setAt ho h0 (by omega) (by rw [List.size_toArray, <-hl];exact h4) (by rw [hk];exact⟨_,I',q⟩)
 ·have hk:(k+(its.toArray.size:Int)).toNat=j:=by
   rw [seqIndex_neg (by omega) h3]at h1
   rw [List.size_toArray, <-hl]
   exact Option.some.inj h1
  exact PySem.W.ki_setBack ho (by omega) (by rw [List.size_toArray, <-hl];exact h3) (by omega) (by rw [hk];exact⟨_,I',q⟩)
def flatV:V->Bool
 | .non=>true
 | .bl _=>true
 | .int _=>true
 | .str _=>true
 |_=>false
def eqV:V->V->Bool
 | .non,.non=>true
 | .bl a,.bl b=>a==b
 | .bl a,.int b=>(if a then 1 else 0)==b
 | .int a,.bl b=>a==(if b then 1 else 0)
 | .int a,.int b=>a==b
 | .str a,.str b=>a==b
 |_,_=>false
theorem eqAt_V {A:Around} {s:Shared} {y x:V} {u v:Value} (ry:RelV y u) (rx:RelV x v) (fy:flatV y=true) (fx:flatV x=true):SeqAt.EqAt A s u v (eqV y x):=by
 cases y with
 |non=>
  cases ry
  cases x with
  |non=>cases rx;exact SeqAt.EqAt.same _
  |bl b=>cases rx;exact SeqAt.EqAt.none_bool b
  |int b=>obtain⟨t,rfl⟩:=rx;exact SeqAt.EqAt.none_int b t
  |str b=>obtain⟨t,rfl⟩:=rx;exact SeqAt.EqAt.none_str b t
  |_=>exact absurd (show false=true from fx) Bool.false_ne_true
 |bl a=>
  cases ry
  cases x with
  |non=>cases rx;exact SeqAt.EqAt.bool_none a
  |bl b=>cases rx;exact SeqAt.EqAt.bool_bool a b
  |int b=>obtain⟨t,rfl⟩:=rx;exact SeqAt.EqAt.bool_int a b t
  |str b=>obtain⟨t,rfl⟩:=rx;exact SeqAt.EqAt.bool_str a b t
  |_=>exact absurd (show false=true from fx) Bool.false_ne_true
 |int a=>
  obtain⟨t',rfl⟩:=ry
  cases x with
  |non=>cases rx;exact SeqAt.EqAt.int_none a t'
  |bl b=>cases rx;exact SeqAt.EqAt.int_bool a t' b
  |int b=>obtain⟨t,rfl⟩:=rx;exact SeqAt.EqAt.int_int a t' b t
  |str b=>obtain⟨t,rfl⟩:=rx;exact SeqAt.EqAt.int_str a t' b t
  |_=>exact absurd (show false=true from fx) Bool.false_ne_true
 |str a=>
  obtain⟨t',rfl⟩:=ry
  cases x with
  |non=>cases rx;exact SeqAt.EqAt.str_none a t'
  |bl b=>cases rx;exact SeqAt.EqAt.str_bool a t' b
  |int b=>obtain⟨t,rfl⟩:=rx;exact SeqAt.EqAt.str_int a t' b t
  |str b=>obtain⟨t,rfl⟩:=rx;exact SeqAt.EqAt.str_str a t' b t
  |_=>exact absurd (show false=true from fx) Bool.false_ne_true
 |_=>exact absurd (show false=true from fy) Bool.false_ne_true
def eqU (x:V) (u:Value):Bool:=match u with
 | .none=>eqV .non x
 | .bool b=>eqV (.bl b) x
 | .int i _=>eqV (.int i) x
 | .str z _=>eqV (.str z) x
 |_=>false
theorem eqU_of {x y:V} {u:Value} (r:RelV y u) (f:flatV y=true):eqU x u=eqV y x:=by
 cases y with
 |non=>cases r;rfl
 |bl b=>cases r;rfl
 |int i=>obtain⟨t,rfl⟩:=r;rfl
 |str z=>obtain⟨t,rfl⟩:=r;rfl
 |_=>exact absurd (show false=true from f) Bool.false_ne_true
theorem any_eqU {x:V}:∀{xs:List V} {us:List Value},Vals xs us->xs.all flatV=true->us.any (eqU x)=xs.any fun y=>eqV y x
 |_,_,.nil,_=>rfl
 |y::xs,u::us,.cons r t,f=>by
  rw [List.all_cons,Bool.and_eq_true]at f
  rw [List.any_cons,List.any_cons,eqU_of r f.1,any_eqU t f.2]
theorem mem_eqAt {A:Around} {s:Shared} {x:V} {v:Value} (rx:RelV x v) (fx:flatV x=true):∀{xs:List V} {us:List Value},Vals xs us->xs.all flatV=true->∀u∈us,SeqAt.EqAt A s u v (eqU x u)
 |_,_,.nil,_=>fun u hu=>by cases hu
 |y::xs,u::us,.cons r t,f=>fun u' hu=>by
  rw [List.all_cons,Bool.and_eq_true]at f
  rcases List.mem_cons.mp hu with rfl|hu
  ·rw [eqU_of r f.1];exact eqAt_V r rx f.1 fx
  ·exact mem_eqAt rx fx t f.2 u' hu
def inV (x:V) (xs:List V):Bool:=xs.any fun y=>eqV y x
def rIn (K:PySem.W.Frag) (neg:Bool):R2:=fun x y H Q=>∃p xs,y= .ref p/\(SqL K H p xs∨SqT K H p xs)/\flatV x=true/\xs.all flatV=true/\Q (.bl (if neg then !inV x xs else inV x xs)) H
theorem op_notIn_seq:OpR X (compareOp .NotIn) (rIn X.K true):=by
 intro pins s σ H x y v u Q I rx ry h
 obtain⟨p,xs,rfl,hq,fx,fs,q⟩:=h
 cases ry
 rcases hq with hq|hq
 ·obtain⟨its,r,pl,hz⟩:=I.list hq
  refine SeqAt.notIn_listAt (eqU x) pl.isList (fun w hw=>mem_eqAt rx fx r fs w (by simpa using hw)) ⟨.bl _,H,I,rfl,?_⟩
  rw [show its.toArray.any (eqU x)=its.any (eqU x) by simp,any_eqU r fs]
  exact q
 ·obtain⟨its,r,pl,hz⟩:=I.tuple hq
  refine SeqAt.notIn_tupleAt (eqU x) pl (fun w hw=>mem_eqAt rx fx r fs w (by simpa using hw)) ⟨.bl _,H,I,rfl,?_⟩
  rw [show its.toArray.any (eqU x)=its.any (eqU x) by simp,any_eqU r fs]
  exact q
theorem call_len_seq:CallR X (.builtin "len") (fun xs H Q=>∃p ys,xs=[.ref p]/\(SqL X.K H p ys∨SqT X.K H p ys)/\Q (.int ys.length) H):=by
 intro pins s σ H xs us Q I r h
 obtain⟨p,ys,rfl,hq,q⟩:=h
 obtain⟨u,rfl,rx⟩:=vals1 r
 cases rx
 have hn:=line63
 rcases hq with hq|hq
 ·obtain⟨its,r',pl,hz⟩:=I.list hq
  have hlen:=r'.length
  exact Calls.call_len_list pl.isList (by simp only [List.size_toArray]<;>omega) ⟨.int ys.length,H,I.tok _,⟨s.toks+1,by rw [List.size_toArray,hlen]⟩,q⟩
 ·obtain⟨its,r',pl,hz⟩:=I.tuple hq
  have hlen:=r'.length
  exact len_tuple pl (by simp only [List.size_toArray]<;>omega) ⟨.int ys.length,H,I.tok _,⟨s.toks+1,by rw [List.size_toArray,hlen]⟩,q⟩
theorem call_len_str:CallR X (.builtin "len") (fun xs H Q=>∃z,xs=[.str z]/\z.length<=sizeLine/\Q (.int z.length) H):=by
 intro pins s σ H xs us Q I r h
 obtain⟨z,rfl,hz,q⟩:=h
 obtain⟨u,rfl,t,rfl⟩:=vals1 r
 have hn:=line63
 exact len_str (by omega) ⟨.int z.length,H,I.tok _,⟨_,rfl⟩,q⟩
theorem call_tuple_of:CallR X (.type "tuple") (fun xs H Q=>∃p ys,xs=[.ref p]/\((SqL X.K H p ys/\∀l,H l=none->Q (.ref l) (upd H l (.tup ys)))∨(SqT X.K H p ys/\Q (.ref p) H))):=by
 intro pins s σ H xs us Q I r h
 obtain⟨p,ys,rfl,h⟩:=h
 obtain⟨u,rfl,rx⟩:=vals1 r
 cases rx
 rcases h with ⟨hq,q⟩|⟨hq,q⟩
 ·obtain⟨its,r',pl,hz⟩:=I.list hq
  have hlen:=r'.length
  refine call_tuple_list pl.isList (fun h' kp=>?_) (by simp only [List.size_toArray]<;>omega)
  have I1:Inv X pins σ H {s with heap:=h'}:=I.kept (t':=s.toks) kp
  have I2:Inv X pins σ (upd H h'.objs.size (.tup ys)) {s with heap:=h'.push {cls:= .type "tuple",data:= .seq its.toArray}}:=
   I1.laid (t':=s.toks) (fun b o e=>Heap.get?_push_of_some _ e) (Nat.le_refl _) (show ObjOk X.prog X.w _ _ _ (.tup ys)from⟨hz,its,r',IsTup.new _ _⟩)
  exact⟨.ref h'.objs.size,_,I2,rfl,q _ (I1.hok.fresh (Nat.le_refl _))⟩
 ·obtain⟨its,r',pl,hz⟩:=I.tuple hq
  exact call_tuple_same pl ⟨.ref p,H,I,rfl,q⟩
def tyV (K:PySem.W.Frag) (T:String) (x:V) (H:Hp):Prop:=match x with
 | .str _=>T="str"
 | .int _=>T="int"
 | .ref p=>(T="list"/\∃xs,SqL K H p xs)∨(T="tuple"/\∃o,K.lookup p=some o/\o.cls= .type "tuple"/\o.dict=none)∨
   (T="dict"/\((∃kvs,H p=some (.dK kvs))∨∃kvs,H p=some (.dT kvs)))∨(T="set"/\∃S n,H p=some (.set S n))
 |_=>False
theorem tyV_is {pins:List (Addr×Obj)} {σ:St} {H:Hp} {s:Shared} {T:String} {x:V} {v:Value} (I:Inv X pins σ H s) (r:RelV x v) (ty:tyV X.K T x H):
  s.TypeIs v T/\∀a,v= .ref a->∃ob,s.heap.get? a=some ob/\ob.dict=none:=by
 cases x with
 |str z=>
  obtain⟨t,rfl⟩:=r
  cases (show T="str" from ty)
  exact⟨typeIs_str s z t,fun _ e=>nomatch e⟩
 |int i=>
  obtain⟨t,rfl⟩:=r
  cases (show T="int" from ty)
  exact⟨typeIs_int s i t,fun _ e=>nomatch e⟩
 |ref p=>
  cases r
  rcases ty with ⟨rfl,xs,hq⟩|⟨rfl,o,hk,hc,hd⟩|⟨rfl,hk⟩|⟨rfl,S,n,hk⟩
  ·obtain⟨its,_,pl,_⟩:=I.list hq
   refine⟨pl.isList.typeIs,fun a e=>?_⟩
   cases e
   obtain⟨o,n,e,c,hd,_⟩:=pl
   exact⟨o,e,hd⟩
  ·refine⟨⟨o,I.kIn p o hk,hc⟩,fun a e=>?_⟩
   cases e
   exact⟨o,I.kIn _ o hk,hd⟩
  ·have z:∃o,s.heap.get? p=some o/\o.ExactDict:=by
    rcases hk with ⟨kvs,hk⟩|⟨kvs,hk⟩
    ·obtain⟨_,_,_,_,o,_,_,e,ex,_⟩:=I.hok p _ hk
     exact⟨o,e,ex⟩
    ·obtain⟨_,_,_,_,o,_,_,e,ex,_⟩:=I.hok p _ hk
     exact⟨o,e,ex⟩
   obtain⟨o,e,ex⟩:=z
   refine⟨⟨o,e,ex.1⟩,fun a e2=>?_⟩
   cases e2
   exact⟨o,e,ex.2.1⟩
  ·obtain⟨o,_,_,_,e,ex,_⟩:=I.hok p _ hk
   refine⟨⟨o,e,ex.1⟩,fun a e2=>?_⟩
   cases e2
   exact⟨o,e,ex.2.1⟩
 |_=>exact False.elim ty
def tBM (K:PySem.W.Frag) (T:String) (r:V->List V->Hp->VK->Prop) (to:TE) (t:TA):TE:=fun σ H Q=>to σ H fun x H1=>tyV K T x H1/\t σ H1 fun xs H2=>r x xs H2 Q
variable {o e:Expr} {es:List Expr} {to:TE} {t:TA} {name:Str} {apos cpos:Pos} {T id:String} {r:V->List V->Hp->VK->Prop}
theorem pe_bm (pa:PlainAttrs T) (slot:Slot T name id) (hty:typeOf (.builtin id)=pure (.type "method_descriptor")) (hm:MtR X id r) (ho:PE X o to) (ha:PA X (e::es) t)
  (hbase:attributeBase o name X.env (eval o X.env)=eval o X.env:=by rfl)
  (hfew:((backTo cpos (starEach (e::es) X.env)).all (fun x=> !x.1) && (backToKw cpos (keywordEach [] X.env)).all (fun x=>x.1.isSome)
   && decide ((e::es).length+([]:List Keyword).length+(if([]:List Keyword).isEmpty then 0 else 1)<30))=true:=by rfl)
  (hline:(apos.endLine==cpos.line)=true:=by rfl) (hs:starEach (e::es) X.env=(false,eval e X.env)::starEach es X.env:=by rfl) (hplain:(backTo cpos (starEach es X.env)).any (·.1)=false:=by rfl):
  PE X (.Call (.Attribute o name apos) (e::es) [] cpos) (tBM X.K T r to t):=by
 intro pins s σ H Q I h
 refine wpAny_Call_method_late hbase hfew hline rfl (thn (ho pins s σ H _ I h) fun v s1 ⟨x,H1,I1,r1,ty,q1⟩=>?_)
 obtain⟨h1,h2⟩:=tyV_is I1 r1 ty
 refine⟨T,id,pa,slot,hty,h1,h2,?_⟩
 have hA:=ha cpos pins s1 σ H1 _ I1 q1
 rw [hs]at hA⊢
 refine Calls.callWith_builtin (by show(false || (backTo cpos (starEach es X.env)).any (·.1))=false;rw [hplain]<;>rfl) (Calls.evalArgs_plain ?_)
 exact thn hA fun us s2 ⟨vs,H2,I2,r2,q2⟩=>hm pins s2 σ H2 x vs v us Q I2 r1 r2 q2
end
end L2
namespace L2
open PySem PySem.Spec PyProof.Rows
def MtM (X:Cx) (id:String) (r:V->List V->Hp->VK->Prop):Prop:=
 ∀(pins:List (Addr×Obj)) (s:Shared) (σ:St) (H:Hp) (x:V) (xs:List V) (v:Value) (us:List Value) (Q:VK),Inv X pins σ H s->RelV x v->Vals xs us->r x xs H Q->
  wpAny (model X.prog X.w) X.A (call (.builtin id) (v::us)) (EP X pins σ Q) X.xe s
theorem Vals.one:∀{x:V} {us:List Value},Vals [x] us->∃u,us=[u]/\RelV x u
 |_,_,.cons r .nil=>⟨_,rfl,r⟩
section
variable {X:Cx} {pins:List (Addr×Obj)} {σ:St} {H:Hp} {s:Shared} {l b:Addr} {xs ys zs:List V}
theorem Inv.lset {its its':List Value} {n:Nat} {f:Array Value->Array Value} {t':Nat} (I:Inv X pins σ H s) (hH:H l=some (.lst xs))
  (e:s.heap.get? l=some {cls:= .type "list",data:= .seq its.toArray n}) (hf:f its.toArray=its'.toArray) (hv:Vals ys its') (hz:ys.length<=sizeLine):
  Inv X pins σ (upd H l (.lst ys)) {s with heap:=s.heap.update l (Obj.mapSeq f),toks:=t'}:=by
 have q:=PySem.IsL.update e f
 rw [hf]at q
 refine I.write (x:=l) (e:=l) (by rw [hH];exact trivial) (.inl rfl) (fun b' u hb hu=>(Heap.get?_update_other s.heap (Obj.mapSeq f) (Ne.symm hb)).trans hu) ⟨_,q⟩ ?_
 exact⟨hz,its',_,hv,q⟩
theorem Inv.lnew {its:List Value} {t':Nat} (I:Inv X pins σ H s) (hv:Vals ys its) (hz:ys.length<=sizeLine):
  Inv X pins σ (upd H s.heap.objs.size (.lst ys)) {s with heap:=s.heap.push {cls:= .type "list",data:= .seq its.toArray},toks:=t'}:=
 I.laid (fun _ _ q=>Heap.get?_push_of_some _ q) (Nat.le_refl _) ⟨hz,its,0,hv,Heap.get?_push_size _ rfl⟩
theorem Inv.fresh (I:Inv X pins σ H s):H s.heap.objs.size=none:=I.hok.fresh (Nat.le_refl _)
theorem Inv.lstM (I:Inv X pins σ H s) (hH:H l=some (.lst xs)):xs.length<=sizeLine/\∃(its:List Value) (n:Nat),Vals xs its/\xs.length=its.length/\s.heap.get? l=some {cls:= .type "list",data:= .seq its.toArray n}:=by
 obtain⟨z,its,n,r,e⟩:=I.hok l _ hH
 exact⟨z,its,n,r,r.length,e⟩
theorem notLongL {n:Nat} (h:n<=sizeLine):Builtin.List.listTooLong n=false:=by
 unfold Builtin.List.listTooLong
 exact decide_eq_false (by omega)
end
section
variable {X:Cx}
def rAppend:V->List V->Hp->VK->Prop:=fun x vs H Q=>∃l xs y,x= .ref l/\vs=[y]/\H l=some (.lst xs)/\xs.length<sizeLine/\Q .non (upd H l (.lst (xs++[y])))
theorem mt_append:MtM X "list.append" rAppend:=by
 intro pins s σ H x vs v us Q I rx rv h
 obtain⟨l,xs,y,rfl,rfl,hH,hz,q⟩:=h
 cases rx
 obtain⟨u,rfl,ru⟩:=rv.one
 obtain⟨z,its,n,r,hl,e⟩:=I.lstM hH
 refine call_meets F.slot_list_append ⟨_,e,rfl⟩ F.entry_list_append (F.args_list_append_2 _ _) (PySem.list_append l its.toArray n u (by rw [List.size_toArray];omega)) ⟨e,?_⟩
 refine⟨.non,_,I.lset (its':=its++[u]) hH e (by simp) (r.append (.cons ru .nil)) ?_,rfl,q⟩
 rw [List.length_append,List.length_singleton]
 omega
def rExtend:V->List V->Hp->VK->Prop:=fun x vs H Q=>∃l b xs zs,x= .ref l/\vs=[.ref b]/\H l=some (.lst xs)/\H b=some (.lst zs)/\xs.length+zs.length<=sizeLine/\Q .non (upd H l (.lst (xs++zs)))
theorem mt_extend:MtM X "list.extend" rExtend:=by
 intro pins s σ H x vs v us Q I rx rv h
 obtain⟨l,b,xs,zs,rfl,rfl,hH,hB,hz,q⟩:=h
 cases rx
 obtain⟨u,rfl,ru⟩:=rv.one
 cases ru
 obtain⟨z,its,n,r,hl,e⟩:=I.lstM hH
 obtain⟨z2,its2,n2,r2,hl2,e2⟩:=I.lstM hB
 have hsz:its.toArray.size+its2.toArray.size<=sizeLine:=by rw [List.size_toArray,List.size_toArray];omega
 have hlong:¬(!its.toArray.isEmpty && Builtin.List.listTooLong (its.toArray.size+its2.toArray.size))=true:=by
  rw [notLongL hsz,Bool.and_false]
  exact Bool.false_ne_true
 refine call_meets F.slot_list_extend ⟨_,e,rfl⟩ F.entry_list_extend (F.args_list_extend_2 _ _)
  (AutoSeq1.list_extend_list_list_0 l its.toArray n b its2.toArray n2 hlong (by rw [List.size_toArray];omega) (by omega)) ⟨e,e2,?_⟩
 refine⟨.non,_,I.lset (its':=its++its2) hH e (by simp) (r.append r2) ?_,rfl,q⟩
 rw [List.length_append]
 omega
def rCat:R2:=fun x y H Q=>∃l b xs zs,x= .ref l/\y= .ref b/\H l=some (.lst xs)/\H b=some (.lst zs)/\xs.length+zs.length<=sizeLine/\∀p,H p=none->Q (.ref p) (upd H p (.lst (xs++zs)))
theorem op_cat:OpR X (binaryOp .Add) rCat:=by
 intro pins s σ H x y v u Q I rx ry h
 obtain⟨l,b,xs,zs,rfl,rfl,hH,hB,hz,q⟩:=h
 cases rx
 cases ry
 obtain⟨z,its,n,r,hl,e⟩:=I.lstM hH
 obtain⟨z2,its2,n2,r2,hl2,e2⟩:=I.lstM hB
 refine PySem.P.add_list e e2 ?_ (by rw [List.size_toArray,List.size_toArray];omega)
 have ea:its.toArray++its2.toArray=(its++its2).toArray:=by simp
 rw [ea]
 exact⟨.ref _,_,I.lnew (t':=s.toks) (r.append r2) (by rw [List.length_append];omega),rfl,q _ I.fresh⟩
end
section
variable {prog:Program} {w:World} {A:Around} {E:Value->Shared->Prop} {s:Shared}
set_option maxRecDepth 100000 in
end
section
variable {X:Cx}
end
end L2
namespace Att
open PySem PySem.W PySem.Calls PyProof.Rows
theorem ints_of_wellAll {P:Params} {h:Heap}:∀(ns:List Int) (vs:List Value),WellAll P h vs (ns.map WData.int)->IntsAre vs ns:=by
 intro ns
 induction ns with
 |nil=>
  intro vs w
  rw [List.map_nil]at w
  cases w
  exact .nil
 |cons n ns ih=>
  intro vs w
  rw [List.map_cons]at w
  cases w with
  |cons a b=>
   cases a
   exact .cons _ _ (ih _ b)
theorem script_of {l:OpenLaw} {n:Nat} (hn:l.most=some n) {P:Params} {h:Heap} {args:List WData} {vals:List Value}
  (hpre:l.row.toRowW.claim.pre args=true) (hwl:WellAll P h vals args):
  ∃a vs ns,vals=[Value.ref a]/\args=[WData.list (ns.map WData.int)]/\h.get? a=some {cls:= .type "list",data:= .seq vs.toArray}/\IntsAre vs ns/\ns.length<=n:=by
 have hsh:WShape.hasAll [] args [.list .int]=true:=(pre_splitW hpre).1
 have hc:l.pre.holds [] {args:=args}=true:=(pre_splitW hpre).2
 obtain⟨d,r,rfl,h1,h2⟩:=hasAllW_cons hsh
 obtain rfl:=hasAllW_nil h2
 obtain⟨xs,rfl,h3⟩:=hasW_list h1
 obtain⟨ns,rfl⟩:=items_int h3
 have hlen:ns.length<=n:=by
  unfold OpenLaw.pre at hc
  have h4:(WTm.not (.lt (.lit (.int (n:Int))) (.len (.arg 0)))).holds [] {args:=[.list (ns.map .int)]}=true:=by
   have h4:=(holds_andW hc).1
   rw [hn]at h4
   exact h4
  have h5:=condW_of h4 (w_not (w_lt w_lit (w_len_list (w_arg rfl))))
  rw [List.length_map]at h5
  refine Nat.le_of_not_lt fun q=>?_
  have q':(n:Int)<((ns.length:Nat):Int):=by omega
  first
   |(rw [decide_eq_true q']at h5;exact absurd h5 (by decide))
   |(simp at h5;omega)
 cases hwl with
 |cons w1 w2=>
  cases w2
  cases w1 with
  |list ho hall=>exact⟨_,_,ns,rfl,rfl,ho,ints_of_wellAll ns _ hall,hlen⟩
theorem post_true (l:OpenLaw) (args:List WData):l.row.toRowW.claim.post args (.bool true) args=true:=
 postW_of (r:=l.row.toRowW) (X:=(true==true))
  (show WShape.has [] (.bool true) .bool=true by first|rfl|decide|simp [WShape.has,WShape.arms,WShape.armsAll])
  (show(WTm.eq .res (.lit (.bool true))).value [] {args:=args,res:=some (.bool true),after:=args}=some (.bool (true==true))from w_eq_bool (w_res rfl) w_lit) rfl
theorem attach_call {l:OpenLaw} {n:Nat} {q:Program} {loose:List Str} {XP:(Str->Option Value)->Heap->Prop} {YP:World->Heap->Prop} {d:DefRec}
  (hn:l.most=some n) (hdf:d.params.defaults=[])
  (call:∀(w:World) (s₀ s₁:Shared) (mg mb:Str->Option Value) (fa:Addr) (o:Obj) (pm cd doc:Value) (a:Addr) (vs:List Value) (ns:List Int),
   Ground q loose [] XP w s₀ mg mb s₁.heap->YP w s₁.heap->
   s₁.heap.get? fa=some o->o.data= .func (docDef d.name d.params d.body d.scope pm cd doc)->s₁.heap.CodeRec cd d.name->mg d.name=some (.ref fa)->
   s₁.heap.get? a=some {cls:= .type "list",data:= .seq vs.toArray}->IntsAre vs ns->ns.length<=n->s₁.gens= #[]->
   codeAny (model l.prog w) callerA (.call (.ref fa) ⟨[.ref a],[]⟩) (fun r s'=>r= .ok (.ret (.bool true))/\OldK s₁.heap s'.heap/\s'.os=s₁.os/\AllBare s'.gens) s₁):
  WalkO q loose XP YP l.row.toRowW d [] (fun f vs=>PySem.call f vs):=by
 intro w s₀ s₁ mg mb G Y fa o pm cd doc dV kV ho hd hcd hD hmg hg args vals as hpre hlay hrd hwl hlo
 obtain rfl:dV= .none:=Dflts.none hD hdf
 obtain rfl:kV= .none:=Dflts.noKw hD
 obtain⟨a,vs,ns,rfl,rfl,hobj,hints,hlen⟩:=script_of hn hpre hwl
 refine enter_call (codeAny_mono (call w s₀ s₁ mg mb fa o pm cd doc a vs ns G Y ho (fd_plain hd) hcd hmg hobj hints hlen hg) fun r s' hq=>?_)
 obtain⟨rfl,h2,h3,h4⟩:=hq
 exact⟨.inl ⟨.bool true,.bool true,[],rfl,fun _=>rfl,.bool true,post_true l _,fun _=>⟨List.Pairwise.nil,fun _ hm=>(nomatch hm)⟩⟩,h2,h3,h4⟩
section
variable {prog:Program} {w:World} {A:Around} {E:Value->Shared->Prop} {s:Shared} {K:Frag}
end
end Att
namespace L2
open PySem PySem.Spec PyProof.Rows
theorem vals_ints:∀{vs:List Value} {ns:List Int},IntsAre vs ns->Vals (ns.map V.int) vs
 |_,_,.nil=> .nil
 |_,_,.cons n t h=> .cons ⟨t,rfl⟩ (vals_ints h)
end L2
namespace L2
open PySem PySem.Spec PyProof.Rows
end L2
/-THE LAST THEOREM (shape;LID,My.*are yours):
   My.Adr:a structure of the addresses that your layer names (classes,functions);My.Txt K t:a structure (Prop) of the equations over K;
   My.txt_mk:{K} {implicit addresses ..} (e1:nsIn K mainGlobals "law"=some (some (.ref f))) (e2:K.lookup f=some ⟨oc,od,.func (fnOf "law" "law" params body scope dV kV doc pm an cdv ct),sl⟩) (e3:codeIn K cdv "law"=true) .. :∃t,My.Txt K t
set_option maxRecDepth 100000 in
set_option maxHeartbeats 0 in
theorem PySem.Challenge.cw_LID_holds : PySem.Challenge.rw_LID.Holds := by
  w_on; o_law; k_head; (case hw => w_witness2)
  k_fill
  refine L2.walk_of (l := PySem.Challenge.rw_LID) (n := 63) (k := 40) (x := "script") (CX := fun w => ..) (sp := fun _ => My.sp_law) rfl (by decide) rfl ⟨rfl, by decide, by decide⟩ (fun w h Y => PySem.W.kIn_of Y) ?F ?S ?C
  case F =>
    intro w mg fa h KX G hmg
    have T : ∃ t, My.Txt (L2.KOf KX) t := by
      dsimp only [L2.KOf]                          -- K must stand as «<heap const> w.params» for k_is
      refine' My.txt_mk ?e1 ?e2 ?e3 ..
      (case e1 => PySem.W.k_is)                    -- in the order: a name -> its address -> its object -> its parts
      (case e2 => PySem.W.k_is)
      ..
    obtain ⟨t, T⟩ := T
    have e0 := hmg.symm.trans (PySem.W.mg_of KX G T.law)
    cases e0                                       -- fa is the law's own address
    exact ⟨_, fun s u => .of_eq rfl, fun base kb nb => My.law_fn T kb nb⟩     -- if «.of_eq rfl» comes too early: refine' ⟨_, ?b, fun base kb nb => My.law_fn T kb nb⟩; exact fun s u => .of_eq rfl
  case S => exact fun w H a ns hl hO hS => ..
  case C => exact ..
(the tactic k_is has no namespace:write k_is)-/
namespace L2
open PySem PySem.Spec PyProof.Rows
def inClass (s:Stmt) (j:Nat):Stmt:=match s with
 | .ClassDef _ _ _ body _ _ _ _ _ _ _=>body.getD j (.Pass ⟨0,0,0,0⟩)
 |_=> .Pass ⟨0,0,0,0⟩
def defArgs (s:Stmt):Arguments:=match s with
 | .FunctionDef _ a _ _ _ _ _ _ _ _=>a
 |_=>{posonlyargs:=[],args:=[],vararg:=none,kwonlyargs:=[],kw_defaults:=[],kwarg:=none,defaults:=[]}
def defBody (s:Stmt):List Stmt:=match s with
 | .FunctionDef _ _ b _ _ _ _ _ _ _=>b
 |_=>[]
def defScope (s:Stmt):Scope:=match s with
 | .FunctionDef _ _ _ _ _ _ sc _ _ _=>sc
 |_=>{kind:= .function,names:=[],isGenerator:=false,isCoroutine:=false}
abbrev CX0:CXT:=fun _ _ _ _ _ _=>False
abbrev E0:XK:=fun _ _ _=>False
theorem pass0 {X:Cx}:Passes CX0 X E0:=fun _ _ _ _ _ _ _ h=>h.elim
structure Fun (K:PySem.W.Frag) (x qual:Str) (st:Stmt) (f:Addr) (fd:FuncData):Prop where
 ex:∃(oc:Value) (od:Option Addr) (kV doc pm:Value) (an:Option Addr) (cdv ct:Value) (osl:Array (Option Value)),
  fd=PySem.W.fnOf x qual (defArgs st) (defBody st) (defScope st) .none kV doc pm an cdv ct/\K.lookup f=some ⟨oc,od,.func fd,osl⟩/\PySem.W.codeIn K cdv qual=true
 kp:PySem.W.keepIn K (.ref f)=true
section
variable {P:Program} {w:World} {K:PySem.W.Frag} {mg:Str->Option Value} {base:Heap}
theorem Fun.ok {x qual:Str} {st:Stmt} {f:Addr} {fd:FuncData} {N ps:List Str} {k:Nat} {sp:Sp} (F:Fun K x qual st f fd) (S:FnScope N ps (defScope st)) (len:∀vs H Q E,sp vs H Q E->vs.length=ps.length)
  (hbody:∀(cdv:Value) (A:Around) (outer:List Env) (s:Shared) (H:Hp) (vs:List V) (Q:VK) (E:XK),Room k (A.deeper (envOfC qual (defScope st) s.heap.objs.size f cdv))->sp vs H Q E->
   ∃t,PSs (cxOf CX0 P w K mg base N qual (defScope st) f cdv A outer s H E).nox (defBody st) t/\t {nx:=fun _ H'=>Q .non H',rt:=Q} (start N vs) H):FnOk P w K mg base CX0 (k+1) f fd ps sp:=by
 obtain⟨oc,od,kV,doc,pm,an,cdv,ct,osl,rfl,lk,hcd⟩:=F.ex
 refine fn_of lk hcd S len fun A outer s H vs Q E hr hsp=>?_
 obtain⟨t,h,q⟩:=hbody cdv A outer s H vs Q E hr hsp
 exact⟨t,h.nox,q⟩
theorem Fun.binds {x qual:Str} {st:Stmt} {f:Addr} {fd:FuncData} {ps:List Str} (F:Fun K x qual st f fd)
  (h:∀(kV doc pm:Value) (an:Option Addr) (cdv ct:Value) (us:List Value),us.length=ps.length->bindArgs (PySem.W.fnOf x qual (defArgs st) (defBody st) (defScope st) .none kV doc pm an cdv ct) ⟨us,[]⟩=pure (ps.zip us)):Binds K fd ps []:=by
 obtain⟨oc,od,kV,doc,pm,an,cdv,ct,osl,rfl,lk,hcd⟩:=F.ex
 exact .all (h kV doc pm an cdv ct)
theorem fun_mk {x qual:Str} {st:Stmt} {f:Addr} {oc:Value} {od an:Option Addr} {osl:Array (Option Value)} {kV doc pm cdv ct:Value} (l:K.lookup f=some ⟨oc,od,.func (PySem.W.fnOf x qual (defArgs st) (defBody st) (defScope st) .none kV doc pm an cdv ct),osl⟩)
  (c:PySem.W.codeIn K cdv qual=true) (k:PySem.W.keepIn K (.ref f)=true):Fun K x qual st f (PySem.W.fnOf x qual (defArgs st) (defBody st) (defScope st) .none kV doc pm an cdv ct):=⟨⟨oc,od,kV,doc,pm,an,cdv,ct,osl,rfl,l,c⟩,k⟩
end
section
variable {X:Cx}
theorem pv (i:Nat) {x:Str} {pos:Pos} (hN:X.N[i]? =some x:=by rfl) (hv:Vis X.env.scope x:=by first|exact Or.inl rfl|exact Or.inr (Or.inl rfl)|exact Or.inr (Or.inr rfl)) (hd:(x==("__debug__":Str))=false:=by decide)
  (hcd:(x==("__classdict__":Str))=false:=by decide):PE X (.Name x pos) (tVar i):=pe_var hN hv hd hcd
end
theorem iteF {A B:Prop} (h:B):if false=true then A else B:=by
 rw [if_neg Bool.false_ne_true]
 exact h
theorem iteT {A B:Prop} (h:A):if true=true then A else B:=by
 rw [if_pos rfl]
 exact h
theorem ite2 {c A B:Prop} [Decidable c] (h1:c->A) (h2:¬c->B):if c then A else B:=by
 by_cases h:c
 ·rw [if_pos h]
  exact h1 h
 ·rw [if_neg h]
  exact h2 h
theorem iteNS {c A B:Prop} [Decidable c] (hc:c) (h:B):if(!decide c)=true then A else B:=by
 rw [decide_eq_true hc]
 exact iteF h
def Same (H H':Hp):Prop:=∀b o,H b=some o->H' b=some o
theorem Same.refl (H:Hp):Same H H:=fun _ _ h=>h
theorem Same.trans {H H1 H2:Hp} (a:Same H H1) (b:Same H1 H2):Same H H2:=fun c o h=>b c o (a c o h)
theorem Same.free {H H':Hp} (e:Same H H') {l:Addr} (h:H' l=Option.none):H l=Option.none:=by
 cases q:H l with
 |none=>rfl
 |some o=>
  rw [e l o q]at h
  cases h
end L2
set_option maxHeartbeats 4000000
namespace L2
open PySem PySem.Spec PyProof.Rows
section
variable {κ:Type} [DecidableEq κ]
def valV (kvs:List (κ×V)) (k:κ):Option V:=(kvs.find? fun kv=>decide (kv.1=k)).map (·.2)
def putK (kvs:List (κ×V)) (k:κ) (v:V):List (κ×V):=
 if(kvs.any fun kv=>decide (kv.1=k))=true then kvs.map (fun kv=>if kv.1=k then(kv.1,v)else kv)else kvs++[(k,v)]
theorem valV_nil {k:κ}:valV ([]:List (κ×V)) k=none:=rfl
theorem valV_pos {p:κ×V} {r:List (κ×V)} {k:κ} (e:p.1=k):valV (p::r) k=some p.2:=by simp [valV,List.find?_cons,e]
theorem valV_neg {p:κ×V} {r:List (κ×V)} {k:κ} (e:¬p.1=k):valV (p::r) k=valV r k:=by simp [valV,List.find?_cons,e]
theorem valV_any (k:κ):∀kvs:List (κ×V),(kvs.any fun kv=>decide (kv.1=k))=(valV kvs k).isSome
 | []=>rfl
 |p::r=>by
  rw [List.any_cons]
  by_cases e:p.1=k
  ·simp only [valV_pos e,decide_eq_true e,Bool.true_or,Option.isSome_some]
  ·rw [valV_neg e,decide_eq_false e,Bool.false_or];exact valV_any k r
theorem valV_map (k j:κ) (y:V):∀kvs:List (κ×V),valV (kvs.map fun kv=>if kv.1=k then(kv.1,y)else kv) j=(valV kvs j).map fun x=>if j=k then y else x
 | []=>rfl
 |p::r=>by
  have ih:=valV_map k j y r
  rw [List.map_cons]
  by_cases h:p.1=k
  ·rw [if_pos h]
   by_cases e:p.1=j
   ·rw [valV_pos (p:=(p.1,y)) e,valV_pos e,Option.map_some,if_pos (e.symm.trans h)]
   ·rw [valV_neg (p:=(p.1,y)) e,valV_neg e,ih]
  ·rw [if_neg h]
   by_cases e:p.1=j
   ·rw [valV_pos (p:=p) e,valV_pos e,Option.map_some,if_neg (fun z=>h (e.trans z))]
   ·rw [valV_neg (p:=p) e,valV_neg e,ih]
theorem valV_snoc (k j:κ) (y:V):∀kvs:List (κ×V),valV kvs k=none->valV (kvs++[(k,y)]) j=if j=k then some y else valV kvs j
 | [],_=>by
  by_cases e:k=j
  ·rw [if_pos e.symm];exact valV_pos (p:=(k,y)) e
  ·rw [if_neg (fun z=>e z.symm)];exact valV_neg (p:=(k,y)) e
 |p::r,hn=>by
  rw [List.cons_append]
  have hk:¬p.1=k:=fun z=>by rw [valV_pos z]at hn;cases hn
  rw [valV_neg hk]at hn
  have ih:=valV_snoc k j y r hn
  by_cases e:p.1=j
  ·rw [valV_pos e,valV_pos e,if_neg (fun z=>hk (e.trans z))]
  ·rw [valV_neg e,valV_neg e,ih]
theorem valV_put (kvs:List (κ×V)) (k j:κ) (y:V):valV (putK kvs k y) j=if j=k then some y else valV kvs j:=by
 unfold putK
 by_cases a:(kvs.any fun kv=>decide (kv.1=k))=true
 ·rw [if_pos a,valV_map]
  rw [valV_any]at a
  by_cases e:j=k
  ·obtain⟨x,hx⟩:=Option.isSome_iff_exists.mp a
   rw [if_pos e,e,hx,Option.map_some,if_pos rfl]
  ·rw [if_neg e]
   cases valV kvs j with
   |none=>rfl
   |some x=>rw [Option.map_some,if_neg e]
 ·rw [if_neg a]
  refine valV_snoc k j y kvs ?_
  rw [valV_any]at a
  cases q:valV kvs k with
  |none=>rfl
  |some x=>rw [q]at a;exact(a rfl).elim
theorem RelO.isSome_eq {o:Option V} {u:Option Value} (r:RelO o u):o.isSome=u.isSome:=by
 cases o with
 |none=>cases u with
  |none=>rfl
  |some _=>exact(show False from r).elim
 |some _=>cases u with
  |none=>exact(show False from r).elim
  |some _=>rfl
end
theorem kV_is {P:Program} {w:World} {k:Key} {u:Value} (r:RelV (kV k) u):(mixKind P w).is k u=true:=by
 cases k with
 |inl i=>obtain⟨t,e⟩:=(show∃t,u=Value.int i t from r);subst e;exact mixKind_int P w i t
 |inr x=>obtain⟨t,e⟩:=(show∃t,u=Value.str x t from r);subst e;exact mixKind_str P w x t
theorem items_are {P:Program} {w:World}:∀{ks:List Key} {us:List Value},Vals (ks.map kV) us->ItemsAre (mixKind P w) ks us
 | [],_,r=>by rw [List.map_nil]at r;cases r;exact .nil
 |k::ks,_,r=>by
  rw [List.map_cons]at r
  cases r with
  |cons h t=>exact .cons (kV_is h) (items_are t)
section
variable {P:Program} {w:World} {H:Hp} {h:Heap} {a:Addr}
theorem key_of {ks:List Key} (ok:HOk P w H h) (e:H a=some (.tup (ks.map kV))):(tupleKind (mixKind P w)).is h ks a:=by
 obtain⟨_,its,r,o,h1,h2,n,h3⟩:=(show ObjOk P w H h a (.tup (ks.map kV))from ok a _ e)
 exact⟨o,its.toArray,n,h1,h2,h3,by simpa using items_are r⟩
end
section
variable {X:Cx} {pins:List (Addr×Obj)} {σ:St} {H:Hp} {s:Shared} {a:Addr} {y v:V} {u r:Value} {o:Option V} {A:Around} {E:Value->Shared->Prop}
theorem Inv.big (I:Inv X pins σ H s):sysModules<s.heap.objs.size:=by
 have h:mainGlobals<s.heap.objs.size:=(I.mod.glob.keeps I.bk).lt
 exact Nat.lt_trans (by decide) h
end
section
variable {X:Cx} {pins:List (Addr×Obj)} {σ:St} {H:Hp} {s:Shared} {a:Addr} {kvs:List (Key×V)} {k:Key} {u:Value} {A:Around} {E:Value->Shared->Prop}
end
def NoSl (i:Expr):Prop:=∀ov iv,subscripted i false ov iv=operate [ov,iv] (getItem ov iv)
theorem subD_of {prog:Program} {w:World} {A:Around} {E:Value->Shared->Prop} {s:Shared} {env:Env} {value slice:Expr} {pos:Pos} {T id:String} {Q:Value->Shared->Prop}
  (hl:typeLookup (.type T) "__getitem__"=pure (some (.builtin id))) (hs:NoSl slice)
  (h:wpAny (model prog w) A (eval value env) (fun o s₁=>wpAny (model prog w) A (eval slice env) (fun i s₂=>s₂.TypeIs o T/\wpAny (model prog w) A (getItem o i) Q E s₂) E s₁) E s):
  wpAny (model prog w) A (eval (.Subscript value slice pos) env) Q E s:=by
 refine Subscript_ (wpAny_mono h (fun o s₁ h₁=>wpAny_mono h₁ (fun i s₂ h₂=>?_) fun _ _ x=>x) fun _ _ x=>x)
 obtain⟨hT,h₂⟩:=h₂
 unfold subscriptTail
 refine wpAny_bind ?_
 rw [getitemInPython_of_ne hT.not_modules]
 refine wpAny_bind (wpAny_specialOf hT hl ?_)
 have fin:wpAny (model prog w) A (subscripted slice false o i) (fun r s₃=>wpAny (model prog w) A (letTemporaryGo value o r>>=fun _=>pure r) Q E s₃) E s₂:=by
  rw [hs o i]
  exact wpAny_operating (wpAny_mono h₂ (fun r s₃ h₃=>wpAny_bind (wpAny_letTemporaryGo (wpAny_pure h₃))) fun _ _ x=>x)
 first
  |exact wpAny_pure (wpAny_bind fin)
  |exact wpAny_bind (wpAny_pure (wpAny_bind fin))
  |exact wpAny_bind fin
section
variable {X:Cx} {o i e value:Expr} {pos pos' tpos:Pos} {td ty tv:TE}
end
section
variable {X:Cx} {pos:Pos}
end
section
variable {X:Cx} {pins:List (Addr×Obj)} {σ:St} {H:Hp} {s:Shared} {a:Addr} {y d:V} {u r:Value} {o:Option V} {A:Around} {E:Value->Shared->Prop}
end
section
variable {X:Cx} {o e f:Expr} {apos cpos:Pos} {td ty tx:TE}
end
section
variable {X:Cx} {pins:List (Addr×Obj)} {σ:St} {H:Hp} {s:Shared} {a:Addr} {kvs:List (Key×V)} {A:Around} {E:Value->Shared->Prop}
end
section
variable {X:Cx} {pins:List (Addr×Obj)} {σ:St} {H:Hp} {s:Shared} {a:Addr} {y:V} {u:Value} {A:Around} {E:Value->Shared->Prop}
end
end L2
namespace L2
open PySem PySem.Spec PyProof.Rows
section
variable {X:Cx}
end
section
variable {κ:Type} [DecidableEq κ]
end
end L2
namespace PySem
open AutoSeq1 (wpAny_loadPart')
open Sem (wp)
section
variable {prog:Program} {w:World} {A:Around} {E:Value->Shared->Prop} {s:Shared}
end
section
variable {prog:Program} {w:World} {A:Around} {E:Value->Shared->Prop} {s:Shared}
end
end PySem
namespace PySem
open Sem (wp)
section
variable {prog:Program} {w:World} {K:Type} [DecidableEq K] (knd:KeyKind prog w K)
def IsPairKey (h:Heap) (x:K×List K) (a:Addr):Prop:=∃o v b n,h.get? a=some o/\o.cls= .type "tuple"/\o.data= .seq #[v,.ref b] n/\knd.is x.1 v=true/\IsTupleKey knd h x.2 b
def pairKeyHash (x:K×List K):Int:=reduceHash (Builtin.Tuple.tupleHashOf [knd.hash x.1,tupleKeyHash knd x.2])
variable {knd}
theorem IsPairKey.typeIs {s:Shared} {x:K×List K} {a:Addr} (h:IsPairKey knd s.heap x a):s.TypeIs (.ref a) "tuple":=let⟨o,_,_,_,ho,hc,_⟩:=h;⟨o,ho,hc⟩
theorem IsPairKey.inj {h:Heap} {a:Addr} {x y:K×List K} (hx:IsPairKey knd h x a) (hy:IsPairKey knd h y a):x=y:=by
 obtain⟨o,v,b,n,ho,_,hd,h1,h2⟩:=hx
 obtain⟨o',v',b',n',ho',_,hd',h1',h2'⟩:=hy
 obtain rfl:o=o':=Option.some.inj (ho.symm.trans ho')
 rw [hd]at hd'
 injection hd' with e _
 have e1:v=v'/\b=b':=by simpa using e
 obtain⟨rfl,rfl⟩:=e1
 exact Prod.ext (knd.inj _ _ _ h1 h1') (h2.inj h2')
theorem IsPairKey.keeps {h h':Heap} {x:K×List K} {a d:Addr} {o:Obj} {es ep} (hx:IsPairKey knd h x a) (ho:h.get? d=some o) (hd:o.data= .dict es ep) (hs:Heap.SameBut d h h'):IsPairKey knd h' x a:=by
 obtain⟨o',v,b,n,ho',hc,hd',h1,h2⟩:=hx
 have hne:a≠d:=by
  rintro rfl
  obtain rfl:o'=o:=Option.some.inj (ho'.symm.trans ho)
  rw [hd]at hd';exact nomatch hd'
 exact⟨o',v,b,n,(hs.2 a hne).trans ho',hc,hd',h1,h2.keeps ho hd hs⟩
variable {A:Around} {E:Value->Shared->Prop} {s:Shared}
theorem wpAny_pyHash_pair {x:K×List K} {a:Addr} {Q:Int->Shared->Prop} (hu:A.units+1<cLine) (hk:IsPairKey knd s.heap x a) (h:Q (pairKeyHash knd x) {s with toks:=s.toks+(x.2.length+3)}):
  wpAny (model prog w) A (pyHash (.ref a)) Q E s:=by
 have hT:=hk.typeIs
 obtain⟨o,v,b,n,ho,_,hd,h1,h2⟩:=hk
 unfold pyHash
 first|unfold pyHashByItsType|skip
 first|refine wpAny_bind (wpAny_cRoomFor_or (.inr (by omega)) ?_)|skip
 refine wpAny_bind (wpAny_specialOf hT F.slot_tuple_hash.lookup ?_)
 show wpAny _ _ (if(some (Value.builtin "tuple.__hash__")==some Value.none)=true then _ else _) Q E s
 rw [if_neg (by rw [beq_builtin_none];exact Bool.false_ne_true)]
 refine wpAny_bind (wpAny_specialOf hT F.slot_tuple_hash.lookup ?_)
 show wpAny _ _ (callSpecialIfBoundUnlessNone? (.ref a) "__hash__" _>>=_) Q E s
 refine wpAny_bind (wpAny_callSpecialIfBoundUnlessNone?_slot hT F.slot_tuple_hash (wpAny_call_entry F.slot_tuple_hash hT F.entry_tuple_hash ?_ (F.args_tuple_hash_1 _)))
 show wpAny _ _ (Builtin.Tuple.tupleItemsOf (.ref a)>>=_) _ _ s
 refine wpAny_bind (wpAny_tupleItemsOf ho hd ?_)
 refine wpAny_bind ?_
 rw [<-Array.forIn_toList]
 refine wpAny_forIn_list _
  (fun rest (r:Array Int) s'=>(rest=[v,.ref b]/\r= #[]/\s'=s)∨(rest=[.ref b]/\r= #[knd.hash x.1]/\s'={s with toks:=s.toks+1})∨(rest=[]/\r= #[knd.hash x.1,tupleKeyHash knd x.2]/\s'={s with toks:=s.toks+1+(x.2.length+1)}))
  _ ?_ ?_ _ _ (.inl ⟨rfl,rfl,rfl⟩)
 ·rintro y rest r s' (⟨e,rfl,rfl⟩|⟨e,rfl,rfl⟩|⟨e,_,_⟩)
  ·obtain⟨rfl,rfl⟩:=List.cons.inj e
   refine wpAny_bind (knd.pyHash h1 ?_)
   exact wpAny_pure (.inr (.inl ⟨rfl,rfl,rfl⟩))
  ·obtain⟨rfl,rfl⟩:=List.cons.inj e
   refine wpAny_bind (wpAny_pyHash_tuple (show A.in1.units<cLine from hu) h2 ?_)
   exact wpAny_pure (.inr (.inr ⟨rfl,rfl,rfl⟩))
  ·cases e
 ·rintro r s' (⟨e,_,_⟩|⟨e,_,_⟩|⟨_,rfl,rfl⟩)
  ·cases e
  ·cases e
  ·show wpAny _ _ (retInt (Builtin.Tuple.tupleHashOf [knd.hash x.1,tupleKeyHash knd x.2])) _ _ _
   refine wpAny_ret_mkInt ?_
   show wpAny _ _ (if(decide (-(2:Int) ^ 63<=Builtin.Tuple.tupleHashOf [knd.hash x.1,tupleKeyHash knd x.2]) && decide (Builtin.Tuple.tupleHashOf [knd.hash x.1,tupleKeyHash knd x.2]<2 ^ 63))=true then _ else _) Q E _
   have et:s.toks+1+(x.2.length+1)+1=s.toks+(x.2.length+3):=by omega
   unfold pairKeyHash reduceHash at h
   by_cases hr:(decide (-(2:Int) ^ 63<=Builtin.Tuple.tupleHashOf [knd.hash x.1,tupleKeyHash knd x.2]) && decide (Builtin.Tuple.tupleHashOf [knd.hash x.1,tupleKeyHash knd x.2]<2 ^ 63))=true
   ·rw [if_pos hr]
    rw [if_pos hr, <-et]at h
    exact wpAny_pure h
   ·rw [if_neg hr]
    rw [if_neg hr, <-et]at h
    exact wpAny_bind (wpAny_rule (wpAny_pure h))
theorem pair_eq_tree {x y:K×List K} {a b:Addr} {P:Fin->Shared->Prop} (hu:A.units<cLine) (hx:IsPairKey knd s.heap x a) (hy:IsPairKey knd s.heap y b) (h:P (.done (.ret (.bool (decide (x=y))))) s):
  wpAny (model prog w) A (Builtin.«tuple.__eq__» ⟨[.ref a,.ref b],[]⟩) P E s:=by
 have hTb:=hy.typeIs
 obtain⟨oa,va,ba,na,hoa,_,hda,h1,h2⟩:=hx
 obtain⟨ob,vb,bb,nb,hob,_,hdb,h1',h2'⟩:=hy
 show wpAny _ _ (isInstance (.ref b) (.type "tuple")>>=_) _ _ s
 refine wpAny_bind (wpAny_isInstance hTb isSubtype_tuple_tuple ?_)
 simp only [Bool.not_true,Bool.false_eq_true,if_false]
 refine wpAny_bind (wpAny_tupleItemsOf hoa hda ?_)
 refine wpAny_bind (wpAny_tupleItemsOf hob hdb ?_)
 refine wpAny_bind ?_
 refine wpAny_forIn_list _
  (fun rest r s'=>r.1=none/\s'=s/\((rest=[(va,vb),(.ref ba,.ref bb)])∨(rest=[(.ref ba,.ref bb)]/\x.1=y.1)∨(rest=[]/\x=y)))
  _ ?_ ?_ _ _ ⟨rfl,rfl,.inl rfl⟩
 ·rintro⟨u,v⟩ rest r s' ⟨hr,rfl,(e|⟨e,e1⟩|⟨e,_⟩)⟩
  ·obtain⟨e2,rfl⟩:=List.cons.inj e
   cases e2
   refine wpAny_bind (knd.eqBool (a:=x.1) (b:=y.1) h1 h1' ?_)
   by_cases hk:x.1=y.1
   ·rw [decide_eq_true hk]
    simp only [Bool.not_true,Bool.false_eq_true,if_false]
    exact wpAny_pure ⟨by first|rfl|trivial,by first|rfl|trivial,by first|exact .inr (.inl ⟨rfl,hk⟩)|simp [hk]⟩
   ·rw [decide_eq_false hk]
    simp only [Bool.not_false,if_true]
    have hf:decide (x=y)=false:=decide_eq_false fun z=>hk (by rw [z])
    rw [hf]at h
    exact wpAny_bind (wpAny_pure (wpAny_pure (wpAny_pure h)))
  ·obtain⟨e2,rfl⟩:=List.cons.inj e
   cases e2
   refine wpAny_bind (wpAny_eqBool_tuple hu h2 h2' ?_)
   by_cases hk:x.2=y.2
   ·rw [decide_eq_true hk]
    simp only [Bool.not_true,Bool.false_eq_true,if_false]
    exact wpAny_pure ⟨by first|rfl|trivial,by first|rfl|trivial,by first|exact .inr (.inr ⟨rfl,Prod.ext e1 hk⟩)|simp [e1,hk,Prod.ext_iff]⟩
   ·rw [decide_eq_false hk]
    simp only [Bool.not_false,if_true]
    have hf:decide (x=y)=false:=decide_eq_false fun z=>hk (by rw [z])
    rw [hf]at h
    exact wpAny_bind (wpAny_pure (wpAny_pure (wpAny_pure h)))
  ·cases e
 ·rintro⟨r1,r2⟩ s' ⟨hr,rfl,(e|⟨e,_⟩|⟨_,e⟩)⟩
  ·cases e
  ·cases e
  ·simp only at hr
   subst hr
   refine wpAny_pure ?_
   rw [decide_eq_true e]at h
   exact h
theorem wpAny_eqBool_pair {x y:K×List K} {a b:Addr} {Q:Bool->Shared->Prop} (hu:A.units+1<cLine) (hx:IsPairKey knd s.heap x a) (hy:IsPairKey knd s.heap y b) (h:Q (decide (x=y)) s):
  wpAny (model prog w) A (eqBool (.ref a) (.ref b)) Q E s:=by
 unfold eqBool
 try with_reducible refine wpAny_holding ?_
 show wpAny _ _ (if(Value.ref a==Value.ref b)=true then _ else _) Q E s
 by_cases hab:(Value.ref a==Value.ref b)=true
 ·rw [if_pos hab]
  have e:a=b:=by have:=eq_of_beq hab;injection this
  subst e
  obtain rfl:=hx.inj hy
  exact wpAny_bind (wpAny_rule (wpAny_pure (by simpa using h)))
 ·rw [if_neg hab]
  exact wpAny_bind (wpAny_richCompare_same_room (op:= .Eq) hx.typeIs hy.typeIs F.slot_tuple_eq
   (wpAny_call_entry F.slot_tuple_eq hx.typeIs F.entry_tuple_eq (pair_eq_tree (by show A.units+1<cLine;exact hu) hx hy ⟨_,rfl,(fun e=>nomatch e),wpAny_truthy_bool h⟩) (F.args_tuple_eq_2 _ _)) (by omega))
theorem wpAny_eqIsQuiet_tupleN {n:Nat} {ks:List K} {a:Addr} {Q:Bool->Shared->Prop} (hk:IsTupleKey knd s.heap ks a) (h:Q true s):wpAny (model prog w) A (eqIsQuiet (n+1) (.ref a)) Q E s:=by
 have hT:=hk.typeIs
 obtain⟨o,items,m,ho,_,hd,hi⟩:=hk
 unfold eqIsQuiet
 refine wpAny_bind (wpAny_specialOf hT F.slot_tuple_eq.lookup ?_)
 show wpAny _ _ (isInstance (.ref a) (.type "tuple")>>=_) _ _ s
 refine wpAny_bind (wpAny_isInstance hT isSubtype_tuple_tuple ?_)
 simp only [Bool.not_true,Bool.false_eq_true,if_false]
 refine wpAny_bind (wpAny_seqItems ho hd ?_)
 refine wpAny_bind ?_
 show wpAny _ _ (forIn items _ _) _ _ s
 rw [<-Array.forIn_toList]
 refine wpAny_forIn_list _ (fun rest r s'=>r.1=none/\s'=s/\∀v∈rest,carriedByValue v=true) _ ?_ ?_ _ _ ⟨rfl,rfl,hi.byValue⟩
 ·rintro v rest r s' ⟨hr,rfl,hall⟩
  rw [eqIsQuiet_byValue _ (hall v List.mem_cons_self)]
  refine wpAny_bind (wpAny_pure ?_)
  simp only [Bool.not_true,Bool.false_eq_true,if_false]
  exact wpAny_pure ⟨rfl,rfl,fun u hu'=>hall u (List.mem_cons_of_mem _ hu')⟩
 ·rintro⟨r1,r2⟩ s' ⟨hr,rfl,_⟩
  simp only at hr
  subst hr
  exact wpAny_pure h
theorem wpAny_eqIsQuiet_pair {x:K×List K} {a:Addr} {Q:Bool->Shared->Prop} (hk:IsPairKey knd s.heap x a) (h:Q true s):wpAny (model prog w) A (eqIsQuiet 8 (.ref a)) Q E s:=by
 have hT:=hk.typeIs
 obtain⟨o,v,b,m,ho,_,hd,h1,h2⟩:=hk
 unfold eqIsQuiet
 refine wpAny_bind (wpAny_specialOf hT F.slot_tuple_eq.lookup ?_)
 show wpAny _ _ (isInstance (.ref a) (.type "tuple")>>=_) _ _ s
 refine wpAny_bind (wpAny_isInstance hT isSubtype_tuple_tuple ?_)
 simp only [Bool.not_true,Bool.false_eq_true,if_false]
 refine wpAny_bind (wpAny_seqItems ho hd ?_)
 refine wpAny_bind ?_
 show wpAny _ _ (forIn _ _ _) _ _ s
 rw [<-Array.forIn_toList]
 refine wpAny_forIn_list _ (fun rest r s'=>r.1=none/\s'=s/\∀u∈rest,u=v∨u= .ref b) _ ?_ ?_ _ _ ⟨rfl,rfl,fun u hu=>by simpa using hu⟩
 ·rintro u rest r s' ⟨hr,rfl,hall⟩
  rcases hall u List.mem_cons_self with rfl|rfl
  ·rw [eqIsQuiet_byValue _ (knd.byValue _ _ h1)]
   refine wpAny_bind (wpAny_pure ?_)
   simp only [Bool.not_true,Bool.false_eq_true,if_false]
   exact wpAny_pure ⟨rfl,rfl,fun u hu'=>hall u (List.mem_cons_of_mem _ hu')⟩
  ·refine wpAny_bind (wpAny_eqIsQuiet_tupleN h2 ?_)
   simp only [Bool.not_true,Bool.false_eq_true,if_false]
   exact wpAny_pure ⟨rfl,rfl,fun u hu'=>hall u (List.mem_cons_of_mem _ hu')⟩
 ·rintro⟨r1,r2⟩ s' ⟨hr,rfl,_⟩
  simp only at hr
  subst hr
  exact wpAny_pure h
end
def pairKind {prog:Program} {w:World} {K:Type} [DecidableEq K] (knd:KeyKind prog w K):HeapKind prog w (K×List K) where
 is:=IsPairKey knd
 hash:=pairKeyHash knd
 draws:=fun x=>x.2.length+3
 room:=fun A=>A.units+1<cLine
 inj:=fun hx hy=>hx.inj hy
 keeps:=fun x ho hd hs=>x.keeps ho hd hs
 pyHash:=fun hu hk h=>wpAny_pyHash_pair hu hk h
 eqBool:=fun hu hx hy h=>wpAny_eqBool_pair hu hx hy h
 quiet:=fun hk h=>wpAny_eqIsQuiet_pair hk h
end PySem
namespace PySem
open Sem (wp)
theorem getAttrQ_miss_list {prog:Program} {w:World} {A:Around} {E:Value->Shared->Prop} {s:Shared} {a:Addr} {o:Obj} {xs:Array Value} {k:Nat} {name:Str} {Q:Option Value->Shared->Prop}
  (hx:s.heap.get? a=some o) (hc:o.cls= .type "list") (hdat:o.data= .seq xs k) (hd:o.dict=none) (hmiss:typeLookup (.type "list") name=pure none) (hname:(["__module__","__name__","__qualname__","__doc__","__annotations__"]:List Str).contains name=false) (hA:A.handled=none)
  (h:∀h' tk e,Heap.NewExcOf s.heap h' e "AttributeError"->Q none {s with heap:=h',toks:=tk}) (hsz:name.length+100<=sizeLine:=by size_fits):
  wpAny (model prog w) A (getAttr? (.ref a) name) Q E s:=by
 obtain⟨c,dct,dat,sl⟩:=o
 simp only at hc hdat hd
 subst hc hdat hd
 obtain⟨hp,g,d,tk,os⟩:=s
 have hT:∀tk',(⟨hp,g,d,tk',os⟩:Shared).TypeIs (.ref a) "list":=fun _=>⟨_,hx,rfl⟩
 have f1:=sub_AttributeError
 have f3:=F.slot_list_getattribute.lookup
 have f4:=F.slot_list_getattribute.bind (.ref a)
 have f5:=am_list_getattr_none
 unfold getAttr? getAttrBy? getAttrBy
 repeat (any_goals (first|assumption|exact hT _|((with_reducible show wpAny _ _ (call (Value.builtin "list.__getattribute__") _ _) _ _ _);refine call_meets F.slot_list_getattribute (hT _) am_entry_list_getattribute (F.args_list_getattribute_2 _ _) (meets_getattribute_miss_list a xs k sl name _ hmiss hname hsz) ⟨hx,hA,fun h' tk' e hx'=>?_⟩)|wp_step))
 obtain⟨t',u',he⟩:=hx'.there
 show wpAny _ _ (getattributeRaised _ _ _ _ _ _ _) _ _ _
 unfold getattributeRaised
 repeat (any_goals (first|assumption|wp_step))
 exact h _ _ _ hx'.of
end PySem
namespace PySem
namespace SetTable
def leaps (mask:Nat):Nat->Nat×Nat->Nat×Nat
 |0,p=>p
 |m+1,p=>leaps mask m (leap mask p.1 p.2)
theorem leaps_perturb (mask:Nat):∀m p,(leaps mask m p).2=p.2 / 32 ^ m
 |0,p=>by rw [leaps,Nat.pow_zero,Nat.div_one]
 |m+1,p=>by
  rw [leaps,leaps_perturb mask m]
  show p.2 / 32 / 32 ^ m=_
  rw [Nat.div_div_eq_div_mul,Nat.pow_succ,Nat.mul_comm]
theorem leaps_add (mask:Nat):∀m k p,leaps mask (m+k) p=leaps mask k (leaps mask m p)
 |0,k,p=>by rw [Nat.zero_add,leaps]
 |m+1,k,p=>by rw [Nat.succ_add,leaps,leaps_add mask m k,leaps]
def five (mask i:Nat):Nat:=(i*5+1) % (mask+1)
def fives (mask:Nat):Nat->Nat->Nat
 |0,i=>i
 |m+1,i=>fives mask m (five mask i)
theorem leaps_five (mask:Nat):∀m i,(leaps mask m (i,0))=(fives mask m i,0)
 |0,i=>rfl
 |m+1,i=>by
  rw [leaps,fives]
  show leaps mask m ((i*5+1+0 / 32) % (mask+1),0 / 32)=_
  rw [Nat.zero_div,Nat.add_zero]
  exact leaps_five mask m (five mask i)
theorem leaps_lt (mask:Nat):∀m p,(leaps mask (m+1) p).1<=mask
 |0,p=>by
  show(p.1*5+1+p.2 / 32) % (mask+1)<=mask
  have:=Nat.mod_lt (p.1*5+1+p.2 / 32) (show 0<mask+1 by omega)
  omega
 |m+1,p=>by rw [leaps];exact leaps_lt mask m _
def Round (mask:Nat):Prop:=∀i,i<=mask->∀e,e<=mask->∃k,k<=mask/\fives mask (k+1) i=e
theorem round_of {mask:Nat} (h:∀i:_root_.Fin (mask+1),∀e:_root_.Fin (mask+1),∃k:_root_.Fin (mask+1),fives mask (k.1+1) i.1=e.1):Round mask:=fun i hi e he=>by
 obtain⟨k,hk⟩:=h ⟨i,by omega⟩ ⟨e,by omega⟩
 exact⟨k.1,by omega,hk⟩
theorem round7:Round 7:=round_of (by decide+kernel)
theorem round31:Round 31:=round_of (by decide+kernel)
theorem leaps_meet {mask:Nat} (R:Round mask) {e:Nat} (he:e<=mask) (i perturb:Nat) (hp:perturb<2 ^ 64):∃L,1<=L/\L<=mask+14/\(leaps mask L (i,perturb)).1=e:=by
 have h13:(leaps mask 13 (i,perturb)).2=0:=by
  rw [leaps_perturb]
  exact Nat.div_eq_of_lt (Nat.lt_of_lt_of_le hp (by decide))
 have hi:=leaps_lt mask 12 (i,perturb)
 obtain⟨k,hk,e1⟩:=R _ hi e he
 refine⟨13+(k+1),by omega,by omega,?_⟩
 rw [leaps_add]
 have e2:leaps mask 13 (i,perturb)=((leaps mask 13 (i,perturb)).1,0):=Prod.ext rfl h13
 rw [e2,leaps_five]
 exact e1
variable {t:SetTable} {hashAt:Nat->Int} {h:Int}
theorem run_le (mask i:Nat):runEnd mask i-i<=9:=by unfold runEnd;split<;>omega
theorem go_some {e:Nat} (hd:∀j,t.slot j≠ .dummy) (he:t.slot e= .empty):∀(fuel:Nat) (p:Probe) (L:Nat),1<=L->(leaps t.mask L (p.i,p.perturb)).1=e->p.more+2+10*(L-1)<=fuel->∃m,probe.go t hashAt h fuel p=some m:=by
 intro fuel
 induction fuel with
 |zero=>intro p L h1 _ h3;omega
 |succ fuel ih=>
  intro p L h1 h2 h3
  have step:∃m,probe.go t hashAt h fuel (t.advance p)=some m:=by
   unfold advance
   by_cases hm:p.more>0
   ·rw [if_pos hm]
    exact ih _ L h1 h2 (by show p.more-1+2+10*(L-1)<=fuel;omega)
   ·rw [if_neg hm]
    match L,h1 with
    |1,_=>
     have h4:(leap t.mask p.i p.perturb).1=e:=h2
     cases fuel with
     |zero=>omega
     |succ f=>
      show∃m,(match t.slot (leap t.mask p.i p.perturb).1 with| .empty=>_| .dummy=>_| .live i=>_)=some m
      rw [h4,he]
      exact⟨_,rfl⟩
    |L+2,_=>
     have hr:=run_le t.mask (leap t.mask p.i p.perturb).1
     exact ih _ (L+1) (by omega) h2 (by show runEnd t.mask (leap t.mask p.i p.perturb).1-(leap t.mask p.i p.perturb).1+2+10*(L+1-1)<=fuel;omega)
  show∃m,(match t.slot p.j with| .empty=>some (.empty p.j p.dummy)| .dummy=>probe.go t hashAt h fuel (t.advance {p with dummy:=some p.j})| .live i=>if(hashAt i==h)=true then some (.candidate p.j i (t.advance p))else probe.go t hashAt h fuel (t.advance p))=some m
  cases hs:t.slot p.j with
  |empty=>exact⟨_,rfl⟩
  |dummy=>exact absurd hs (hd _)
  |live i=>
   by_cases hh:(hashAt i==h)=true
   ·exact⟨_,if_pos hh⟩
   ·obtain⟨m,hm⟩:=step
    exact⟨m,by simp only;rw [if_neg hh];exact hm⟩
theorem probe_some {e:Nat} (R:Round t.mask) (he:e<=t.mask) (hd:∀j,t.slot j≠ .dummy) (hs:t.slot e= .empty) (p:Probe) (hp:p.perturb<2 ^ 64) (hm:p.more<=9):∃m,t.probe hashAt h p=some m:=by
 obtain⟨L,h1,h2,h3⟩:=leaps_meet R he p.i p.perturb hp
 refine go_some hd hs _ p L h1 h3 ?_
 unfold turns
 omega
def Rise (xs:Array Nat):Prop:=∀i k,i<k->k<xs.size->xs.getD i 0<xs.getD k 0
theorem getD_any {xs:Array Nat} {i a b:Nat} (h:i<xs.size):xs.getD i a=xs.getD i b:=by simp [Array.getD,h]
theorem below_go {xs:Array Nat} {j:Nat} (R:Rise xs):∀(fuel lo hi:Nat),lo<=hi->hi<=xs.size->hi-lo<=fuel->(∀i,i<lo->xs.getD i 0<j)->(∀i,hi<=i->i<xs.size->j<=xs.getD i 0)->
  below.go xs j fuel lo hi<=xs.size/\(∀i,i<below.go xs j fuel lo hi->xs.getD i 0<j)/\∀i,below.go xs j fuel lo hi<=i->i<xs.size->j<=xs.getD i 0:=by
 intro fuel
 induction fuel with
 |zero=>
  intro lo hi h1 h2 h3 a b
  have:lo=hi:=by omega
  subst this
  exact⟨h2,a,b⟩
 |succ fuel ih=>
  intro lo hi h1 h2 h3 a b
  have key:below.go xs j (fuel+1) lo hi=if lo<hi then(if xs.getD ((lo+hi) / 2) j<j then below.go xs j fuel ((lo+hi) / 2+1) hi else below.go xs j fuel lo ((lo+hi) / 2))else lo:=rfl
  rw [key]
  by_cases hl:lo<hi
  ·have hm:(lo+hi) / 2<xs.size:=by omega
   rw [if_pos hl]
   by_cases hx:xs.getD ((lo+hi) / 2) j<j
   ·rw [if_pos hx]
    refine ih _ _ (by omega) h2 (by omega) (fun i hi'=>?_) b
    by_cases e:i=(lo+hi) / 2
    ·subst e;rw [getD_any hm (b:=j)];exact hx
    ·have:=R i ((lo+hi) / 2) (by omega) hm
     rw [getD_any hm (b:=j)]at this
     omega
   ·rw [if_neg hx]
    refine ih _ _ (by omega) (by omega) (by omega) a fun i hi' hs=>?_
    rw [getD_any hm (b:=0)]at hx
    by_cases e:i=(lo+hi) / 2
    ·subst e;omega
    ·have:=R ((lo+hi) / 2) i (by omega) hs
     omega
  ·have:lo=hi:=by omega
   subst this
   rw [if_neg hl]
   exact⟨h2,a,b⟩
theorem below_spec {xs:Array Nat} (R:Rise xs) (j:Nat):below xs j<=xs.size/\(∀i,i<below xs j->xs.getD i 0<j)/\∀i,below xs j<=i->i<xs.size->j<=xs.getD i 0:=
 below_go R _ _ _ (Nat.zero_le _) (Nat.le_refl _) (by omega) (fun i h=>absurd h (Nat.not_lt_zero i)) fun i h1 h2=>by omega
theorem below_at {xs:Array Nat} (R:Rise xs) {i:Nat} (h:i<xs.size):below xs (xs.getD i 0)=i:=by
 obtain⟨_,h2,h3⟩:=below_spec R (xs.getD i 0)
 rcases Nat.lt_trichotomy (below xs (xs.getD i 0)) i with z|z|z
 ·have:=h3 (below xs (xs.getD i 0)) (Nat.le_refl _) (by omega)
  have:=R _ i z h
  omega
 ·exact z
 ·have:=h2 i z
  omega
theorem get_getD {xs:Array Nat} {i j:Nat}:xs[i]? =some j↔i<xs.size/\xs.getD i 0=j:=by
 by_cases h:i<xs.size
 ·simp [Array.getD,h]
 ·simp [h]
theorem slot_live (R:Rise t.place) {i j:Nat} (h:t.place[i]? =some j):t.slot j= .live i:=by
 obtain⟨h1,rfl⟩:=get_getD.mp h
 unfold slot
 dsimp only
 rw [below_at R h1,h]
 simp
theorem slot_other (hd:t.dummies= #[]) {j:Nat} (h:∀i:Nat,t.place[i]? ≠some j):t.slot j= .empty:=by
 unfold slot
 dsimp only
 have h1:(t.place[below t.place j]? ==some j)=false:=beq_eq_false_iff_ne.mpr (h _)
 rw [h1]
 have h2:has t.dummies j=false:=by rw [hd];unfold has;simp
 rw [h2]
 rfl
theorem slot_cases (hd:t.dummies= #[]) (j:Nat):t.slot j= .empty∨∃i:Nat,t.slot j= .live i/\t.place[i]? =some j:=by
 by_cases h:t.place[below t.place j]? =some j
 ·refine .inr ⟨below t.place j,?_,h⟩
  unfold slot
  dsimp only
  rw [h]
  simp
 ·refine .inl ?_
  unfold slot
  dsimp only
  have h1:(t.place[below t.place j]? ==some j)=false:=beq_eq_false_iff_ne.mpr h
  rw [h1]
  have h2:has t.dummies j=false:=by rw [hd];unfold has;simp
  rw [h2]
  rfl
theorem slot_nodummy (hd:t.dummies= #[]) (j:Nat):t.slot j≠ .dummy:=by
 rcases slot_cases hd j with e|⟨i,e,_⟩<;>rw [e]<;>intro z<;>cases z
theorem some_empty (hd:t.dummies= #[]) (hs:t.place.size<=t.mask):∃e,e<=t.mask/\t.slot e= .empty:=by
 refine Classical.byContradiction fun no=>?_
 have all:∀e,e<=t.mask->∃i:Nat,t.place[i]? =some e:=fun e he=>by
  rcases slot_cases hd e with z|⟨i,_,z⟩
  ·exact absurd ⟨e,he,z⟩ no
  ·exact⟨i,z⟩
 have sub:List.range (t.mask+1) ⊆ t.place.toList:=fun e he=>by
  obtain⟨i,hi⟩:=all e (by have:=List.mem_range.mp he;omega)
  obtain⟨h1,h2⟩:=Array.getElem?_eq_some_iff.mp hi
  rw [<-h2]
  simp
 have:=(List.nodup_range (n:=t.mask+1)).length_le_of_subset sub
 rw [List.length_range,Array.length_toList]at this
 omega
theorem search_some (R:Round t.mask) (hd:t.dummies= #[]) (hs:t.place.size<=t.mask) (p:Probe) (hp:p.perturb<2 ^ 64) (hm:p.more<=9):∃m,t.probe hashAt h p=some m:=by
 obtain⟨e,he,h1⟩:=some_empty hd hs
 exact probe_some R he (slot_nodummy hd) h1 p hp hm
def adv (mask:Nat) (p:Probe):Probe:=if p.more>0 then{p with j:=p.j+1,more:=p.more-1}else{p with j:=(leap mask p.i p.perturb).1,more:=runEnd mask (leap mask p.i p.perturb).1-(leap mask p.i p.perturb).1,i:=(leap mask p.i p.perturb).1,perturb:=(leap mask p.i p.perturb).2}
def advs (mask:Nat):Nat->Probe->Probe
 |0,p=>p
 |n+1,p=>advs mask n (adv mask p)
theorem advs_add (mask:Nat):∀m k p,advs mask (m+k) p=advs mask k (advs mask m p)
 |0,k,p=>by rw [Nat.zero_add,advs]
 |m+1,k,p=>by rw [Nat.succ_add,advs,advs_add mask m k,advs]
theorem adv_dummy (mask:Nat) (p:Probe):(adv mask p).dummy=p.dummy:=by unfold adv;split<;>rfl
theorem go_eq (fuel:Nat) (p:Probe):probe.go t hashAt h (fuel+1) p=match t.slot p.j with| .empty=>some (.empty p.j p.dummy)| .dummy=>probe.go t hashAt h fuel (t.advance {p with dummy:=some p.j})| .live i=>if(hashAt i==h)=true then some (.candidate p.j i (t.advance p))else probe.go t hashAt h fuel (t.advance p):=rfl
theorem go_spec (hd:∀j,t.slot j≠ .dummy):∀(fuel:Nat) (p:Probe) (N:Nat),t.slot (advs t.mask N p).j= .empty->N<fuel->p.dummy=none->
    ∃n,n<=N/\(∀m,m<n->∃i,t.slot (advs t.mask m p).j= .live i/\hashAt i≠h)/\
      ((t.slot (advs t.mask n p).j= .empty/\probe.go t hashAt h fuel p=some (.empty (advs t.mask n p).j none))∨
       ∃i,t.slot (advs t.mask n p).j= .live i/\hashAt i=h/\probe.go t hashAt h fuel p=some (.candidate (advs t.mask n p).j i (advs t.mask (n+1) p))):=by
  intro fuel
  induction fuel with
  |zero=>intro p N _ h2;omega
  |succ fuel ih=>
    intro p N h1 h2 h3
    rw [go_eq]
    cases hs:t.slot p.j with
    |empty=>exact⟨0,Nat.zero_le _,fun m hm=>absurd hm (Nat.not_lt_zero m),.inl ⟨hs,by rw [h3];rfl⟩⟩
    |dummy=>exact absurd hs (hd _)
    |live i=>
      by_cases hh:hashAt i=h
      · exact⟨0,Nat.zero_le _,fun m hm=>absurd hm (Nat.not_lt_zero m),.inr ⟨i,hs,hh,by dsimp only;rw [if_pos (beq_iff_eq.mpr hh)];rfl⟩⟩
      · cases N with
        |zero=>
          have h1':t.slot p.j= .empty:=h1
          rw [hs]at h1'
          cases h1'
        |succ N=>
          obtain⟨n,a1,a2,a3⟩:=ih (adv t.mask p) N h1 (by omega) (by rw [adv_dummy];exact h3)
          have hb:¬(hashAt i==h)=true:=fun z=>hh (beq_iff_eq.mp z)
          refine⟨n+1,by omega,fun m hm=>?_,?_⟩
          · cases m with
            |zero=>exact⟨i,hs,hh⟩
            |succ m=>exact a2 m (by omega)
          · rcases a3 with ⟨b1,b2⟩|⟨i',b1,b2,b3⟩
            · exact .inl ⟨b1,by dsimp only;rw [if_neg hb];exact b2⟩
            · exact .inr ⟨i',b1,b2,by dsimp only;rw [if_neg hb];exact b3⟩
theorem go_empty (hn:∀i,hashAt i≠h) (hd:∀j,t.slot j≠ .dummy):∀(fuel:Nat) (p:Probe) (m:Met),probe.go t hashAt h fuel p=some m->∃N,N<fuel/\t.slot (advs t.mask N p).j= .empty:=by
 intro fuel
 induction fuel with
 |zero=>intro p m e;cases e
 |succ fuel ih=>
  intro p m e
  rw [go_eq]at e
  cases hs:t.slot p.j with
  |empty=>exact⟨0,Nat.succ_pos _,hs⟩
  |dummy=>exact absurd hs (hd _)
  |live i=>
   rw [hs]at e
   dsimp only at e
   rw [if_neg (fun z=>hn i (beq_iff_eq.mp z))]at e
   obtain⟨N,h1,h2⟩:=ih _ _ e
   exact⟨N+1,by omega,h2⟩
theorem empty_near (R:Round t.mask) (hd:t.dummies= #[]) (hs:t.place.size<=t.mask) (p:Probe) (hp:p.perturb<2 ^ 64) (hm:p.more<=9):∃N,N<10*turns t.mask/\t.slot (advs t.mask N p).j= .empty:=by
 obtain⟨m,e⟩:=search_some (hashAt:=fun _=>1) (h:=0) R hd hs p hp hm
 exact go_empty (hashAt:=fun _=>1) (h:=0) (fun _=>by decide) (slot_nodummy hd) _ p m e
theorem start_ok (t:SetTable) (h:Int):(t.probeStart h).perturb<2 ^ 64/\(t.probeStart h).more<=9:=by
 refine⟨?_,run_le _ _⟩
 show bits h<2 ^ 64
 unfold bits
 have h1:=Int.emod_nonneg h (show((2:Int) ^ 64)≠0 by decide)
 have h2:=Int.emod_lt_of_pos h (show(0:Int)<2 ^ 64 by decide)
 omega
def OnWay (t:SetTable) (h:Int) (j:Nat):Prop:=∃n,(advs t.mask n (t.probeStart h)).j=j/\∀m,m<n->t.slot (advs t.mask m (t.probeStart h)).j≠ .empty
theorem OnWay.ahead {j N:Nat} (w:OnWay t h j) (hj:t.slot j≠ .empty) (hN:t.slot (advs t.mask N (t.probeStart h)).j= .empty):∃n,n<N/\(advs t.mask n (t.probeStart h)).j=j:=by
 obtain⟨n,e,a⟩:=w
 rcases Nat.lt_trichotomy n N with z|z|z
 ·exact⟨n,z,e⟩
 ·subst z
  rw [e]at hN
  exact absurd hN hj
 ·exact absurd hN (a N z)
theorem insertAt_toList {α:Type} (xs:Array α) (p:Nat) (x:α):(insertAt xs p x).toList=xs.toList.take p++x::xs.toList.drop p:=by
 unfold insertAt
 simp [Array.toList_extract]
 exact List.take_of_length_le (by simp)
theorem rise_iff {xs:Array Nat}:Rise xs↔xs.toList.Pairwise (·<·):=by
 rw [List.pairwise_iff_getElem]
 constructor
 ·intro R i k hi hk hik
  have h2:k<xs.size:=by simpa using hk
  have:=R i k hik h2
  have h1:i<xs.size:=by omega
  simpa [Array.getD,h1,h2]using this
 ·intro R i k hik hk
  have h1:i<xs.size:=by omega
  have:=R i k (by simpa using h1) (by simpa using hk) hik
  simpa [Array.getD,h1,hk]using this
theorem mem_place {j:Nat}:(∃i:Nat,t.place[i]? =some j)↔j∈t.place.toList:=by
 rw [List.mem_iff_getElem?]
 simp
theorem slot_empty_iff (R:Rise t.place) (hd:t.dummies= #[]) {j:Nat}:t.slot j= .empty↔j∉t.place.toList:=by
 rw [<-mem_place]
 constructor
 ·rintro e ⟨i,hi⟩
  rw [slot_live R hi]at e
  cases e
 ·intro no
  exact slot_other hd fun i z=>no ⟨i,z⟩
theorem put_rise (R:Rise t.place) {j:Nat} (hj:j∉t.place.toList):Rise (insertAt t.place (below t.place j) j):=by
 obtain⟨hb,h1,h2⟩:=below_spec R j
 rw [rise_iff,insertAt_toList]
 have Rl:=rise_iff.mp R
 have lo:∀x∈t.place.toList.take (below t.place j),x<j:=fun x hx=>by
  obtain⟨i,hi,e⟩:=List.getElem_of_mem hx
  rw [List.length_take]at hi
  rw [List.getElem_take]at e
  have hs:i<t.place.size:=by simp at hi;omega
  have:=h1 i (by omega)
  rw [<-e]
  simpa [Array.getD,hs]using this
 have hi':∀x∈t.place.toList.drop (below t.place j),j<x:=fun x hx=>by
  have hm:x∈t.place.toList:=List.mem_of_mem_drop hx
  obtain⟨i,hi,e⟩:=List.getElem_of_mem hx
  rw [List.length_drop]at hi
  rw [List.getElem_drop]at e
  have hs:below t.place j+i<t.place.size:=by simp at hi;omega
  have:=h2 (below t.place j+i) (by omega) hs
  have h3:j<=x:=by rw [<-e];simpa [Array.getD,hs]using this
  have h4:j≠x:=fun z=>hj (z▸hm)
  omega
 rw [List.pairwise_append]
 refine⟨Rl.sublist (List.take_sublist _ _),List.pairwise_cons.mpr ⟨hi',Rl.sublist (List.drop_sublist _ _)⟩,fun x hx y hy=>?_⟩
 have:=lo x hx
 rcases List.mem_cons.mp hy with e|m
 ·omega
 ·have:=hi' y m;omega
theorem put_eq (hd:t.dummies= #[]) (j:Nat):t.put j=({t with place:=insertAt t.place (below t.place j) j},below t.place j):=by
 unfold put
 have h2:has t.dummies j=false:=by rw [hd];unfold has;simp
 rw [h2]
 rfl
theorem mem_insert {xs:Array Nat} {p j x:Nat}:x∈(insertAt xs p j).toList↔x=j∨x∈xs.toList:=by
 rw [insertAt_toList,List.mem_append,List.mem_cons]
 constructor
 ·rintro(h|h|h)
  ·exact .inr (List.mem_of_mem_take h)
  ·exact .inl h
  ·exact .inr (List.mem_of_mem_drop h)
 ·rintro(h|h)
  ·exact .inr (.inl h)
  ·rw [<-List.take_append_drop p xs.toList]at h
   rcases List.mem_append.mp h with h|h
   ·exact .inl h
   ·exact .inr (.inr h)
theorem insert_size {α:Type} (xs:Array α) {p:Nat} (x:α) (h:p<=xs.size):(insertAt xs p x).size=xs.size+1:=by
 rw [<-Array.length_toList,insertAt_toList,List.length_append,List.length_cons,List.length_take,List.length_drop,Array.length_toList]
 omega
structure Good (t:SetTable):Prop where
 dum:t.dummies= #[]
 rise:Rise t.place
 low:∀j∈t.place.toList,j<=t.mask
 room:t.place.size<=t.mask
 round:Round t.mask
theorem Good.put (G:Good t) {j:Nat} (hj:t.slot j= .empty) (hl:j<=t.mask) (hr:t.place.size+1<=t.mask):Good (t.put j).1:=by
 rw [put_eq G.dum]
 have nj:=(slot_empty_iff G.rise G.dum).mp hj
 refine⟨G.dum,put_rise G.rise nj,fun x hx=>?_,?_,G.round⟩
 ·rcases mem_insert.mp hx with e|m
  ·rw [e];exact hl
  ·exact G.low x m
 ·show(insertAt t.place (below t.place j) j).size<=t.mask
  rw [insert_size _ _ (below_spec G.rise j).1]
  exact hr
theorem Good.put_empty (G:Good t) {j:Nat} (hj:t.slot j= .empty) (x:Nat):(t.put j).1.slot x= .empty↔t.slot x= .empty/\x≠j:=by
 have nj:=(slot_empty_iff G.rise G.dum).mp hj
 rw [put_eq G.dum]
 rw [slot_empty_iff (t:={t with place:=insertAt t.place (below t.place j) j}) (put_rise G.rise nj) G.dum,slot_empty_iff G.rise G.dum]
 show x∉(insertAt t.place (below t.place j) j).toList↔_
 rw [mem_insert,not_or]
 exact⟨fun z=>⟨z.2,z.1⟩,fun z=>⟨z.2,z.1⟩⟩
theorem OnWay.put (G:Good t) {j x:Nat} (hj:t.slot j= .empty) (w:OnWay t h x):OnWay (t.put j).1 h x:=by
 obtain⟨n,e,a⟩:=w
 have em:(t.put j).1.mask=t.mask:=by rw [put_eq G.dum]
 have es:(t.put j).1.probeStart h=t.probeStart h:=by rw [put_eq G.dum];rfl
 refine⟨n,by rw [em,es];exact e,fun m hm z=>?_⟩
 rw [em,es]at z
 exact a m hm ((G.put_empty hj _).mp z).1
theorem OnWay.new (G:Good t) {N:Nat} (hj:t.slot (advs t.mask N (t.probeStart h)).j= .empty) (a:∀m,m<N->t.slot (advs t.mask m (t.probeStart h)).j≠ .empty):OnWay (t.put (advs t.mask N (t.probeStart h)).j).1 h (advs t.mask N (t.probeStart h)).j:=by
 have em:(t.put (advs t.mask N (t.probeStart h)).j).1.mask=t.mask:=by rw [put_eq G.dum]
 have es:(t.put (advs t.mask N (t.probeStart h)).j).1.probeStart h=t.probeStart h:=by rw [put_eq G.dum];rfl
 refine⟨N,by rw [em,es],fun m hm z=>?_⟩
 rw [em,es]at z
 exact a m hm ((G.put_empty hj _).mp z).1
end SetTable
end PySem
namespace PySem
open Sem (wp)
section
variable {prog:Program} {w:World} {K:Type} [DecidableEq K] (knd:HeapKind prog w K)
structure SetAt (s:Shared) (a:Addr) (o:Obj) (es:Array (Int×Value)) (ep:Nat) (t:SetTable) (xs:List (K×Addr)):Prop where
 ho:s.heap.get? a=some o
 hex:o.ExactSet
 hd:o.data= .set es ep t
 he:es.toList=xs.map fun x=>(knd.hash x.1,Value.ref x.2)
 good:t.Good
 size:t.place.size=es.size
 keys:∀x∈xs,knd.is s.heap x.1 x.2
 nd:(xs.map (·.1)).Nodup
 way:∀(i j:Nat) (x:K×Addr),t.place[i]? =some j->xs[i]? =some x->SetTable.OnWay t (knd.hash x.1) j
variable {knd} {A:Around} {E:Value->Shared->Prop} {s:Shared} {a b:Addr} {o:Obj} {es:Array (Int×Value)} {ep:Nat} {t:SetTable} {xs:List (K×Addr)} {k:K}
structure SetKd (knd:HeapKind prog w K):Prop where
 mono:∀{h h':Heap} {k:K} {c:Addr},knd.is h k c->(∀b o,o.cls= .type "tuple"->h.get? b=some o->h'.get? b=some o)->knd.is h' k c
 byValue:∀{A:Around} {E:Value->Shared->Prop} {s:Shared} {k:K} {c:Addr} {Q:Bool->Shared->Prop},knd.is s.heap k c->Q true s->wpAny (model prog w) A (hashByValue 8 (.ref c)) Q E s
 plain:∀{A:Around} {E:Value->Shared->Prop} {s:Shared} {k:K} {c:Addr} {Q:Bool->Shared->Prop},knd.is s.heap k c->Q false s->wpAny (model prog w) A (ofAClassStatement 8 (.ref c)) Q E s
theorem SetKd.keep (D:SetKd knd) {h h':Heap} {k:K} {c d:Addr} {o:Obj} (hx:knd.is h k c) (ho:h.get? d=some o) (hex:o.ExactSet) (sb:Heap.SameBut d h h'):knd.is h' k c:=D.mono hx fun b o' hc e=>by
 have ne:b≠d:=by
  rintro rfl
  rw [ho]at e
  cases e
  rw [hex.1]at hc
  exact absurd hc (by decide)
 rw [sb.2 b ne]
 exact e
theorem wpAny_seen_heap (D:SetKd knd) (hkey:knd.is s.heap k b) {ys:List Value} (hy:∀y∈ys,∃x c,y=Value.ref c/\knd.is s.heap x c) {Q:Bool->Shared->Prop} (h:Q false s):wpAny (model prog w) A (searchCouldBeSeen (.ref b) ys) Q E s:=by
 unfold searchCouldBeSeen
 refine wpAny_bind ?_
 refine wpAny_forIn_list _ (fun rest r s'=>r.1=none/\s'=s/\∀v∈rest,∃x c,v=Value.ref c/\knd.is s.heap x c) _ ?_ ?_ _ _ ⟨rfl,rfl,hy⟩
 ·rintro v rest r s' ⟨hr,rfl,hall⟩
  obtain⟨x,c,rfl,hx⟩:=hall v List.mem_cons_self
  dsimp only
  have nx:∀u∈rest,∃x c,u=Value.ref c/\knd.is s'.heap x c:=fun u hu=>hall u (List.mem_cons_of_mem _ hu)
  split
  ·exact wpAny_pure ⟨rfl,rfl,nx⟩
  ·refine wpAny_bind (knd.quiet hkey ?_)
   simp only [Bool.not_true,Bool.false_eq_true,if_false]
   refine wpAny_bind (knd.quiet hx ?_)
   simp only [Bool.not_true,Bool.false_eq_true,if_false]
   refine wpAny_bind (D.plain hkey ?_)
   simp only [Bool.false_eq_true,if_false]
   refine wpAny_bind (D.plain hx ?_)
   simp only [Bool.false_eq_true,if_false]
   exact wpAny_pure ⟨rfl,rfl,nx⟩
 ·rintro⟨r1,r2⟩ s' ⟨hr,rfl,_⟩
  simp only at hr
  subst hr
  exact wpAny_pure h
theorem SetAt.fits (S:SetAt knd s a o es ep t xs):t.fits es.size=true:=by
 unfold SetTable.fits SetTable.fill
 have h1:=S.size
 have h2:=S.good.room
 rw [S.good.dum]
 simp [h1]
 omega
theorem SetAt.len (S:SetAt knd s a o es ep t xs):es.size=xs.length:=by rw [<-Array.length_toList,S.he,List.length_map]
theorem SetAt.entry (S:SetAt knd s a o es ep t xs) (i:Nat):es[i]? =(xs[i]?).map fun x=>(knd.hash x.1,Value.ref x.2):=by
 rw [<-Array.getElem?_toList,S.he,List.getElem?_map]
theorem SetAt.even (S:SetAt knd s a o es ep t xs) (hm:t.mask % 2=1):t.gaveWay=false:=by
 unfold SetTable.gaveWay
 rw [hm]
 rfl
theorem wpAny_search_heap (S:SetAt knd s a o es ep t xs) (hm:t.mask % 2=1) (D:SetKd knd) (hu:knd.room A) (hkey:knd.is s.heap k b) {N:Nat} (hN:t.slot (SetTable.advs t.mask N (t.probeStart (knd.hash k))).j= .empty) (hF:N<10*SetTable.turns t.mask)
  (first:∀m,m<N->t.slot (SetTable.advs t.mask m (t.probeStart (knd.hash k))).j≠ .empty) {Q:SetFound->Shared->Prop} (hold:(∃x∈xs,x.1=k)->Q (.there none) s) (hnew:(∀x∈xs,x.1≠k)->Q (.free (SetTable.advs t.mask N (t.probeStart (knd.hash k))).j false) s):
  ∀(fuel n:Nat) (stand:Option SetTable.Probe),stand.getD (t.probeStart (knd.hash k))=SetTable.advs t.mask n (t.probeStart (knd.hash k))->n<=N->N-n<fuel->(∀m,m<n->∃(i:Nat) (x:K×Addr),t.slot (SetTable.advs t.mask m (t.probeStart (knd.hash k))).j= .live i/\xs[i]? =some x/\x.1≠k)->
   wpAny (model prog w) A (setSearchFrom a (.ref b) (knd.hash k) true fuel stand) Q E s:=by
 intro fuel
 induction fuel with
 |zero=>intro n stand _ _ h3;omega
 |succ fuel ih=>
  intro n stand h1 h2 h3 past
  have dumA:∀m p,(SetTable.advs t.mask m p).dummy=p.dummy:=by
   intro m
   induction m with
   |zero=>intro p;rfl
   |succ m ih=>intro p;rw [SetTable.advs,ih,SetTable.adv_dummy]
  unfold setSearchFrom
  refine wpAny_bind (wpAny_setState_of S.ho S.hd S.fits ?_)
  dsimp only
  rw [S.even hm]
  simp only [Bool.false_eq_true,if_false]
  rw [h1]
  have comp:∀m,SetTable.advs t.mask m (SetTable.advs t.mask n (t.probeStart (knd.hash k)))=SetTable.advs t.mask (n+m) (t.probeStart (knd.hash k)):=fun m=>(SetTable.advs_add t.mask n m _).symm
  have ent:∀i:Nat,(es[i]?.map (·.1)).getD 0=((xs[i]?).map fun x=>knd.hash x.1).getD 0:=fun i=>by
   rw [S.entry i,Option.map_map]
   rfl
  have inx:∀(i j:Nat),t.slot j= .live i->∃x,xs[i]? =some x/\t.place[i]? =some j:=fun i j hs=>by
   rcases SetTable.slot_cases S.good.dum j with z|⟨i',z1,z2⟩
   ·rw [hs]at z;cases z
   ·rw [hs]at z1
    cases z1
    have hi:i<t.place.size:=(Array.getElem?_eq_some_iff.mp z2).1
    rw [S.size,S.len]at hi
    exact⟨xs[i],List.getElem?_eq_getElem hi,z2⟩
  obtain⟨n',a1,a2,a3⟩:=SetTable.go_spec (t:=t) (hashAt:=fun i:Nat=>(es[i]?.map (·.1)).getD 0) (h:=knd.hash k) (SetTable.slot_nodummy S.good.dum) (10*SetTable.turns t.mask) (SetTable.advs t.mask n (t.probeStart (knd.hash k))) (N-n) (by rw [comp,show n+(N-n)=N by omega];exact hN) (by omega) (by rw [dumA];rfl)
  rw [comp]at a3
  rcases a3 with ⟨b1,b2⟩|⟨i,b1,b2,b3⟩
  ·have eN:n+n'=N:=by
    rcases Nat.lt_or_ge (n+n') N with z|z
    ·exact absurd b1 (first _ z)
    ·omega
   have e:t.probe (fun i:Nat=>(es[i]?.map (·.1)).getD 0) (knd.hash k) (SetTable.advs t.mask n (t.probeStart (knd.hash k)))=some (.empty (SetTable.advs t.mask (n+n') (t.probeStart (knd.hash k))).j none):=b2
   erw [e]
   dsimp only
   rw [eN]
   refine wpAny_pure (hnew fun x hx ek=>?_)
   obtain⟨i,hi⟩:=List.mem_iff_getElem?.mp hx
   have his:i<t.place.size:=by rw [S.size,S.len];exact(List.getElem?_eq_some_iff.mp hi).1
   have hpl:t.place[i]? =some t.place[i]:=Array.getElem?_eq_getElem his
   have hsl:=SetTable.slot_live S.good.rise hpl
   have wy:=S.way i _ x hpl hi
   rw [ek]at wy
   obtain⟨m,hm1,hm2⟩:=wy.ahead (by rw [hsl];intro z;cases z) hN
   rcases Nat.lt_or_ge m n with z|z
   ·obtain⟨i',x',c1,c2,c3⟩:=past m z
    rw [hm2,hsl]at c1
    cases c1
    rw [hi]at c2
    cases c2
    exact c3 ek
   ·obtain⟨i',c1,c2⟩:=a2 (m-n) (by omega)
    rw [comp,show n+(m-n)=m by omega,hm2,hsl]at c1
    cases c1
    rw [ent,hi]at c2
    exact c2 (by rw [<-ek];rfl)
  ·obtain⟨x,hx,hpl⟩:=inx i _ b1
   have hxm:=List.mem_of_getElem? hx
   have e:t.probe (fun i:Nat=>(es[i]?.map (·.1)).getD 0) (knd.hash k) (SetTable.advs t.mask n (t.probeStart (knd.hash k)))=some (.candidate (SetTable.advs t.mask (n+n') (t.probeStart (knd.hash k))).j i (SetTable.advs t.mask (n'+1) (SetTable.advs t.mask n (t.probeStart (knd.hash k))))):=b3
   erw [e]
   dsimp only
   cases hl:t.led
   focus
    simp only [Bool.not_false,if_true]
    refine wpAny_bind (wpAny_seen_heap D hkey (fun y hy=>?_) ?_)
    obtain⟨e,he,rfl⟩:=List.mem_map.mp hy
    have he2:=(Array.mem_filter.mp (Array.mem_toList_iff.mp he)).1
    rw [<-Array.mem_toList_iff,S.he]at he2
    obtain⟨x',hx',rfl⟩:=List.mem_map.mp he2
    exact⟨_,_,rfl,S.keys x' hx'⟩
    simp only [Bool.false_eq_true,if_false]
   rotate_left
   focus
    simp only [Bool.not_true,Bool.false_eq_true,if_false]
   all_goals
    rw [S.entry i,hx]
    dsimp only [Option.map_some]
    refine wpAny_bind (wpAny_holding (knd.eqBool hu (S.keys x hxm) hkey ?_))
    refine wpAny_bind (wpAny_setState_of S.ho S.hd S.fits ?_)
    by_cases ek:x.1=k
    ·rw [decide_eq_true ek]
     simp only [Bool.and_self,if_true]
     exact wpAny_pure (hold ⟨x,hxm,ek⟩)
    ·rw [decide_eq_false ek]
     simp only [Bool.and_false,Bool.false_eq_true,if_false]
     have sm:t.sameMemory t.moves t.mask=some true:=by unfold SetTable.sameMemory;simp
     rw [sm]
     simp only [if_true]
     rw [b1]
     dsimp only
     rw [S.entry i,hx]
     dsimp only [Option.map_some]
     refine wpAny_bind (wpAny_isSame_ref_self ?_)
     simp only [if_true]
     refine wpAny_bind (wpAny_pure ?_)
     dsimp only
     have lt:n+n'<N:=by
      rcases Nat.lt_or_ge (n+n') N with z|z
      ·exact z
      ·have z2:n+n'=N:=by omega
       rw [z2,hN]at b1
       cases b1
     refine ih (n+(n'+1)) _ (by show SetTable.advs t.mask (n'+1) _=_;rw [comp]) (by omega) (by omega) fun m hm'=>?_
     rcases Nat.lt_or_ge m n with z|z
     ·exact past m z
     ·by_cases z2:m=n+n'
      ·subst z2
       exact⟨i,x,b1,hx,ek⟩
      ·obtain⟨i',c1,c2⟩:=a2 (m-n) (by omega)
       rw [comp,show n+(m-n)=m by omega]at c1
       obtain⟨x',hx',_⟩:=inx i' _ c1
       refine⟨i',x',c1,hx',fun ek'=>c2 ?_⟩
       rw [ent,hx', <-ek']
       rfl
theorem ExactSet_put {o:Obj} (es':Array (Int×Value)) (t':SetTable) (hd:o.data= .set es ep t) (h:o.ExactSet):(Obj.putSet es' t' o).ExactSet:=by
 rw [putSet_of es' t' hd]
 exact h
theorem get_ins {α:Type} {l:List α} {p i:Nat} {y x:α} (hp:p<=l.length) (h:(l.take p++x::l.drop p)[i]? =some y):(i<p/\l[i]? =some y)∨(i=p/\y=x)∨(p<i/\l[i-1]? =some y):=by
 have hlen:(l.take p).length=p:=by rw [List.length_take];omega
 rcases Nat.lt_trichotomy i p with z|z|z
 ·rw [List.getElem?_append_left (by omega),List.getElem?_take_of_lt z]at h
  exact .inl ⟨z,h⟩
 ·subst z
  rw [List.getElem?_append_right (by omega),hlen,Nat.sub_self]at h
  exact .inr (.inl ⟨rfl,(Option.some.inj h).symm⟩)
 ·rw [List.getElem?_append_right (by omega),hlen]at h
  obtain⟨d,rfl⟩:∃d,i=p+(d+1):=⟨i-p-1,by omega⟩
  rw [show p+(d+1)-p=d+1 by omega,List.getElem?_cons_succ,List.getElem?_drop]at h
  exact .inr (.inr ⟨by omega,by rw [show p+(d+1)-1=p+d by omega];exact h⟩)
theorem SetAt.add (S:SetAt knd s a o es ep t xs) (hkey:knd.is s.heap k b) (hn:∀x∈xs,x.1≠k) (hkeep:∀h',Heap.SameBut a s.heap h'->∀x c,knd.is s.heap x c->knd.is h' x c) {N:Nat} (hN:t.slot (SetTable.advs t.mask N (t.probeStart (knd.hash k))).j= .empty)
  (first:∀m,m<N->t.slot (SetTable.advs t.mask m (t.probeStart (knd.hash k))).j≠ .empty) (hl:(SetTable.advs t.mask N (t.probeStart (knd.hash k))).j<=t.mask) (hroom:t.place.size+1<=t.mask) {j p:Nat} (ej:j=(SetTable.advs t.mask N (t.probeStart (knd.hash k))).j) (epp:p=SetTable.below t.place j):
  SetAt knd {s with heap:=s.heap.update a (Obj.putSet (SetTable.insertAt es p (knd.hash k,.ref b)) (t.put j).1)} a (Obj.putSet (SetTable.insertAt es p (knd.hash k,.ref b)) (t.put j).1 o) (SetTable.insertAt es p (knd.hash k,.ref b)) (ep+1) (t.put j).1 (xs.take p++(k,b)::xs.drop p):=by
 subst ej epp
 have hb:=(SetTable.below_spec S.good.rise (SetTable.advs t.mask N (t.probeStart (knd.hash k))).j).1
 have hbx:SetTable.below t.place (SetTable.advs t.mask N (t.probeStart (knd.hash k))).j<=xs.length:=by rw [<-S.len, <-S.size];exact hb
 have hnf:(Obj.putSet (SetTable.insertAt es (SetTable.below t.place (SetTable.advs t.mask N (t.probeStart (knd.hash k))).j) (knd.hash k,.ref b)) (t.put (SetTable.advs t.mask N (t.probeStart (knd.hash k))).j).1 o).isFreed=false:=by
  rw [putSet_of _ _ S.hd]
  rfl
 refine⟨Heap.get?_update_self _ S.ho hnf,ExactSet_put _ _ S.hd S.hex,by rw [putSet_of _ _ S.hd],?_,S.good.put hN hl hroom,?_,fun x hx=>?_,?_,fun i j x h1 h2=>?_⟩
 ·rw [SetTable.insertAt_toList,S.he, <-List.map_take, <-List.map_drop,List.map_append,List.map_cons]
 ·rw [SetTable.put_eq S.good.dum]
  show(SetTable.insertAt t.place _ _).size=_
  rw [SetTable.insert_size _ _ hb,SetTable.insert_size _ _ (by rw [<-S.size];exact hb),S.size]
 ·rcases List.mem_append.mp hx with m|m
  ·exact hkeep _ (Heap.SameBut.update ..) _ _ (S.keys x (List.mem_of_mem_take m))
  ·rcases List.mem_cons.mp m with e|m
   ·rw [e];exact hkeep _ (Heap.SameBut.update ..) _ _ hkey
   ·exact hkeep _ (Heap.SameBut.update ..) _ _ (S.keys x (List.mem_of_mem_drop m))
 ·have pm:((xs.take (SetTable.below t.place (SetTable.advs t.mask N (t.probeStart (knd.hash k))).j)++(k,b)::xs.drop (SetTable.below t.place (SetTable.advs t.mask N (t.probeStart (knd.hash k))).j)).map (·.1)).Perm (k::xs.map (·.1)):=by
   have:=(List.perm_middle (a:=(k,b)) (l₁:=xs.take (SetTable.below t.place (SetTable.advs t.mask N (t.probeStart (knd.hash k))).j)) (l₂:=xs.drop (SetTable.below t.place (SetTable.advs t.mask N (t.probeStart (knd.hash k))).j))).map (·.1)
   rw [List.take_append_drop]at this
   exact this
  rw [pm.nodup_iff,List.nodup_cons]
  refine⟨fun m=>?_,S.nd⟩
  obtain⟨x,hx,e⟩:=List.mem_map.mp m
  exact hn x hx e
 ·rw [SetTable.put_eq S.good.dum]at h1
  have h1':(t.place.toList.take (SetTable.below t.place (SetTable.advs t.mask N (t.probeStart (knd.hash k))).j)++(SetTable.advs t.mask N (t.probeStart (knd.hash k))).j::t.place.toList.drop (SetTable.below t.place (SetTable.advs t.mask N (t.probeStart (knd.hash k))).j))[i]? =some j:=by
   rw [<-SetTable.insertAt_toList,Array.getElem?_toList];exact h1
  have gp:=get_ins (by rw [Array.length_toList];exact hb) h1'
  have gx:=get_ins hbx h2
  rcases gp with ⟨z1,z2⟩|⟨z1,z2⟩|⟨z1,z2⟩
  ·rcases gx with ⟨y1,y2⟩|⟨y1,y2⟩|⟨y1,y2⟩
   ·exact(S.way i j x (by rw [<-Array.getElem?_toList];exact z2) y2).put S.good hN
   ·omega
   ·omega
  ·rcases gx with ⟨y1,y2⟩|⟨y1,y2⟩|⟨y1,y2⟩
   ·omega
   ·rw [z2,y2]
    exact SetTable.OnWay.new S.good hN first
   ·omega
  ·rcases gx with ⟨y1,y2⟩|⟨y1,y2⟩|⟨y1,y2⟩
   ·omega
   ·omega
   ·exact(S.way (i-1) j x (by rw [<-Array.getElem?_toList];exact z2) y2).put S.good hN
end
end PySem
namespace PySem
namespace SetTable
def stP (M:Nat) (i perturb:Nat):Probe:={j:=i,more:=runEnd M i-i,i,perturb,dummy:=none}
def st (M:Nat) (h:Int):Probe:=stP M (bits h % (M+1)) (bits h)
theorem stP_run (M i perturb:Nat):∀k,k<=runEnd M i-i->(advs M k (stP M i perturb))={stP M i perturb with j:=i+k,more:=runEnd M i-i-k}:=by
 have gen:∀(k:Nat) (p:Probe),k<=p.more->advs M k p={p with j:=p.j+k,more:=p.more-k}:=by
  intro k
  induction k with
  |zero=>intro p _;rfl
  |succ k ih=>
   intro p hk
   rw [advs]
   have e:adv M p={p with j:=p.j+1,more:=p.more-1}:=by unfold adv;rw [if_pos (by omega)]
   rw [e,ih _ (by show k<=p.more-1;omega)]
   have e1:p.j+1+k=p.j+(k+1):=by omega
   have e2:p.more-1-k=p.more-(k+1):=by omega
   show({p with j:=p.j+1+k,more:=p.more-1-k}:Probe)=_
   rw [e1,e2]
 intro k hk
 exact gen k _ hk
theorem stP_leap (M i perturb:Nat):advs M (runEnd M i-i+1) (stP M i perturb)=stP M (leap M i perturb).1 (leap M i perturb).2:=by
 rw [advs_add,stP_run M i perturb _ (Nat.le_refl _),Nat.sub_self,advs,advs]
 unfold adv
 rw [if_neg (by show¬(0>0);omega)]
 rfl
theorem free_way {M:Nat} {owner:Array (Option Nat)} (hsz:owner.size=M+1):∀(fuel i perturb:Nat) (j:Nat),layClean.free M owner fuel i perturb=some j->
  owner[j]? =some none/\∃n,(advs M n (stP M i perturb)).j=j/\∀m,m<n->owner[(advs M m (stP M i perturb)).j]? ≠some none:=by
 intro fuel
 induction fuel with
 |zero=>intro i perturb j e;cases e
 |succ fuel ih=>
  intro i perturb j e
  have key:layClean.free M owner (fuel+1) i perturb=match (List.range (runEnd M i+1-i)).find? fun k=>(owner.getD (i+k) (some 0)).isNone with|some k=>some (i+k)|none=>layClean.free M owner fuel (leap M i perturb).1 (leap M i perturb).2:=rfl
  rw [key]at e
  have none_of:∀x,(owner.getD x (some 0)).isNone=true↔owner[x]? =some none:=fun x=>by
   by_cases hx:x<owner.size
   ·simp [Array.getD,hx]
   ·simp [Array.getD,hx]
  have hre:runEnd M i+1-i=runEnd M i-i+1:=by unfold runEnd;split<;>omega
  cases hf:(List.range (runEnd M i+1-i)).find? fun k=>(owner.getD (i+k) (some 0)).isNone with
  |some k=>
   rw [hf]at e
   cases e
   have h1:=List.find?_some hf
   have h2:=List.mem_range.mp (List.mem_of_find?_eq_some hf)
   refine⟨(none_of _).mp h1,k,by rw [stP_run M i perturb k (by omega)],fun m hm=>?_⟩
   rw [stP_run M i perturb m (by omega)]
   intro z
   have z':owner[i+m]? =some none:=z
   rw [List.find?_eq_some_iff_append]at hf
   obtain⟨_,as,bs,e1,e2⟩:=hf
   have hk:as.length=k:=by
    have h3:(List.range (runEnd M i+1-i))[as.length]? =some k:=by rw [e1];simp
    rw [List.getElem?_range (by have:=congrArg List.length e1;simp at this;omega)]at h3
    exact Option.some.inj h3
   have h4:m∈as:=by
    have h5:(List.range (runEnd M i+1-i))[m]? =some m:=List.getElem?_range (by omega)
    rw [e1,List.getElem?_append_left (by omega)]at h5
    exact List.mem_of_getElem? h5
   have:=e2 m h4
   rw [(none_of _).mpr z']at this
   exact absurd this (by decide)
  |none=>
   rw [hf]at e
   obtain⟨b1,n,b2,b3⟩:=ih _ _ _ e
   refine⟨b1,runEnd M i-i+1+n,by rw [advs_add,stP_leap];exact b2,fun m hm=>?_⟩
   rcases Nat.lt_or_ge m (runEnd M i-i+1)with z|z
   ·rw [stP_run M i perturb m (by omega)]
    intro y
    have y':owner[i+m]? =some none:=y
    have:=List.find?_eq_none.mp hf m (List.mem_range.mpr (by omega))
    exact this ((none_of _).mpr y')
   ·obtain⟨d,rfl⟩:∃d,m=runEnd M i-i+1+d:=⟨m-(runEnd M i-i+1),by omega⟩
    rw [advs_add,stP_leap]
    exact b3 d (by omega)
theorem free_some {M:Nat} {owner:Array (Option Nat)} {e:Nat} (he:owner[e]? =some none):∀(fuel i perturb L:Nat),(leaps M L (i,perturb)).1=e->L<fuel->∃j,layClean.free M owner fuel i perturb=some j:=by
 intro fuel
 induction fuel with
 |zero=>intro i perturb L _ h;omega
 |succ fuel ih=>
  intro i perturb L h1 h2
  have key:layClean.free M owner (fuel+1) i perturb=match (List.range (runEnd M i+1-i)).find? fun k=>(owner.getD (i+k) (some 0)).isNone with|some k=>some (i+k)|none=>layClean.free M owner fuel (leap M i perturb).1 (leap M i perturb).2:=rfl
  rw [key]
  cases hf:(List.range (runEnd M i+1-i)).find? fun k=>(owner.getD (i+k) (some 0)).isNone with
  |some k=>exact⟨_,rfl⟩
  |none=>
   cases L with
   |zero=>
    have h1':i=e:=h1
    subst h1'
    have hr:0<runEnd M i+1-i:=by unfold runEnd;split<;>omega
    have:=List.find?_eq_none.mp hf 0 (List.mem_range.mpr hr)
    have hs:i<owner.size:=(Array.getElem?_eq_some_iff.mp he).1
    have h3:owner[i]=none:=(Array.getElem?_eq_some_iff.mp he).2
    exact absurd (by simp [Array.getD,hs,h3]) this
   |succ L=>exact ih _ _ L h1 (by omega)
structure Lay (M:Nat) (hs:List Int) (owner:Array (Option Nat)):Prop where
 size:owner.size=M+1
 has:∀i,i<hs.length->∃j:Nat,owner[j]? =some (some i)
 low:∀(j i:Nat),owner[j]? =some (some i)->i<hs.length
 uniq:∀(j j' i:Nat),owner[j]? =some (some i)->owner[j']? =some (some i)->j=j'
 way:∀(j i:Nat) (h:Int),owner[j]? =some (some i)->hs[i]? =some h->∃n,(advs M n (st M h)).j=j/\∀m,m<n->owner[(advs M m (st M h)).j]? ≠some none
theorem Lay.start (M:Nat):Lay M [] (Array.replicate (M+1) none):=by
 have no:∀(j i:Nat),(Array.replicate (M+1) (none:Option Nat))[j]? ≠some (some i):=fun j i e=>by
  rw [Array.getElem?_replicate]at e
  split at e<;>cases e
 exact⟨by simp,fun i h=>absurd h (Nat.not_lt_zero i),fun j i e=>absurd e (no j i),fun j j' i e=>absurd e (no j i),fun j i h e=>absurd e (no j i)⟩
theorem Lay.empty {M:Nat} {hs:List Int} {owner:Array (Option Nat)} (L:Lay M hs owner) (hl:hs.length<=M):∃e,e<=M/\owner[e]? =some none:=by
 refine Classical.byContradiction fun no=>?_
 have all:∀j,j<=M->∃i,owner[j]? =some (some i):=fun j hj=>by
  have hs:j<owner.size:=by rw [L.size];omega
  cases g:owner[j]with
  |none=>exact absurd ⟨j,hj,by rw [Array.getElem?_eq_getElem hs,g]⟩ no
  |some i=>exact⟨i,by rw [Array.getElem?_eq_getElem hs,g]⟩
 have f:∀j,∃i,j<=M->owner[j]? =some (some i):=fun j=>by
  by_cases hj:j<=M
  ·obtain⟨i,hi⟩:=all j hj;exact⟨i,fun _=>hi⟩
  ·exact⟨0,fun z=>absurd z hj⟩
 obtain⟨F,hF⟩:=Classical.axiomOfChoice f
 have nd:((List.range (M+1)).map F).Nodup:=by
  rw [List.Nodup,List.pairwise_map]
  refine(List.nodup_range (n:=M+1)).imp_of_mem fun{a b} ha hb hab z=>hab ?_
  have h1:=hF a (by have:=List.mem_range.mp ha;omega)
  have h2:=hF b (by have:=List.mem_range.mp hb;omega)
  rw [z]at h1
  exact L.uniq a b _ h1 h2
 have sub:(List.range (M+1)).map F ⊆ List.range hs.length:=fun x hx=>by
  obtain⟨j,hj,rfl⟩:=List.mem_map.mp hx
  exact List.mem_range.mpr (L.low j _ (hF j (by have:=List.mem_range.mp hj;omega)))
 have:=nd.length_le_of_subset sub
 rw [List.length_map,List.length_range,List.length_range]at this
 omega
theorem Lay.step {M:Nat} {hs:List Int} {owner:Array (Option Nat)} (R:Round M) (L:Lay M hs owner) (hl:hs.length<=M) (h:Int):∃j,layClean.free M owner (turns M) (bits h % (M+1)) (bits h)=some j/\Lay M (hs++[h]) (owner.setIfInBounds j (some hs.length)):=by
 obtain⟨e,he,e1⟩:=L.empty hl
 have hb:bits h<2 ^ 64:=by
  unfold bits
  have h1:=Int.emod_nonneg h (show((2:Int) ^ 64)≠0 by decide)
  have h2:=Int.emod_lt_of_pos h (show(0:Int)<2 ^ 64 by decide)
  omega
 obtain⟨Lp,_,l2,l3⟩:=leaps_meet R he (bits h % (M+1)) (bits h) hb
 obtain⟨j,hj⟩:=free_some e1 (turns M) _ _ Lp l3 (by unfold turns;omega)
 obtain⟨w1,n,w2,w3⟩:=free_way L.size _ _ _ _ hj
 have hjs:j<owner.size:=(Array.getElem?_eq_some_iff.mp w1).1
 have at_:∀x,(owner.setIfInBounds j (some hs.length))[x]? =if x=j then some (some hs.length)else owner[x]? :=fun x=>by
  rw [Array.getElem?_setIfInBounds]
  by_cases z:j=x
  ·subst z;simp [hjs]
  ·rw [if_neg z,if_neg (fun y=>z y.symm)]
 have occ:∀x,owner[x]? ≠some none->(owner.setIfInBounds j (some hs.length))[x]? ≠some none:=fun x z=>by
  rw [at_]
  split
  ·intro y;cases y
  ·exact z
 refine⟨j,hj,⟨by simp [L.size],fun i hi=>?_,fun x i g=>?_,fun x y i g1 g2=>?_,fun x i h' g g'=>?_⟩⟩
 ·rw [List.length_append,List.length_singleton]at hi
  by_cases z:i<hs.length
  ·obtain⟨x,hx⟩:=L.has i z
   refine⟨x,?_⟩
   rw [at_,if_neg (fun y=>by subst y;rw [w1]at hx;cases hx)]
   exact hx
  ·exact⟨j,by rw [at_,if_pos rfl,show i=hs.length by omega]⟩
 ·rw [at_]at g
  rw [List.length_append,List.length_singleton]
  split at g
  ·cases g;omega
  ·have:=L.low x i g;omega
 ·rw [at_]at g1
  rw [at_]at g2
  split at g1
  ·split at g2
   ·omega
   ·cases g1
    exact absurd (L.low y _ g2) (Nat.lt_irrefl _)
  ·split at g2
   ·cases g2
    exact absurd (L.low x _ g1) (Nat.lt_irrefl _)
   ·exact L.uniq x y i g1 g2
 ·rw [at_]at g
  split at g
  ·cases g
   rw [List.getElem?_append_right (Nat.le_refl _),Nat.sub_self]at g'
   cases g'
   subst x
   exact⟨n,w2,fun m hm=>occ _ (w3 m hm)⟩
  ·have:=L.low x i g
   rw [List.getElem?_append_left this]at g'
   obtain⟨n',a1,a2⟩:=L.way x i h' g g'
   exact⟨n',a1,fun m hm=>occ _ (a2 m hm)⟩
theorem lay_all {M:Nat} (R:Round M):∀(l hs:List Int) (owner:Array (Option Nat)),Lay M hs owner->hs.length+l.length<=M+1->∃owner',(l.foldl (init:=some (owner,hs.length)) fun acc h=>do
   let(owner,k)<-acc
   let j<-layClean.free M owner (turns M) (bits h % (M+1)) (bits h)
   pure (owner.setIfInBounds j (some k),k+1))=some (owner',(hs++l).length)/\Lay M (hs++l) owner'
 | [],hs,owner,L,_=>⟨owner,by simp,by simpa using L⟩
 |h::l,hs,owner,L,hl=>by
  rw [List.length_cons]at hl
  obtain⟨j,hj,L'⟩:=L.step R (by omega) h
  obtain⟨o',e1,e2⟩:=lay_all R l (hs++[h]) _ L' (by rw [List.length_append,List.length_singleton];omega)
  refine⟨o',?_,by simpa using e2⟩
  rw [List.foldl_cons]
  have:(do
   let(owner,k)<-some (owner,hs.length)
   let j<-layClean.free M owner (turns M) (bits h % (M+1)) (bits h)
   pure (owner.setIfInBounds j (some k),k+1):Option (Array (Option Nat)×Nat))=some (owner.setIfInBounds j (some hs.length),hs.length+1):=by
   show(layClean.free M owner (turns M) (bits h % (M+1)) (bits h)).bind _=_
   rw [hj]
   rfl
  rw [this]
  rw [List.length_append,List.length_singleton]at e1
  rw [e1]
  simp
theorem layClean_some {M:Nat} (R:Round M) (hashes:Array Int) (hl:hashes.size<=M+1):∃owner,layClean M hashes=some owner/\Lay M hashes.toList owner:=by
 obtain⟨o',e1,e2⟩:=lay_all R hashes.toList [] _ (Lay.start M) (by simpa using hl)
 refine⟨o',?_,by simpa using e2⟩
 unfold layClean
 rw [<-Array.foldl_toList]
 have e1':=e1
 rw [List.length_nil]at e1'
 rw [e1']
 rfl
def liveOf (M:Nat) (owner:Array (Option Nat)):List (Nat×Nat):=(List.range (M+1)).filterMap fun j=>(owner.getD j none).map (j,·)
theorem mem_live {M:Nat} {owner:Array (Option Nat)} (hsz:owner.size=M+1) {j i:Nat}:(j,i)∈liveOf M owner↔owner[j]? =some (some i):=by
 unfold liveOf
 rw [List.mem_filterMap]
 constructor
 ·rintro⟨x,hx,e⟩
  obtain⟨y,hy,e2⟩:=Option.map_eq_some_iff.mp e
  cases e2
  have hs:j<owner.size:=by rw [hsz];exact List.mem_range.mp hx
  have hy':owner[j]=some i:=by simpa [Array.getD,hs]using hy
  rw [Array.getElem?_eq_getElem hs,hy']
 ·intro e
  obtain⟨hs,e2⟩:=Array.getElem?_eq_some_iff.mp e
  refine⟨j,List.mem_range.mpr (by omega),?_⟩
  have:owner.getD j none=some i:=by simp [Array.getD,hs,e2]
  rw [this]
  rfl
theorem live_rise (M:Nat) (owner:Array (Option Nat)):((liveOf M owner).map (·.1)).Pairwise (·<·):=by
 unfold liveOf
 rw [List.pairwise_map,List.pairwise_filterMap]
 refine(List.pairwise_lt_range (n:=M+1)).imp fun{a b} hab x hx y hy=>?_
 obtain⟨_,_,rfl⟩:=Option.map_eq_some_iff.mp hx
 obtain⟨_,_,rfl⟩:=Option.map_eq_some_iff.mp hy
 exact hab
theorem live_order {M:Nat} {hs:List Int} {owner:Array (Option Nat)} (L:Lay M hs owner):((liveOf M owner).map (·.2)).Perm (List.range hs.length):=by
 have nd:((liveOf M owner).map (·.2)).Nodup:=by
  rw [List.Nodup,List.pairwise_map]
  have h1:=live_rise M owner
  rw [List.pairwise_map]at h1
  refine h1.imp_of_mem fun{a b} ha hb hab z=>?_
  have g1:=(mem_live L.size).mp (show(a.1,a.2)∈_ from ha)
  have g2:=(mem_live L.size).mp (show(b.1,b.2)∈_ from hb)
  rw [z]at g1
  have:=L.uniq _ _ _ g1 g2
  omega
 refine(List.perm_ext_iff_of_nodup nd List.nodup_range).mpr fun i=>?_
 rw [List.mem_range,List.mem_map]
 constructor
 ·rintro⟨⟨j,i'⟩,hm,rfl⟩
  exact L.low j _ ((mem_live L.size).mp hm)
 ·intro hi
  obtain⟨j,hj⟩:=L.has i hi
  exact⟨(j,i),(mem_live L.size).mpr hj,rfl⟩
theorem adv_low (M:Nat) {p:Probe} (h:p.j+p.more<=M):(adv M p).j+(adv M p).more<=M:=by
 unfold adv
 split
 ·show p.j+1+(p.more-1)<=M;omega
 ·show(leap M p.i p.perturb).1+(runEnd M (leap M p.i p.perturb).1-(leap M p.i p.perturb).1)<=M
  have:(leap M p.i p.perturb).1<=M:=by
   show(p.i*5+1+p.perturb / 32) % (M+1)<=M
   have:=Nat.mod_lt (p.i*5+1+p.perturb / 32) (show 0<M+1 by omega)
   omega
  unfold runEnd
  split<;>omega
theorem advs_low (M:Nat):∀(n:Nat) {p:Probe},p.j+p.more<=M->(advs M n p).j<=M
 |0,_,h=>by rw [advs];omega
 |n+1,_,h=>by rw [advs];exact advs_low M n (adv_low M h)
theorem st_low (M:Nat) (h:Int):(st M h).j+(st M h).more<=M:=by
 show bits h % (M+1)+(runEnd M (bits h % (M+1))-bits h % (M+1))<=M
 have:=Nat.mod_lt (bits h) (show 0<M+1 by omega)
 unfold runEnd
 split<;>omega
theorem laid_some {M:Nat} (R:Round M) (finger moves:Nat) (led plain:Bool) (hashes:Array Int) (hl:hashes.size<=M):
  ∃t order,laid M finger moves led plain hashes=some (t,order)/\t.mask=M/\t.led=led/\t.plain=plain/\t.moves=moves/\t.Good/\t.place.size=hashes.size/\order.toList.Perm (List.range hashes.size)/\
   ∀(r j i:Nat) (h:Int),t.place[r]? =some j->order[r]? =some i->hashes[i]? =some h->OnWay t h j:=by
 obtain⟨owner,e1,L⟩:=layClean_some R hashes (by omega)
 have Pm:=live_order L
 have Ps:(liveOf M owner).length=hashes.size:=by
  have:=Pm.length_eq
  rw [List.length_map,List.length_range,Array.length_toList]at this
  exact this
 refine⟨{mask:=M,place:=((liveOf M owner).map (·.1)).toArray,dummies:= #[],finger,led,moves,plain},((liveOf M owner).map (·.2)).toArray,?_,rfl,rfl,rfl,rfl,?_,?_,?_,?_⟩
 ·unfold laid
  rw [e1]
  rfl
 ·refine⟨rfl,rise_iff.mpr (live_rise M owner),fun j hj=>?_,?_,R⟩
  ·obtain⟨⟨j',i⟩,hm,rfl⟩:=List.mem_map.mp hj
   have:=(Array.getElem?_eq_some_iff.mp ((mem_live L.size).mp hm)).1
   show j'<=M
   rw [L.size]at this
   omega
  ·show((liveOf M owner).map (·.1)).toArray.size<=M
   rw [List.size_toArray,List.length_map,Ps]
   exact hl
 ·show((liveOf M owner).map (·.1)).toArray.size=_
  rw [List.size_toArray,List.length_map,Ps]
 ·show((liveOf M owner).map (·.2)).Perm _
  rw [Array.length_toList]at Pm
  exact Pm
 ·intro r j i h h1 h2 h3
  have g1:((liveOf M owner).map (·.1))[r]? =some j:=by simpa using h1
  have g2:((liveOf M owner).map (·.2))[r]? =some i:=by simpa using h2
  rw [List.getElem?_map]at g1 g2
  obtain⟨x,hx,rfl⟩:=Option.map_eq_some_iff.mp g1
  rw [hx]at g2
  cases g2
  have hm:=(mem_live L.size).mp (show(x.1,x.2)∈_ from List.mem_of_getElem? hx)
  obtain⟨n,w1,w2⟩:=L.way x.1 x.2 h hm (by rw [Array.getElem?_toList];exact h3)
  refine⟨n,w1,fun m hm' z=>w2 m hm' ?_⟩
  have z1:=(slot_empty_iff (t:={mask:=M,place:=((liveOf M owner).map (·.1)).toArray,dummies:= #[],finger,led,moves,plain}) (rise_iff.mpr (live_rise M owner)) rfl).mp z
  have low:(advs M m (st M h)).j<=M:=advs_low M m (st_low M h)
  have hs:(advs M m (st M h)).j<owner.size:=by rw [L.size];omega
  cases g:owner[(advs M m (st M h)).j]with
  |none=>rw [Array.getElem?_eq_getElem hs,g]
  |some i'=>
   have g':owner[(advs M m (st M h)).j]? =some (some i'):=by rw [Array.getElem?_eq_getElem hs,g]
   exact absurd (List.mem_map.mpr ⟨((advs M m (st M h)).j,i'),(mem_live L.size).mpr g',rfl⟩) z1
end SetTable
end PySem
namespace PySem
open Sem (wp)
theorem filterMap_get {α β:Type} {f:α->Option β}:∀{l:List α},(∀i∈l,∃y,f i=some y)->∀r:Nat,(l.filterMap f)[r]? =l[r]?.bind f
 | [],_,r=>by simp
 |a::l,h,r=>by
  obtain⟨y,hy⟩:=h a (List.mem_cons_self ..)
  rw [List.filterMap_cons_some hy]
  cases r with
  |zero=>simp [hy]
  |succ r=>
   rw [List.getElem?_cons_succ,List.getElem?_cons_succ]
   exact filterMap_get (fun i hi=>h i (List.mem_cons_of_mem _ hi)) r
theorem range_filterMap {α:Type} (l:List α):(List.range l.length).filterMap (fun i:Nat=>l[i]?)=l:=by
 apply List.ext_getElem?
 intro r
 rw [filterMap_get (fun i hi=>⟨l[i]'(List.mem_range.mp hi),List.getElem?_eq_getElem (List.mem_range.mp hi)⟩)]
 by_cases h:r<l.length
 ·rw [List.getElem?_range h];rfl
 ·rw [List.getElem?_eq_none (by rw [List.length_range];omega),List.getElem?_eq_none (by omega)];rfl
section
variable {prog:Program} {w:World} {K:Type} [DecidableEq K] {knd:HeapKind prog w K} {A:Around} {E:Value->Shared->Prop} {s:Shared} {a b:Addr} {o:Obj} {es:Array (Int×Value)} {ep:Nat} {t:SetTable} {xs:List (K×Addr)} {k:K}
theorem SetAt.relaid (S:SetAt knd s a o es ep t xs) (hkeep:∀h',Heap.SameBut a s.heap h'->∀x c,knd.is s.heap x c->knd.is h' x c) {wanted:Nat} (R:SetTable.Round (SetTable.sizeAbove wanted-1)) (hl:es.size<=SetTable.sizeAbove wanted-1):
  ∃t' order,t.relaid (es.map (·.1)) wanted=some (t',order)/\(order.filterMap (es[·]?)).size=es.size/\t'.mask=SetTable.sizeAbove wanted-1/\t'.led=t.led/\t'.plain=t.plain/\∃xs':List (K×Addr),xs'.Perm xs/\
   SetAt knd {s with heap:=s.heap.update a (Obj.putSet (order.filterMap (es[·]?)) t')} a (Obj.putSet (order.filterMap (es[·]?)) t' o) (order.filterMap (es[·]?)) (ep+1) t' xs':=by
 obtain⟨t',order,e1,e2,e3,e4,e5,G,sz,pm,wy⟩:=SetTable.laid_some R t.finger (t.movedTo (SetTable.sizeAbove wanted-1)) t.led t.plain (es.map (·.1)) (by rw [Array.size_map];exact hl)
 rw [Array.size_map]at sz pm
 have hin:∀i∈order.toList,∃y,xs[i]? =some y:=fun i hi=>by
  have:=List.mem_range.mp (pm.mem_iff.mp hi)
  rw [S.len]at this
  exact⟨xs[i],List.getElem?_eq_getElem this⟩
 have el:(order.filterMap (es[·]?)).toList=(order.toList.filterMap fun i:Nat=>xs[i]?).map fun x=>(knd.hash x.1,Value.ref x.2):=by
  rw [Array.toList_filterMap,List.map_filterMap]
  congr 1
  funext i
  exact S.entry i
 have px:(order.toList.filterMap fun i:Nat=>xs[i]?).Perm xs:=by
  have:=pm.filterMap fun i:Nat=>xs[i]?
  rw [S.len,range_filterMap]at this
  exact this
 have esz:(order.filterMap (es[·]?)).size=es.size:=by rw [<-Array.length_toList,el,List.length_map,px.length_eq,S.len]
 have hnf:(Obj.putSet (order.filterMap (es[·]?)) t' o).isFreed=false:=by
  rw [putSet_of _ _ S.hd]
  rfl
 refine⟨t',order,e1,esz,e2,e3,e4,_,px,⟨Heap.get?_update_self _ S.ho hnf,ExactSet_put _ _ S.hd S.hex,by rw [putSet_of _ _ S.hd],el,G,by rw [sz,esz],fun x hx=>hkeep _ (Heap.SameBut.update ..) _ _ (S.keys x (px.mem_iff.mp hx)),?_,fun r j x h1 h2=>?_⟩⟩
 ·rw [(px.map (·.1)).nodup_iff];exact S.nd
 ·rw [filterMap_get hin]at h2
  obtain⟨i,hi,hx⟩:=Option.bind_eq_some_iff.mp h2
  refine wy r j i _ h1 (by rw [<-Array.getElem?_toList];exact hi) ?_
  rw [Array.getElem?_map,S.entry i,hx]
  rfl
theorem wpAny_relay_heap (S:SetAt knd s a o es ep t xs) (hkeep:∀h',Heap.SameBut a s.heap h'->∀x c,knd.is s.heap x c->knd.is h' x c) {wanted:Nat} (R:SetTable.Round (SetTable.sizeAbove wanted-1)) (hl:es.size<=SetTable.sizeAbove wanted-1) (hsz:SetTable.sizeAbove wanted<=sizeLine) {Q:Unit->Shared->Prop}
  (h:∀(h':Heap) (o':Obj) (es':Array (Int×Value)) (t':SetTable) (xs':List (K×Addr)),Heap.SameBut a s.heap h'->xs'.Perm xs->t'.mask=SetTable.sizeAbove wanted-1->t'.led=t.led->t'.plain=t.plain->SetAt knd {s with heap:=h'} a o' es' (ep+1) t' xs'->Q () {s with heap:=h'}):
  wpAny (model prog w) A (setRelay a wanted) Q E s:=by
 obtain⟨t',order,e1,e2,e3,e4,e5,xs',px,S'⟩:=S.relaid hkeep R hl
 unfold setRelay
 refine wpAny_bind (wpAny_setState_of S.ho S.hd S.fits ?_)
 dsimp only
 rw [if_neg (by omega)]
 refine wpAny_bind ?_
 rw [e1]
 show wpAny _ _ (if(order.filterMap (es[·]?)).size != es.size then _ else pure (order.filterMap (es[·]?),t')) _ _ _
 rw [if_neg (by rw [e2];simp)]
 refine wpAny_pure ?_
 refine wpAny_storeSet_of S.ho S.hd (h _ _ _ _ xs' (Heap.SameBut.update ..) px e3 e4 e5 S') ?_
 rw [e2]
 omega
end
end PySem
namespace PySem
open Sem (wp)
namespace SetTable
variable {t:SetTable}
theorem first_empty (G:t.Good) (h:Int):∃N,N<10*turns t.mask/\t.slot (advs t.mask N (t.probeStart h)).j= .empty/\∀m,m<N->t.slot (advs t.mask m (t.probeStart h)).j≠ .empty:=by
 obtain⟨N,h1,h2⟩:=empty_near G.round G.dum G.room (t.probeStart h) (start_ok t h).1 (start_ok t h).2
 induction N using Nat.strongRecOn with
 |_ N ih=>
  by_cases hx:∃m,m<N/\t.slot (advs t.mask m (t.probeStart h)).j= .empty
  ·obtain⟨m,hm,e⟩:=hx
   exact ih m hm (by omega) e
  ·exact⟨N,h1,h2,fun m hm e=>hx ⟨m,hm,e⟩⟩
def Small (t:SetTable):Prop:=(t.mask=7/\t.place.size<=4)∨(t.mask=31/\t.place.size<=18)
theorem Small.odd (S:t.Small):t.mask % 2=1:=by rcases S with ⟨e,_⟩|⟨e,_⟩<;>rw [e]
end SetTable
section
variable {prog:Program} {w:World} {K:Type} [DecidableEq K] (knd:HeapKind prog w K)
def SetIs (s:Shared) (a:Addr) (l:Bool) (xs:List (K×Addr)):Prop:=∃o es ep t,SetAt knd s a o es ep t xs/\t.Small/\t.plain=true/\t.led=l
variable {knd} {A:Around} {E:Value->Shared->Prop} {s:Shared} {a b:Addr} {o:Obj} {es:Array (Int×Value)} {ep:Nat} {t:SetTable} {xs:List (K×Addr)} {k:K} {l:Bool}
theorem SetIs.at (D:SetKd knd) {s':Shared} (S:SetIs knd s a l xs) (h1:∀o,s.heap.get? a=some o->s'.heap.get? a=some o) (h2:∀b o,o.cls= .type "tuple"->s.heap.get? b=some o->s'.heap.get? b=some o):SetIs knd s' a l xs:=by
 obtain⟨o,es,ep,t,S,r⟩:=S
 exact⟨o,es,ep,t,⟨h1 o S.ho,S.hex,S.hd,S.he,S.good,S.size,fun x hx=>D.mono (S.keys x hx) h2,S.nd,S.way⟩,r⟩
theorem byScan_ref (x:Addr) (es:Array (Int×Value)):byScan (.ref x) es=false:=rfl
theorem wpAny_setAddHashed_heap (D:SetKd knd) (S:SetIs knd s a l xs) (hn:xs.length<18) (hu:knd.room A) (hkey:knd.is s.heap k b) {Q:Bool->Shared->Prop}
  (hold:(∃x∈xs,x.1=k)->Q false s)
  (hnew:(∀x∈xs,x.1≠k)->∀h' xs',Heap.SameBut a s.heap h'->xs'.Perm ((k,b)::xs)->SetIs knd {s with heap:=h'} a l xs'->Q true {s with heap:=h'}):
  wpAny (model prog w) A (setAddHashed a (.ref b) (knd.hash k)) Q E s:=by
 obtain⟨o,es,ep,t,S,sm,pl,rfl⟩:=S
 unfold setAddHashed
 refine wpAny_holding ?_
 unfold setAddHashedIn
 refine wpAny_bind (wpAny_setState_of S.ho S.hd S.fits ?_)
 dsimp only
 rw [byScan_ref]
 simp only [Bool.false_eq_true,if_false]
 obtain⟨N,n1,n2,n3⟩:=SetTable.first_empty S.good (knd.hash k)
 have bigm:10*SetTable.turns t.mask<=100000:=by
  unfold SetTable.turns
  rcases sm with ⟨e,_⟩|⟨e,_⟩<;>rw [e]<;>decide
 refine wpAny_bind (wpAny_search_heap S sm.odd D hu hkey n2 n1 n3 (fun h=>?_) (fun h=>?_) 100000 0 none rfl (Nat.zero_le _) (by omega) fun m hm=>absurd hm (Nat.not_lt_zero m))
 ·exact wpAny_pure (hold h)
 ·dsimp only
  refine wpAny_bind (wpAny_setState_of S.ho S.hd S.fits ?_)
  dsimp only
  have lowj:(SetTable.advs t.mask N (t.probeStart (knd.hash k))).j<=t.mask:=SetTable.advs_low _ _ (SetTable.st_low _ _)
  have hsz:t.place.size+1<=t.mask:=by rcases sm with ⟨e,h⟩|⟨e,h⟩<;>omega
  have S':=S.add hkey h (fun h' sb x c hx=>D.keep hx S.ho S.hex sb) n2 n3 lowj hsz rfl rfl
  have hb:=(SetTable.below_spec S.good.rise (SetTable.advs t.mask N (t.probeStart (knd.hash k))).j).1
  have psz:(t.put (SetTable.advs t.mask N (t.probeStart (knd.hash k))).j).1.place.size=t.place.size+1:=by
   rw [SetTable.put_eq S.good.dum]
   exact SetTable.insert_size _ _ hb
  have pmk:(t.put (SetTable.advs t.mask N (t.probeStart (knd.hash k))).j).1.mask=t.mask:=by rw [SetTable.put_eq S.good.dum]
  have ppl:(t.put (SetTable.advs t.mask N (t.probeStart (knd.hash k))).j).1.plain=true:=by rw [SetTable.put_eq S.good.dum];exact pl
  have pld:(t.put (SetTable.advs t.mask N (t.probeStart (knd.hash k))).j).1.led=t.led:=by rw [SetTable.put_eq S.good.dum]
  have p2:(t.put (SetTable.advs t.mask N (t.probeStart (knd.hash k))).j).2=SetTable.below t.place (SetTable.advs t.mask N (t.probeStart (knd.hash k))).j:=by rw [SetTable.put_eq S.good.dum]
  have pm:=(List.perm_middle (a:=(k,b)) (l₁:=xs.take (SetTable.below t.place (SetTable.advs t.mask N (t.probeStart (knd.hash k))).j)) (l₂:=xs.drop (SetTable.below t.place (SetTable.advs t.mask N (t.probeStart (knd.hash k))).j)))
  rw [List.take_append_drop]at pm
  have fl:(t.put (SetTable.advs t.mask N (t.probeStart (knd.hash k))).j).1.fill=t.place.size+1:=by
   unfold SetTable.fill
   rw [psz,S'.good.dum]
   rfl
  rw [ppl]
  simp only [if_true]
  refine wpAny_bind (D.byValue hkey ?_)
  simp only [if_true,p2]
  have els:=S'.len
  have eln:=S.len
  have hxl:=pm.length_eq
  rw [List.length_cons]at hxl
  refine wpAny_bind (wpAny_storeSet_of S.ho S.hd ?_ (by rw [els,hxl];unfold sizeLine;omega))
  by_cases full:(t.put (SetTable.advs t.mask N (t.probeStart (knd.hash k))).j).1.tooFull=true
  ·rw [full]
   simp only [Bool.not_false,Bool.and_self,if_true]
   have fd:t.mask=7/\t.place.size=4:=by
    unfold SetTable.tooFull at full
    rw [fl,pmk]at full
    have full:=of_decide_eq_true full
    have:=S.size
    rcases sm with ⟨e,h⟩|⟨e,h⟩<;>rw [e]at full<;>omega
   have e5:es.size=4:=by rw [<-S.size];exact fd.2
   have eg:SetTable.sizeAbove (SetTable.grown (es.size+1))=32:=by rw [e5];decide
   refine wpAny_bind (wpAny_relay_heap S' (fun h' sb x c hx=>D.keep hx S'.ho S'.hex sb) (by rw [eg];exact SetTable.round31) (by rw [els,hxl,eg, <-eln,e5];decide) (by rw [eg];unfold sizeLine;omega) fun h' o' es' t' xs' sb px e1 e2 e3 S2=>?_)
   refine wpAny_pure ?_
   refine hnew h h' xs' (Heap.SameBut.trans (Heap.SameBut.update ..) sb) (px.trans pm) ⟨o',es',_,t',S2,.inr ⟨by rw [e1,eg],?_⟩,by rw [e3];exact ppl,by rw [e2];exact pld⟩
   rw [S2.size,S2.len,px.length_eq,hxl, <-eln,e5]
   decide
  ·have full:=Bool.eq_false_iff.mpr full
   rw [full]
   simp only [Bool.and_false,Bool.false_eq_true,if_false]
   refine wpAny_pure (hnew h _ _ (Heap.SameBut.update ..) pm ⟨_,_,_,_,S',?_,ppl,pld⟩)
   unfold SetTable.tooFull at full
   rw [fl,pmk]at full
   have full:=of_decide_eq_false full
   have sz:=S.size
   unfold SetTable.Small
   rw [pmk,psz]
   rcases sm with ⟨e,h⟩|⟨e,h⟩
   ·left
    rw [e]at full
    exact⟨e,by omega⟩
   ·right
    exact⟨e,by omega⟩
end
end PySem
namespace PySem
open Sem (wp)
theorem hashByValue_int (n:Nat) (i:Int) (tk):hashByValue n (.int i tk)=pure true:=by cases n<;>rfl
theorem ofAClass_val (n:Nat) {v:Value} (h:carriedByValue v=true):ofAClassStatement n v=pure false:=by
 cases v with
 |ref a=>cases h
 |_=>first|rfl|(unfold ofAClassStatement;rfl)
section
variable {prog:Program} {w:World} {K:Type} [DecidableEq K] {knd:KeyKind prog w K} {A:Around} {E:Value->Shared->Prop} {s:Shared}
theorem ItemsAre.ints (hv:∀k v,knd.is k v=true->∃i tk,v=Value.int i tk) {x:List K} {vs:List Value} (hx:ItemsAre knd x vs):∀v∈vs,∃i tk,v=Value.int i tk:=by
 induction hx with
 |nil=>intro v hv;simp at hv
 |@cons k v' ks vs h1 _ ih=>
  intro v hm
  rcases List.mem_cons.mp hm with rfl|hm
  ·exact hv _ _ h1
  ·exact ih v hm
theorem wpAny_hashByValue_tuple (hv:∀k v,knd.is k v=true->∃i tk,v=Value.int i tk) {n:Nat} {ks:List K} {a:Addr} {Q:Bool->Shared->Prop} (hk:IsTupleKey knd s.heap ks a) (h:Q true s):wpAny (model prog w) A (hashByValue (n+1) (.ref a)) Q E s:=by
 have hT:=hk.typeIs
 obtain⟨o,items,m,ho,_,hd,hi⟩:=hk
 unfold hashByValue
 refine wpAny_bind (wpAny_specialOf hT F.slot_tuple_hash.lookup ?_)
 show wpAny _ _ (seqItems? (.ref a)>>=_) _ _ s
 refine wpAny_bind (wpAny_seqItems ho hd ?_)
 refine wpAny_bind ?_
 show wpAny _ _ (forIn items _ _) _ _ s
 rw [<-Array.forIn_toList]
 refine wpAny_forIn_list _ (fun rest r s'=>r.1=none/\s'=s/\∀v∈rest,∃i tk,v=Value.int i tk) _ ?_ ?_ _ _ ⟨rfl,rfl,hi.ints hv⟩
 ·rintro v rest r s' ⟨hr,rfl,hall⟩
  obtain⟨i,tk,rfl⟩:=hall v List.mem_cons_self
  rw [hashByValue_int]
  refine wpAny_bind (wpAny_pure ?_)
  simp only [Bool.not_true,Bool.false_eq_true,if_false]
  exact wpAny_pure ⟨rfl,rfl,fun u hu'=>hall u (List.mem_cons_of_mem _ hu')⟩
 ·rintro⟨r1,r2⟩ s' ⟨hr,rfl,_⟩
  simp only at hr
  subst hr
  exact wpAny_pure h
theorem wpAny_hashByValue_pair (hv:∀k v,knd.is k v=true->∃i tk,v=Value.int i tk) {x:K×List K} {a:Addr} {Q:Bool->Shared->Prop} (hk:IsPairKey knd s.heap x a) (h:Q true s):wpAny (model prog w) A (hashByValue 8 (.ref a)) Q E s:=by
 have hT:=hk.typeIs
 obtain⟨o,v,b,m,ho,_,hd,h1,h2⟩:=hk
 unfold hashByValue
 refine wpAny_bind (wpAny_specialOf hT F.slot_tuple_hash.lookup ?_)
 show wpAny _ _ (seqItems? (.ref a)>>=_) _ _ s
 refine wpAny_bind (wpAny_seqItems ho hd ?_)
 refine wpAny_bind ?_
 show wpAny _ _ (forIn _ _ _) _ _ s
 rw [<-Array.forIn_toList]
 refine wpAny_forIn_list _ (fun rest r s'=>r.1=none/\s'=s/\∀u∈rest,u=v∨u= .ref b) _ ?_ ?_ _ _ ⟨rfl,rfl,fun u hu=>by simpa using hu⟩
 ·rintro u rest r s' ⟨hr,rfl,hall⟩
  rcases hall u List.mem_cons_self with rfl|rfl
  ·obtain⟨i,tk,rfl⟩:=hv _ _ h1
   rw [hashByValue_int]
   refine wpAny_bind (wpAny_pure ?_)
   simp only [Bool.not_true,Bool.false_eq_true,if_false]
   exact wpAny_pure ⟨rfl,rfl,fun u hu'=>hall u (List.mem_cons_of_mem _ hu')⟩
  ·refine wpAny_bind (wpAny_hashByValue_tuple hv h2 ?_)
   simp only [Bool.not_true,Bool.false_eq_true,if_false]
   exact wpAny_pure ⟨rfl,rfl,fun u hu'=>hall u (List.mem_cons_of_mem _ hu')⟩
 ·rintro⟨r1,r2⟩ s' ⟨hr,rfl,_⟩
  simp only at hr
  subst hr
  exact wpAny_pure h
theorem wpAny_ofAClass_tuple {n:Nat} {ks:List K} {a:Addr} {Q:Bool->Shared->Prop} (hk:IsTupleKey knd s.heap ks a) (h:Q false s):wpAny (model prog w) A (ofAClassStatement (n+1) (.ref a)) Q E s:=by
 have hT:=hk.typeIs
 obtain⟨o,items,m,ho,_,hd,hi⟩:=hk
 unfold ofAClassStatement
 refine wpAny_bind (wpAny_typeOf hT ?_)
 dsimp only
 simp only [beq_self_eq_true,if_true]
 refine wpAny_bind (wpAny_pure ?_)
 simp only [Bool.not_true,Bool.false_eq_true,if_false]
 refine wpAny_bind (wpAny_seqItems ho hd ?_)
 dsimp only
 refine wpAny_bind ?_
 rw [<-Array.forIn_toList]
 refine wpAny_forIn_list _ (fun rest r s'=>r.1=none/\s'=s/\∀v∈rest,carriedByValue v=true) _ ?_ ?_ _ _ ⟨rfl,rfl,hi.byValue⟩
 ·rintro v rest r s' ⟨hr,rfl,hall⟩
  rw [ofAClass_val _ (hall v List.mem_cons_self)]
  refine wpAny_bind (wpAny_pure ?_)
  simp only [Bool.false_eq_true,if_false]
  exact wpAny_pure ⟨rfl,rfl,fun u hu'=>hall u (List.mem_cons_of_mem _ hu')⟩
 ·rintro⟨r1,r2⟩ s' ⟨hr,rfl,_⟩
  simp only at hr
  subst hr
  exact wpAny_pure h
theorem wpAny_ofAClass_pair {x:K×List K} {a:Addr} {Q:Bool->Shared->Prop} (hk:IsPairKey knd s.heap x a) (h:Q false s):wpAny (model prog w) A (ofAClassStatement 8 (.ref a)) Q E s:=by
 have hT:=hk.typeIs
 obtain⟨o,v,b,m,ho,_,hd,h1,h2⟩:=hk
 unfold ofAClassStatement
 refine wpAny_bind (wpAny_typeOf hT ?_)
 dsimp only
 simp only [beq_self_eq_true,if_true]
 refine wpAny_bind (wpAny_pure ?_)
 simp only [Bool.not_true,Bool.false_eq_true,if_false]
 refine wpAny_bind (wpAny_seqItems ho hd ?_)
 dsimp only
 refine wpAny_bind ?_
 rw [<-Array.forIn_toList]
 refine wpAny_forIn_list _ (fun rest r s'=>r.1=none/\s'=s/\∀u∈rest,u=v∨u= .ref b) _ ?_ ?_ _ _ ⟨rfl,rfl,fun u hu=>by simpa using hu⟩
 ·rintro u rest r s' ⟨hr,rfl,hall⟩
  rcases hall u List.mem_cons_self with rfl|rfl
  ·rw [ofAClass_val _ (knd.byValue _ _ h1)]
   refine wpAny_bind (wpAny_pure ?_)
   simp only [Bool.false_eq_true,if_false]
   exact wpAny_pure ⟨rfl,rfl,fun u hu'=>hall u (List.mem_cons_of_mem _ hu')⟩
  ·refine wpAny_bind (wpAny_ofAClass_tuple h2 ?_)
   simp only [Bool.false_eq_true,if_false]
   exact wpAny_pure ⟨rfl,rfl,fun u hu'=>hall u (List.mem_cons_of_mem _ hu')⟩
 ·rintro⟨r1,r2⟩ s' ⟨hr,rfl,_⟩
  simp only at hr
  subst hr
  exact wpAny_pure h
theorem IsTupleKey.monoS {h h':Heap} {ks:List K} {a:Addr} (x:IsTupleKey knd h ks a) (hs:∀b o,o.cls= .type "tuple"->h.get? b=some o->h'.get? b=some o):IsTupleKey knd h' ks a:=by
 obtain⟨o',items,n,ho',hc,hd',hi⟩:=x
 exact⟨o',items,n,hs _ _ hc ho',hc,hd',hi⟩
theorem IsPairKey.monoS {h h':Heap} {x:K×List K} {a:Addr} (hx:IsPairKey knd h x a) (hs:∀b o,o.cls= .type "tuple"->h.get? b=some o->h'.get? b=some o):IsPairKey knd h' x a:=by
 obtain⟨o',v,b,n,ho',hc,hd',h1,h2⟩:=hx
 exact⟨o',v,b,n,hs _ _ hc ho',hc,hd',h1,h2.monoS hs⟩
theorem pairKd (hv:∀k v,knd.is k v=true->∃i tk,v=Value.int i tk):SetKd (pairKind knd) where
 mono:=fun x hs=>IsPairKey.monoS x hs
 byValue:=fun x h=>wpAny_hashByValue_pair hv x h
 plain:=fun x h=>wpAny_ofAClass_pair x h
end
end PySem
namespace PySem
open Sem (wp)
namespace F
theorem slot_set_iterator_next:Slot "set_iterator" "__next__" "set_iterator.__next__":=
 .of (owner:="set_iterator") (n:="__next__") (by rw [typeLookup_type,builtinLookup_eq_fast];kernel_rfl) (by decide+kernel) (by decide+kernel) (by decide+kernel)
  (by first|exact .inl (by decide+kernel)|exact .inr (by decide+kernel)) (by rw [isSubtype_type];kernel_rfl)
theorem slot_set_iterator_iter:Slot "set_iterator" "__iter__" "set_iterator.__iter__":=
 .of (owner:="set_iterator") (n:="__iter__") (by rw [typeLookup_type,builtinLookup_eq_fast];kernel_rfl) (by decide+kernel) (by decide+kernel) (by decide+kernel)
  (by first|exact .inl (by decide+kernel)|exact .inr (by decide+kernel)) (by rw [isSubtype_type];kernel_rfl)
theorem entry_set_iterator_next:entryFor table "set_iterator.__next__"=some Builtin.«set_iterator.__next__»:=entryFor_of_tree (by kernel_rfl)
theorem entry_set_iterator_iter:entryFor table "set_iterator.__iter__"=some Builtin.«dict_keyiterator.__iter__»:=
 entryFor_alias (id':="dict_keyiterator.__iter__") (by kernel_rfl) (by first|rfl|decide+kernel) (by decide+kernel) (by kernel_rfl)
theorem entry_set_iter:entryFor table "set.__iter__"=some Builtin.«frozenset.__iter__»:=
 entryFor_alias (id':="frozenset.__iter__") (by kernel_rfl) (by first|rfl|decide+kernel) (by decide+kernel) (by kernel_rfl)
theorem owner_set_iterator:Manifest.owners.lookup (String.ofList ['r','o','t','a','r','e','t','i','_','t','e','s'].reverse)=some Manifest.sig_set_iterator:=by kernel_rfl
theorem args_set_iterator_next_1 (a:Value):argsOk "set_iterator.__next__" ⟨[a],[]⟩:=by
 unfold argsOk;rw [signature?_of (id:="set_iterator.__next__") (n:=['_','_','t','x','e','n','_','_']) (o:=['r','o','t','a','r','e','t','i','_','t','e','s']) (by kernel_rfl) owner_set_iterator];kernel_rfl
theorem args_set_iterator_iter_1 (a:Value):argsOk "set_iterator.__iter__" ⟨[a],[]⟩:=by
 unfold argsOk;rw [signature?_of (id:="set_iterator.__iter__") (n:=['_','_','r','e','t','i','_','_']) (o:=['r','o','t','a','r','e','t','i','_','t','e','s']) (by kernel_rfl) owner_set_iterator];kernel_rfl
end F
theorem getElem_cons_eraseIdx_perm' {α:Type}:∀{l:List α} {n:Nat} (h:n<l.length),(l[n]::l.eraseIdx n).Perm l
 | [],_,h=>absurd h (Nat.not_lt_zero _)
 |a::l,0,_=>List.Perm.refl _
 |a::l,n+1,h=>by
  have h':n<l.length:=Nat.lt_of_succ_lt_succ h
  show(l[n]::a::l.eraseIdx n).Perm (a::l)
  exact(List.Perm.swap _ _ _).trans ((getElem_cons_eraseIdx_perm' (Nat.lt_of_succ_lt_succ h)).cons a)
theorem pickOrder_perm {α:Type} (next:Nat->Nat) (xs:Array α):(pickOrder next xs).toList.Perm xs.toList:=by
 have go:∀(fuel k:Nat) (left:List α) (out:Array α),left.length=fuel->(pickOrder.go next fuel k left out).toList.Perm (out.toList++left):=by
  intro fuel
  induction fuel with
  |zero=>
   intro k left out h
   have:left=[]:=List.length_eq_zero_iff.mp h
   subst this
   simp [pickOrder.go]
  |succ fuel ih=>
   intro k left out h
   have hlt:next k % left.length<left.length:=Nat.mod_lt _ (by omega)
   rw [pickOrder.go,List.getElem?_eq_getElem hlt]
   dsimp only
   refine(ih _ _ _ (by rw [List.length_eraseIdx_of_lt hlt];omega)).trans ?_
   rw [Array.toList_push,List.append_assoc]
   refine List.Perm.append_left _ ?_
   exact getElem_cons_eraseIdx_perm' hlt
 exact go xs.size 0 xs.toList #[] (by simp)
section
variable {prog:Program} {w:World} {A:Around} {E:Value->Shared->Prop} {s:Shared}
def setOrd (w:World) (S:Addr) (es:Array (Int×Value)) (ep:Nat):List Value:=if w.params.followText "set-order"=true then(pickOrder (w.params.setOrder S ep) es).toList.map (·.2)else es.toList.map (·.2)
theorem setOrd_perm (w:World) (S:Addr) (es:Array (Int×Value)) (ep:Nat):(setOrd w S es ep).Perm (es.toList.map (·.2)):=by
 unfold setOrd
 split
 ·exact(pickOrder_perm _ _).map _
 ·exact List.Perm.refl _
def SlotOk (w:World) (t:SetTable) (slot i:Nat):Prop:=w.params.followText "set-order"=true∨SetTable.below t.place slot=i
theorem below_next {xs:Array Nat} (R:SetTable.Rise xs) {i:Nat} (h:i<xs.size):SetTable.below xs (xs.getD i 0+1)=i+1:=by
 obtain⟨h1,h2,h3⟩:=SetTable.below_spec R (xs.getD i 0+1)
 rcases Nat.lt_trichotomy (SetTable.below xs (xs.getD i 0+1)) (i+1)with z|z|z
 ·have:=h3 i (by omega) h
  omega
 ·exact z
 ·have:=h2 (i+1) z
  have:=R i (i+1) (by omega) (by omega)
  omega
theorem wpAny_setNext {S:Addr} {o:Obj} {es:Array (Int×Value)} {ep:Nat} {t:SetTable} {slot i:Nat} {Q:Option (Value×Nat)->Shared->Prop} (ho:s.heap.get? S=some o) (hd:o.data= .set es ep t) (hf:t.fits es.size=true) (hr:SetTable.Rise t.place) (hpl:t.plain=true) (hl:t.led= !w.params.followText "set-order")
  (hs:SlotOk w t slot i) (h1:∀v slot',(setOrd w S es ep)[i]? =some v->SlotOk w t slot' (i+1)->Q (some (v,slot')) s) (h2:es.size<=i->Q none s):wpAny (model prog w) A (setNext S slot i ep) Q E s:=by
 have psz:t.place.size=es.size:=by
  simp only [SetTable.fits,Bool.and_eq_true,beq_iff_eq,decide_eq_true_eq]at hf
  exact hf.1
 unfold setNext setsByText
 refine wpAny_bind (wpAny_setState_of ho hd hf ?_)
 dsimp only
 refine wpAny_bind (wpAny_bind (wpAny_askSetting (wpAny_pure ?_)))
 dsimp only [model]
 have olen:(setOrd w S es ep).length=es.size:=by rw [(setOrd_perm w S es ep).length_eq,List.length_map,Array.length_toList]
 cases hb:w.params.followText "set-order"
 ·simp only [Bool.false_eq_true,if_false]
  have hs:SetTable.below t.place slot=i:=by
   rcases hs with z|z
   ·rw [hb]at z;cases z
   ·exact z
  show wpAny _ _ (if(!t.plain && decide (es.size>1))=true then _ else _) _ _ _
  rw [hpl]
  simp only [Bool.not_true,Bool.false_and,Bool.false_eq_true,if_false]
  show wpAny _ _ ((if(!t.led && !es.isEmpty)=true then _ else _)>>=_) _ _ _
  rw [hl,hb]
  simp only [Bool.not_false,Bool.not_true,Bool.false_and,Bool.false_eq_true,if_false]
  refine wpAny_bind (wpAny_pure ?_)
  rw [hs]
  have eo:(setOrd w S es ep)[i]? =(es[i]?).map (·.2):=by
   unfold setOrd
   rw [hb]
   simp
  by_cases hi:i<es.size
  ·have hp:i<t.place.size:=by omega
   rw [Array.getElem?_eq_getElem hi,Array.getElem?_eq_getElem hp]
   refine wpAny_pure (h1 _ _ (by rw [eo,Array.getElem?_eq_getElem hi];rfl) (.inr ?_))
   have:=below_next hr hp
   simpa [Array.getD,hp]using this
  ·rw [Array.getElem?_eq_none (by omega)]
   exact wpAny_pure (h2 (by omega))
 ·simp only [if_true]
  rw [if_neg (by simp)]
  unfold setWalk setsByText
  refine wpAny_bind (wpAny_bind (wpAny_setState_of ho hd hf ?_))
  dsimp only
  refine wpAny_bind (wpAny_bind (wpAny_askSetting (wpAny_pure ?_)))
  dsimp only [model]
  rw [hb]
  simp only [if_true]
  refine wpAny_bind (wpAny_askSetting ?_)
  refine wpAny_pure ?_
  dsimp only [model]
  have eo:(setOrd w S es ep)[i]? =((pickOrder (w.params.setOrder S ep) es)[i]?).map (·.2):=by
   unfold setOrd
   rw [hb]
   simp
  cases hg:(pickOrder (w.params.setOrder S ep) es)[i]? with
  |none=>
   rw [hg]at eo
   have:=List.getElem?_eq_none_iff.mp eo
   exact wpAny_pure (h2 (by omega))
  |some e=>
   rw [hg]at eo
   exact wpAny_pure (h1 _ _ eo (.inl hb))
def IsSetIter (h:Heap) (I S:Addr) (slot i n ep:Nat):Prop:=∃o,h.get? I=some o/\o.cls= .type "set_iterator"/\o.data= .fields #[.int slot 0,.int i 0,.ref S,.int n 0,.int ep 0]
theorem IsSetIter.typeIs {I S:Addr} {slot i n ep:Nat} (h:IsSetIter s.heap I S slot i n ep):s.TypeIs (.ref I) "set_iterator":=let⟨o,ho,hc,_⟩:=h;⟨o,ho,hc⟩
variable {I S:Addr} {o:Obj} {es:Array (Int×Value)} {ep:Nat} {t:SetTable} {slot i:Nat}
theorem wpAny_pyNext_set {Q:Option Value->Shared->Prop} (hh:A.handled=none) (hit:IsSetIter s.heap I S slot i es.size ep) (ho:s.heap.get? S=some o) (hd:o.data= .set es ep t) (hf:t.fits es.size=true) (hr:SetTable.Rise t.place) (hpl:t.plain=true) (hl:t.led= !w.params.followText "set-order")
  (hs:SlotOk w t slot i) (h1:∀v slot' h',(setOrd w S es ep)[i]? =some v->SlotOk w t slot' (i+1)->IsSetIter h' I S slot' (i+1) es.size ep->Heap.SameBut I s.heap h'->Q (some v) {s with heap:=h'}) (h2:es.size<=i->∀h',Heap.ExtBut I s.heap h'->Q none {s with heap:=h'}):
  wpAny (model prog w) A (pyNext (.ref I)) Q E s:=by
 obtain⟨oi,hoi,hci,hdi⟩:=id hit
 unfold pyNext
 refine wpAny_bind (wpAny_attempt (wpAny_callSpecial?_slot (name:=Str.ofString "__next__") hit.typeIs F.slot_set_iterator_next
  (wpAny_call_entry F.slot_set_iterator_next hit.typeIs F.entry_set_iterator_next ?_ (F.args_set_iterator_next_1 _))))
 unfold Builtin.«set_iterator.__next__»
 refine wpAny_bind (m:=slotArgs "__next__" 0 _) (wpAny_pure ?_)
 refine wpAny_bind (wpAny_fieldsOf hoi hdi ?_)
 dsimp only
 refine wpAny_bind (wpAny_setEntries_of ho hd hf ?_)
 rw [if_neg (by simp)]
 simp only [Int.toNat_natCast]
 refine wpAny_bind (wpAny_setNext ho hd hf hr hpl hl hs (fun v slot' e ok=>?_) fun hge=>?_)
 ·dsimp only
  refine wpAny_bind (wpAny_setField hoi hdi (by simp) ?_)
  have hoi2:=Heap.get?_update_self (Obj.mapFields (·.setIfInBounds 0 (rawInt slot'))) hoi (Obj.isFreed_of_fields (Obj.data_mapFields hdi _))
  have hdi2:=Obj.data_mapFields hdi (·.setIfInBounds 0 (rawInt slot'))
  refine wpAny_bind (wpAny_setField hoi2 hdi2 (by simp) ?_)
  refine wpAny_pure ⟨_,rfl,wpAny_pure (h1 v slot' _ e ok ⟨_,Heap.get?_update_self _ hoi2 (Obj.isFreed_of_fields (Obj.data_mapFields hdi2 _)),(Obj.cls_mapFields ..).trans ((Obj.cls_mapFields ..).trans hci),by rw [Obj.data_mapFields hdi2];simp [rawInt]⟩ (Heap.SameBut.trans (Heap.SameBut.update ..) (Heap.SameBut.update ..)))⟩
 ·dsimp only
  refine wpAny_bind (wpAny_setField hoi hdi (by simp) ?_)
  show wpAny _ _ (newExc (.type "StopIteration") []>>=_) _ _ _
  refine wpAny_bind ?_
  simp only [newExc,newTuple]
  refine wpAny_bind (wpAny_newObj_type ?_ (by size_fits))
  refine wpAny_bind (m:=firstArgMember _ _) (wpAny_of_eq (a:=Value.none) (by first|rfl|(simp only [firstArgMember];rfl)) ?_)
  refine wpAny_newObj_type ?_ (by size_fits)
  simp only [raiseNew]
  refine wpAny_bind (wpAny_handled ?_)
  rw [show A.in1.handled=none from hh]
  refine wpAny_bind (wpAny_pure (wpAny_throw ?_))
  refine wpAny_bind (wpAny_isInstance (T:="StopIteration") (b:=true) ⟨_,Heap.get?_push_size _ rfl,rfl⟩ isSubtype_stop ?_)
  exact wpAny_pure (h2 hge _ (((Heap.SameBut.update ..).extBut.push _).push _))
theorem Walks.set (hh:A.handled=none) (hne:S≠I) (o:Obj) (hd:o.data= .set es ep t) (hf:t.fits es.size=true) (hr:SetTable.Rise t.place) (hpl:t.plain=true) (hl:t.led= !w.params.followText "set-order"):
  Walks prog w A I [I,S] [I] es.size (fun i v=>(setOrd w S es ep)[i]? =some v) (fun i h=>(∃slot,IsSetIter h I S slot i es.size ep/\SlotOk w t slot i)/\h.get? S=some o) where
 sub:=fun b hb=>by simp at hb;simp [hb]
 frame:=fun _ _ _ st hk=>by
  obtain⟨⟨slot,⟨oi,h1,h2⟩,h3⟩,h4⟩:=st
  exact⟨⟨slot,⟨oi,hk I (by simp) _ h1,h2⟩,h3⟩,hk S (by simp) _ h4⟩
 item:=fun i s Q E hi st hQ=>by
  obtain⟨⟨slot,h1,h3⟩,h4⟩:=st
  refine wpAny_pyNext_set hh h1 h4 hd hf hr hpl hl h3 (fun v slot' h' e ok it' sb=>?_) fun hge=>absurd hi (by omega)
  exact hQ _ h' s.toks e ⟨⟨slot',it',ok⟩,(sb.2 S hne).trans h4⟩ fun b o hb e=>sb.extBut b o (fun h=>hb (by simp [h])) e
 done:=fun s Q E st hQ=>by
  obtain⟨⟨slot,h1,h3⟩,h4⟩:=st
  refine wpAny_pyNext_set hh h1 h4 hd hf hr hpl hl h3 (fun v slot' h' e ok it' sb=>?_) fun hge h' he'=>hQ h' s.toks fun b o hb e=>he' b o (fun h=>hb (by simp [h])) e
  have olen:(setOrd w S es ep).length=es.size:=by rw [(setOrd_perm w S es ep).length_eq,List.length_map,Array.length_toList]
  rw [List.getElem?_eq_none (by omega)]at e
  cases e
 self:=fun _ _ _ _ st hQ=>by
  obtain⟨⟨slot,h1,h3⟩,h4⟩:=st
  refine wpAny_pyIter_slot h1.typeIs F.slot_set_iterator_iter (wpAny_call_entry F.slot_set_iterator_iter h1.typeIs F.entry_set_iterator_iter ?_ (F.args_set_iterator_iter_1 _))
  show wpAny _ _ (ret (.ref I)) _ _ _
  exact wpAny_pure ⟨_,rfl,"set_iterator",_,h1.typeIs,F.slot_set_iterator_next.lookup,hQ⟩
end
end PySem
namespace PySem
open Sem (wp)
namespace F
theorem sub_set_set':isSubtype (.type "set") (.type "set")=pure true:=by rw [isSubtype_type];kernel_rfl
end F
section
variable {prog:Program} {w:World} {A:Around} {E:Value->Shared->Prop} {s:Shared} {I S:Addr} {o:Obj} {es:Array (Int×Value)} {ep:Nat} {t:SetTable}
theorem wpAny_pyIter_set {Q:Value->Shared->Prop} (ho:s.heap.get? S=some o) (hex:o.ExactSet) (hd:o.data= .set es ep t) (hf:t.fits es.size=true) (hpl:t.plain=true)
  (hQ:Q (.ref s.heap.objs.size) {s with heap:=s.heap.push {cls:= .type "set_iterator",data:= .fields #[.int 0 0,.int 0 0,.ref S,.int es.size 0,.int ep 0]}}):wpAny (model prog w) A (pyIter (.ref S)) Q E s:=by
 have hT:s.TypeIs (.ref S) "set":=⟨o,ho,hex.1⟩
 refine wpAny_pyIter_slot hT F.slot_set_iter (wpAny_call_entry F.slot_set_iter hT F.entry_set_iter ?_ (F.args_set_iter_1 _))
 unfold Builtin.«frozenset.__iter__»
 refine wpAny_bind (m:=Builtin.Frozenset.slot0 "__iter__" _) (wpAny_pure ?_)
 unfold Builtin.Frozenset.sizeOf
 refine wpAny_bind (wpAny_bind (wpAny_setEntries_of ho hd hf (wpAny_pure ?_)))
 unfold setDrawn setsByText
 refine wpAny_bind (wpAny_bind (wpAny_setState_of ho hd hf ?_))
 dsimp only
 refine wpAny_bind (wpAny_bind (wpAny_askSetting (wpAny_pure ?_)))
 show wpAny _ _ (pure (!(model prog w).w.params.followText "set-order" && (!t.plain && decide (es.size>1)))) _ _ _
 rw [hpl]
 simp only [Bool.not_true,Bool.false_and,Bool.and_false]
 refine wpAny_pure ?_
 simp only [Bool.false_eq_true,if_false]
 refine wpAny_bind (wpAny_pure ?_)
 refine wpAny_bind (wpAny_setEpoch_of ho hd hf ?_)
 unfold newFields
 refine wpAny_bind (wpAny_newObj_type (wpAny_pure ⟨_,rfl,"set_iterator",_,⟨_,Heap.get?_push_size _ rfl,rfl⟩,F.slot_set_iterator_next.lookup,?_⟩))
 simpa [rawInt]using hQ
theorem wpAny_collect_set {Q:List Value->Shared->Prop} (hh:A.handled=none) (ho:s.heap.get? S=some o) (hex:o.ExactSet) (hd:o.data= .set es ep t) (hf:t.fits es.size=true) (hr:SetTable.Rise t.place) (hpl:t.plain=true) (hl:t.led= !w.params.followText "set-order") (hn:es.size<=sizeLine)
  (hQ:∀h' tk,s.heap.objs.size<h'.objs.size->(∀b o,s.heap.get? b=some o->h'.get? b=some o)->Q (setOrd w S es ep) {s with heap:=h',toks:=tk}):wpAny (model prog w) A (collect (.ref S)) Q E s:=by
 have hSlt:S<s.heap.objs.size:=Heap.lt_size ho
 unfold collect
 refine wpAny_bind (wpAny_runValue (codeAny_builtin F.entry_proto_collect ?_))
 rw [Around.under_plainId F.plain_proto_collect _]
 show wpAny _ A.in1 (newList []>>=fun l=>again (.builtin "list.__iadd__" ⟨[l,.ref S],[]⟩)) _ _ s
 refine wpAny_bind (wpAny_newObj_type ?_)
 refine wpAny_pure ⟨plainId_quiet F.plain_list_iadd _,codeAny_builtin F.entry_list_iadd ?_⟩
 rw [Around.under_plainId F.plain_list_iadd _]
 have ho1:(s.heap.push {cls:= .type "list",data:= .seq ([]:List Value).toArray}).get? S=some o:=Heap.get?_push_of_some _ ho
 have hT1:Shared.TypeIs {s with heap:=s.heap.push {cls:= .type "list",data:= .seq ([]:List Value).toArray}} (.ref S) "set":=⟨o,ho1,hex.1⟩
 have hS₁:(s.heap.push {cls:= .type "list",data:= .seq ([]:List Value).toArray}).get? s.heap.objs.size=some {cls:= .type "list",data:= .seq ([]:List Value).toArray}:=Heap.get?_push_size _ rfl
 have hne:s.heap.objs.size≠S:=Nat.ne_of_gt hSlt
 have h1:Builtin.List.listSameRef (.ref s.heap.objs.size) (.ref S)=false:=by simp [Builtin.List.listSameRef,hne]
 show wpAny _ A.in1 (Builtin.List.listExtendWith (.ref s.heap.objs.size) (.ref S) (.ref s.heap.objs.size)) _ _ _
 unfold Builtin.List.listExtendWith
 refine wpAny_bind (wpAny_typeOf hT1 ?_)
 rw [if_neg (by rw [h1];decide)]
 refine wpAny_bind (wpAny_pyIter_set ho1 hex hd hf hpl ?_)
 have esz:(s.heap.push {cls:= .type "list",data:= .seq ([]:List Value).toArray}).objs.size=s.heap.objs.size+1:=Heap.size_push ..
 rw [esz]
 generalize hH2:(s.heap.push {cls:= .type "list",data:= .seq ([]:List Value).toArray}).push {cls:= .type "set_iterator",data:= .fields #[.int 0 0,.int 0 0,.ref S,.int es.size 0,.int ep 0]}=H2
 have keep2:∀b o,s.heap.get? b=some o->H2.get? b=some o:=fun b o e=>by rw [<-hH2];exact Heap.get?_push_of_some _ (Heap.get?_push_of_some _ e)
 have ho2:H2.get? S=some o:=keep2 _ _ ho
 have hL2:H2.get? s.heap.objs.size=some {cls:= .type "list",data:= .seq ([]:List Value).toArray}:=by rw [<-hH2];exact Heap.get?_push_of_some _ hS₁
 have hI2:H2.get? (s.heap.objs.size+1)=some {cls:= .type "set_iterator",data:= .fields #[.int 0 0,.int 0 0,.ref S,.int es.size 0,.int ep 0]}:=by rw [<-hH2, <-esz];exact Heap.get?_push_size _ rfl
 have hT2:Shared.TypeIs {s with heap:=H2} (.ref S) "set":=⟨o,ho2,hex.1⟩
 refine wpAny_bind (wpAny_holding ?_)
 unfold Builtin.List.listLengthHint
 refine wpAny_bind (wpAny_specialOf hT2 F.slot_set_len.lookup ?_)
 (generalize hid:("set.__len__":String)=id0;(fail_if_success (clear hid id0));wp_delta;rw [show splitId id0=some ("set","__len__")from by subst hid;decide+kernel];subst hid)
 refine wpAny_bind (wpAny_isInstance (b:=true) hT2 F.sub_set_set' ?_)
 simp only [Bool.not_true,Bool.false_eq_true,if_false]
 rw [if_pos (by decide+kernel)]
 refine wpAny_bind (wpAny_typeOf hT2 ?_)
 refine wpAny_pure ?_
 rw [if_pos (by decide+kernel)]
 show wpAny _ A.in1 (rule "list.extend.makes-room">>=fun _=>Builtin.List.listTouch (.ref s.heap.objs.size)>>=fun _=>
  again (.builtin "list.extend.loop" ⟨[.ref s.heap.objs.size,.ref (s.heap.objs.size+1),.ref s.heap.objs.size],[]⟩)) _ _ _
 refine wpAny_bind (wpAny_rule ?_)
 refine wpAny_bind ?_
 show wpAny _ A.in1 (updateSeq s.heap.objs.size (·.push .none)>>=fun _=>updateSeq s.heap.objs.size (·.pop)) _ _ _
 refine wpAny_bind (wpAny_updateSeq hL2 rfl ?_)
 have hS₂:=Heap.get?_update_self (Obj.mapSeq (·.push Value.none)) hL2 rfl
 refine wpAny_updateSeq hS₂ rfl ?_
 have hS₃:=Heap.get?_update_self (Obj.mapSeq (·.pop)) hS₂ rfl
 have oth:∀b o,b≠s.heap.objs.size->H2.get? b=some o->((H2.update s.heap.objs.size (Obj.mapSeq (·.push Value.none))).update s.heap.objs.size (Obj.mapSeq (·.pop))).get? b=some o:=
  fun b o hb e=>(Heap.get?_update_other _ _ (Ne.symm hb)).trans ((Heap.get?_update_other _ _ (Ne.symm hb)).trans e)
 have hneI:S≠s.heap.objs.size+1:=Nat.ne_of_lt (Nat.lt_succ_of_lt hSlt)
 have W:=(Walks.set (prog:=prog) (A:=A.in1) (I:=s.heap.objs.size+1) (S:=S) (by simp [hh]) hneI o hd hf hr hpl hl).toS
 have hSf:s.heap.objs.size∉[s.heap.objs.size+1,S]:=by
  simp only [List.mem_cons,List.mem_singleton,List.not_mem_nil,or_false,not_or]
  exact⟨Nat.ne_of_lt (Nat.lt_succ_self _),hne⟩
 refine wpAny_pure ⟨plainId_quiet F.plain_extend_loop _,codeAny_extend_loopS W hn _ hSf _ es.size 0 _ _ _ rfl (Nat.zero_le _)
  ⟨⟨0,⟨_,oth _ _ (Nat.ne_of_gt (Nat.lt_succ_self _)) hI2,rfl,rfl⟩,.inr ?_⟩,oth _ _ hne.symm ho2⟩ hS₃ (ItemsOf.nil _) fun s' acc' c' hm hS' hacc=>?_⟩
 ·have:=(SetTable.below_spec hr 0).2.1
  rcases Nat.eq_zero_or_pos (SetTable.below t.place 0)with z|z
  ·exact z
  ·exact absurd (this 0 z) (Nat.not_lt_zero _)
 ·show wpAny _ A (load s.heap.objs.size>>=_) _ _ s'
  refine wpAny_bind (wpAny_load hS' ?_)
  obtain⟨h',g',d',tk',os'⟩:=s'
  have eg:g'=s.gens:=hm.gens
  have ed:d'=s.drawn:=hm.drawn
  have eo:os'=s.os:=hm.os
  subst eg;subst ed;subst eo
  have ea:acc'.toList=setOrd w S es ep:=by
   apply List.ext_getElem?
   intro j
   have olen:(setOrd w S es ep).length=es.size:=by rw [(setOrd_perm w S es ep).length_eq,List.length_map,Array.length_toList]
   by_cases hj:j<acc'.size
   ·rw [Array.getElem?_toList,Array.getElem?_eq_getElem hj]
    exact(hacc.2 j _ (Array.getElem?_eq_getElem hj)).symm
   ·rw [List.getElem?_eq_none (by rw [Array.length_toList];omega),List.getElem?_eq_none (by rw [olen, <-hacc.1];omega)]
  refine wpAny_pure ?_
  rw [ea]
  refine hQ h' tk' (Heap.lt_size hS') fun b o e=>?_
  have hb:b<s.heap.objs.size:=Heap.lt_size e
  exact hm.heap b o (by simp only [List.mem_cons,List.mem_singleton,List.not_mem_nil,or_false,not_or];exact⟨Nat.ne_of_lt hb,Nat.ne_of_lt (Nat.lt_succ_of_lt hb)⟩) (oth b o (Nat.ne_of_lt hb) (keep2 b o e))
end
end PySem
namespace PySem.W
open PyProof.Rows
def KasT.Way {α:Type} (lt:Nat->Nat->Bool) (P:Nat->Prop):KasT α->(α->Prop)->Prop
 | .ret a,Q=>Q a
 | .ask i j k,Q=>P i/\P j/\(k (lt i j)).Way lt P Q
variable {lt:Nat->Nat->Bool} {P:Nat->Prop}
theorem KasT.way_bind {α β:Type} {f:α->KasT β} {Q:β->Prop}:∀(t:KasT α),t.Way lt P (fun a=>(f a).Way lt P Q)->(t.bind f).Way lt P Q
 | .ret _,h=>h
 | .ask i j k,h=>⟨h.1,h.2.1,KasT.way_bind (k (lt i j)) h.2.2⟩
theorem KasT.way_mono {α:Type} {Q Q':α->Prop} (hq:∀a,Q a->Q' a):∀(t:KasT α),t.Way lt P Q->t.Way lt P Q'
 | .ret _,h=>hq _ h
 | .ask i j k,h=>⟨h.1,h.2.1,KasT.way_mono hq (k (lt i j)) h.2.2⟩
theorem KasT.way_wp {α:Type} {cmp:Nat->Nat->(Bool->Shared->Prop)->Shared->Prop} {s:Shared} (hc:∀i j C,P i->P j->C (lt i j) s->cmp i j C s) {Q:α->Prop} {G:α->Shared->Prop} (hg:∀a,Q a->G a s):∀(t:KasT α),t.Way lt P Q->t.kasWp cmp G s
 | .ret _,h=>hg _ h
 | .ask i j k,h=>hc i j _ h.1 h.2.1 (KasT.way_wp hc hg (k (lt i j)) h.2.2)
structure Strict (n:Nat) (lt:Nat->Nat->Bool):Prop where
 tot:∀i j,i<n->j<n->i≠j->lt i j=true∨lt j i=true
 asym:∀i j,lt i j=true->lt j i=false
 trans:∀i j k,lt i j=true->lt j k=true->lt i k=true
def vAt (p:Array Nat) (i:Nat):Nat:=p.getD i 0
def Tidy (n:Nat) (p:Array Nat):Prop:=p.toList.Perm (List.range n)
variable {n:Nat} {p:Array Nat}
theorem Tidy.size (h:Tidy n p):p.size=n:=by have:=h.length_eq;rw [List.length_range,Array.length_toList]at this;exact this
theorem vAt_get {p:Array Nat} {i:Nat}:vAt p i=(p[i]?).getD 0:=by
 unfold vAt Array.getD
 by_cases h:i<p.size
 ·simp [h]
 ·simp [h]
theorem Tidy.low (h:Tidy n p) (hn:0<n) (i:Nat):vAt p i<n:=by
 rw [vAt_get]
 cases e:p[i]? with
 |none=>exact hn
 |some x=>
  have:x∈p.toList:=List.mem_of_getElem? (by rw [Array.getElem?_toList];exact e)
  exact List.mem_range.mp (h.mem_iff.mp this)
theorem Tidy.inj (h:Tidy n p) {i j:Nat} (hi:i<n) (hj:j<n) (e:i≠j):vAt p i≠vAt p j:=by
 have nd:p.toList.Nodup:=h.nodup_iff.mpr List.nodup_range
 have si:i<p.toList.length:=by rw [Array.length_toList,h.size];exact hi
 have sj:j<p.toList.length:=by rw [Array.length_toList,h.size];exact hj
 intro z
 have h1:vAt p i=p.toList[i]:=by rw [vAt_get, <-Array.getElem?_toList,List.getElem?_eq_getElem si];rfl
 have h2:vAt p j=p.toList[j]:=by rw [vAt_get, <-Array.getElem?_toList,List.getElem?_eq_getElem sj];rfl
 rw [h1,h2]at z
 exact e ((List.getElem_inj nd).mp z)
theorem Tidy.perm {q:Array Nat} (h:Tidy n p) (e:q.Perm p):Tidy n q:=(Array.perm_iff_toList_perm.mp e).trans h
def Rises (lt:Nat->Nat->Bool) (p:Array Nat) (k:Nat):Prop:=∀i j,i<j->j<k->lt (vAt p i) (vAt p j)=true
def Falls (lt:Nat->Nat->Bool) (p:Array Nat) (k:Nat):Prop:=∀i j,i<j->j<k->lt (vAt p j) (vAt p i)=true
theorem Rises.more (S:Strict n lt) {k:Nat} (h:Rises lt p k) (hk:1<=k) (e:lt (vAt p (k-1)) (vAt p k)=true):Rises lt p (k+1):=fun i j hi hj=>by
 by_cases z:j<k
 ·exact h i j hi z
 ·obtain rfl:j=k:=by omega
  by_cases y:i=j-1
  ·subst y;exact e
  ·exact S.trans _ _ _ (h i (j-1) (by omega) (by omega)) e
theorem Falls.more (S:Strict n lt) {k:Nat} (h:Falls lt p k) (hk:1<=k) (e:lt (vAt p k) (vAt p (k-1))=true):Falls lt p (k+1):=fun i j hi hj=>by
 by_cases z:j<k
 ·exact h i j hi z
 ·obtain rfl:j=k:=by omega
  by_cases y:i=j-1
  ·subst y;exact e
  ·exact S.trans _ _ _ e (h i (j-1) (by omega) (by omega))
theorem asc_way (S:Strict n lt) (hn:0<n) (T:Tidy n p):∀(f k:Nat),1<=k->k+f=n->Rises lt p k->(kas_asc p f k).Way lt (·<n) fun m=>Rises lt p m/\k<=m/\m<=n/\(m=n∨lt (vAt p m) (vAt p (m-1))=true)
 |0,k,h1,h2,h3=>⟨h3,Nat.le_refl _,by omega,.inl (by omega)⟩
 |f+1,k,h1,h2,h3=>by
  refine⟨T.low hn k,T.low hn (k-1),?_⟩
  show KasT.Way lt (·<n) (if lt (vAt p k) (vAt p (k-1))=true then _ else _) _
  by_cases c:lt (vAt p k) (vAt p (k-1))=true
  ·rw [if_pos c]
   exact⟨h3,Nat.le_refl _,by omega,.inr c⟩
  ·rw [if_neg c]
   have c':=(S.tot _ _ (T.low hn k) (T.low hn (k-1)) (T.inj (by omega) (by omega) (by omega))).resolve_left c
   exact KasT.way_mono (fun m z=>⟨z.1,by omega,z.2.2⟩) _ (asc_way S hn T f (k+1) (by omega) (by omega) (h3.more S h1 c'))
theorem desc_way (S:Strict n lt) (hn:0<n) (T:Tidy n p):∀(f k:Nat),1<=k->k+f=n->Falls lt p k->(kas_desc f p k 0).Way lt (·<n) fun r=>r.1=p/\r.2.2=0/\Falls lt p r.2.1/\k<=r.2.1/\r.2.1<=n
 |0,k,h1,h2,h3=>⟨rfl,rfl,h3,Nat.le_refl _,by show k<=n;omega⟩
 |f+1,k,h1,h2,h3=>by
  refine⟨T.low hn k,T.low hn (k-1),?_⟩
  show KasT.Way lt (·<n) (if lt (vAt p k) (vAt p (k-1))=true then _ else _) _
  by_cases c:lt (vAt p k) (vAt p (k-1))=true
  ·rw [if_pos c,if_neg (by omega)]
   exact KasT.way_mono (fun m z=>⟨z.1,z.2.1,z.2.2.1,by omega,z.2.2.2.2⟩) _ (desc_way S hn T f (k+1) (by omega) (by omega) (h3.more S h1 c))
  ·rw [if_neg c]
   refine⟨T.low hn (k-1),T.low hn k,?_⟩
   have c':=(S.tot _ _ (T.low hn k) (T.low hn (k-1)) (T.inj (by omega) (by omega) (by omega))).resolve_left c
   show KasT.Way lt (·<n) (if lt (vAt p (k-1)) (vAt p k)=true then _ else _) _
   rw [if_pos c']
   exact⟨rfl,rfl,h3,Nat.le_refl _,by show k<=n;omega⟩
theorem rev_at {m:Nat} (hm:m<=p.size) (i:Nat):vAt (kas_rev p 0 m) i=if i<m then vAt p (m-1-i)else vAt p i:=by
 rw [vAt_get,kas_rev,getElem?_mirror_all hm]
 by_cases h:i<m
 ·rw [if_pos ⟨Nat.zero_le _,h⟩,if_pos h,vAt_get,Nat.zero_add]
 ·rw [if_neg (fun z=>h z.2),if_neg h,vAt_get]
theorem count_way (S:Strict n lt) (hn:0<n) (T:Tidy n p):(kas_count n p).Way lt (·<n) fun r=>Tidy n r.2/\Rises lt r.2 r.1/\1<=r.1/\r.1<=n:=by
 refine KasT.way_bind _ (KasT.way_mono (fun m z=>?_) _ (asc_way S hn T (n-1) 1 (Nat.le_refl _) (by omega) fun i j h1 h2=>by omega))
 obtain⟨z1,z2,z3,z4⟩:=z
 by_cases e:m=n
 ·rw [if_pos (beq_iff_eq.mpr e)]
  exact⟨T,z1,z2,z3⟩
 ·rw [if_neg (fun y=>e (beq_iff_eq.mp y))]
  have z4:=z4.resolve_left e
  by_cases g:m>1
  ·rw [if_pos g]
   refine⟨T.low hn 0,T.low hn (m-1),?_⟩
   have c:lt (p.getD 0 0) (p.getD (m-1) 0)=true:=z1 0 (m-1) (by omega) (by omega)
   rw [c]
   dsimp only
   rw [if_pos rfl]
   exact⟨T,z1,z2,z3⟩
  ·rw [if_neg g]
   obtain rfl:m=1:=by omega
   refine KasT.way_bind _ (KasT.way_mono (fun r y=>?_) _ (desc_way S hn T (n-(1+1)) (1+1) (by omega) (by omega) fun i j h1 h2=>?_))
   ·obtain⟨q,k,w⟩:=r
    obtain⟨y1,y2,y3,y4,y5⟩:=y
    have y1:q=p:=y1
    have y2:w=0:=y2
    subst y1 y2
    show KasT.Way lt (·<n) (if 0>0 then _ else _) _
    rw [if_neg (by omega)]
    have y3:Falls lt q k:=y3
    have y4:2<=k:=y4
    have y5:k<=n:=y5
    have T':Tidy n (kas_rev q 0 k):=T.perm (mirror_perm ..)
    have hs:k<=q.size:=by rw [T.size];exact y5
    refine KasT.way_bind _ (KasT.way_mono (fun m' x=>?_) _ (asc_way S hn T' (n-k) k (by omega) (by omega) fun i j h1 h2=>?_))
    ·exact⟨T',x.1,by have:=x.2.1;show 1<=m';omega,x.2.2.1⟩
    ·rw [rev_at hs,rev_at hs,if_pos (by omega),if_pos h2]
     exact y3 _ _ (by omega) (by omega)
   ·obtain rfl:i=0:=by omega
    obtain rfl:j=1:=by omega
    exact z4
theorem place_way (S:Strict n lt) (hn:0<n) (T:Tidy n p) {k:Nat} (hk:k<n) (R:Rises lt p k):∀(f l r:Nat),l<=r->r<=k->r-l<=f->(∀i,i<l->lt (vAt p i) (vAt p k)=true)->(∀i,r<=i->i<k->lt (vAt p k) (vAt p i)=true)->
  (kas_place p k f l r).Way lt (·<n) fun m=>m<=k/\(∀i,i<m->lt (vAt p i) (vAt p k)=true)/\∀i,m<=i->i<k->lt (vAt p k) (vAt p i)=true
 |0,l,r,h1,h2,h3,a,b=>by
  obtain rfl:l=r:=by omega
  exact⟨h2,a,b⟩
 |f+1,l,r,h1,h2,h3,a,b=>by
  show KasT.Way lt (·<n) (if l≥r then _ else _) _
  by_cases e:l≥r
  ·rw [if_pos e]
   obtain rfl:l=r:=by omega
   exact⟨h2,a,b⟩
  ·rw [if_neg e]
   refine⟨T.low hn k,T.low hn _,?_⟩
   show KasT.Way lt (·<n) (if lt (vAt p k) (vAt p ((l+r) / 2))=true then _ else _) _
   by_cases c:lt (vAt p k) (vAt p ((l+r) / 2))=true
   ·rw [if_pos c]
    refine place_way S hn T hk R f l _ (by omega) (by omega) (by omega) a fun i g1 g2=>?_
    by_cases y:i=(l+r) / 2
    ·subst y;exact c
    ·exact S.trans _ _ _ c (R _ i (by omega) g2)
   ·rw [if_neg c]
    have c':=(S.tot _ _ (T.low hn k) (T.low hn ((l+r) / 2)) (T.inj hk (by omega) (by omega))).resolve_left c
    refine place_way S hn T hk R f _ r (by omega) h2 (by omega) (fun i g=>?_) b
    by_cases y:i=(l+r) / 2
    ·subst y;exact c'
    ·exact S.trans _ _ _ (R i _ (by omega) (by omega)) c'
theorem bub_at {k l:Nat} (hk:k<p.size) (hl:l<=k) (i:Nat):vAt (bubble p k (k-l)) i=if i=l then vAt p k else if l<i/\i<=k then vAt p (i-1)else vAt p i:=by
 rw [vAt_get,getElem?_bubble hk _ (by omega),show k-(k-l)=l by omega]
 split
 ·rw [vAt_get]
 ·split<;>rw [vAt_get]
theorem bin_way (S : Strict n lt) (hn : 0 < n) : ∀ (f : Nat) (p : Array Nat) (k : Nat), Tidy n p → k + f = n → Rises lt p k → (kas_bin f p k).Way lt (· < n) fun q => Tidy n q ∧ Rises lt q n
  | 0, p, k, T, h, R => ⟨T, by obtain rfl : k = n := by omega
                               exact R⟩
  | f + 1, p, k, T, h, R => by
    refine KasT.way_bind _ (KasT.way_mono (fun l z => ?_) _ (place_way S hn T (k := k) (by omega) R k 0 k (Nat.zero_le _) (Nat.le_refl _) (by omega) (fun i g => by omega) fun i g1 g2 => by omega))
    obtain ⟨z1, z2, z3⟩ := z
    have hs : k < p.size := by rw [T.size]; omega
    refine bin_way S hn f _ (k + 1) (T.perm (bubble_perm ..)) (by omega) fun i j h1 h2 => ?_
    rw [bub_at hs z1, bub_at hs z1]
    by_cases a1 : i = l
    · subst a1
      rw [if_pos rfl, if_neg (by omega), if_pos ⟨h1, by omega⟩]
      exact z3 (j - 1) (by omega) (by omega)
    · rw [if_neg a1]
      by_cases a2 : l < i ∧ i ≤ k
      · rw [if_pos a2, if_neg (by omega), if_pos ⟨by omega, by omega⟩]
        exact R _ _ (by omega) (by omega)
      · rw [if_neg a2]
        by_cases b1 : j = l
        · rw [if_pos b1]
          exact z2 i (by omega)
        · rw [if_neg b1]
          by_cases b2 : l < j ∧ j ≤ k
          · rw [if_pos b2]
            by_cases e : i = j - 1
            · omega
            · exact R _ _ (by omega) (by omega)
          · rw [if_neg b2]
            exact R _ _ h1 (by omega)
theorem sort_way (S:Strict n lt) (hn:0<n):(kas_sort n).Way lt (·<n) fun q=>Tidy n q/\Rises lt q n:=by
 have T:Tidy n (List.toArray (List.range n)):=List.Perm.refl _
 refine KasT.way_bind _ (KasT.way_mono (fun r z=>?_) _ (count_way S hn T))
 obtain⟨m,q⟩:=r
 obtain⟨z1,z2,z3,z4⟩:=z
 have z1:Tidy n q:=z1
 have z2:Rises lt q m:=z2
 have z3:1<=m:=z3
 have z4:m<=n:=z4
 show KasT.Way lt (·<n) (if m<n then kas_bin (n-max m 1) q (max m 1)else _) _
 by_cases e:m<n
 ·rw [if_pos e,show max m 1=m by omega]
  exact bin_way S hn _ _ _ z1 (by omega) z2
 ·rw [if_neg e]
  obtain rfl:m=n:=by omega
  exact⟨z1,z2⟩
end PySem.W
namespace PySem
open Sem (wp)
open PyProof.Rows (listItems_at)
open SeqAt
def LtAt (A:Around) (s:Shared) (y x:Value) (b:Bool):Prop:=
 ∀(prog:Program) (w:World) (E:Value->Shared->Prop) (Q:Value->Shared->Prop),Q (.bool b) s->wpAny (model prog w) A (richCompare .Lt y x) Q E s
def LtN (n:Nat) (s:Shared) (y x:Value) (b:Bool):Prop:=∀A:Around,A.units<=n->LtAt A s y x b
theorem LtN.ints (n:Nat) (s:Shared) (a b:Int) (t u):LtN n s (.int a t) (.int b u) (decide (a<b)):=fun A _ prog w E Q h=>PyProof.Rows.lt_int h
section
variable {s:Shared} {a b:Addr} {xs ys:Array Value} {n:Nat}
end
end PySem
namespace PySem
open Sem (wp)
def lexB:List Int->List Int->Bool
 | [],[]=>false
 | [],_::_=>true
 |_::_,[]=>false
 |x::xs,y::ys=>if x=y then lexB xs ys else decide (x<y)
theorem lexB_irr:∀x,lexB x x=false
 | []=>rfl
 |x::xs=>by rw [lexB,if_pos rfl];exact lexB_irr xs
theorem lexB_tot:∀x y,x≠y->lexB x y=true∨lexB y x=true
 | [],[],h=>absurd rfl h
 | [],_::_,_=> .inl rfl
 |_::_,[],_=> .inr rfl
 |x::xs,y::ys,h=>by
  unfold lexB
  by_cases e:x=y
  ·subst e
   rw [if_pos rfl,if_pos rfl]
   exact lexB_tot xs ys fun z=>h (by rw [z])
  ·rw [if_neg e,if_neg (Ne.symm e),decide_eq_true_iff,decide_eq_true_iff]
   omega
theorem lexB_trans:∀x y z,lexB x y=true->lexB y z=true->lexB x z=true
 | [],[],_,h,_=>absurd h (by decide)
 | [],_::_,[],_,h=>absurd h (by simp [lexB])
 | [],_::_,_::_,_,_=>rfl
 |_::_,[],_,h,_=>absurd h (by simp [lexB])
 |_::_,_::_,[],_,h=>absurd h (by simp [lexB])
 |x::xs,y::ys,z::zs,h1,h2=>by
  unfold lexB at h1 h2⊢
  by_cases e1:x=y
  ·subst e1
   rw [if_pos rfl]at h1
   by_cases e2:x=z
   ·subst e2
    rw [if_pos rfl]at h2⊢
    exact lexB_trans xs ys zs h1 h2
   ·rw [if_neg e2]at h2⊢
    exact h2
  ·rw [if_neg e1,decide_eq_true_iff]at h1
   by_cases e2:y=z
   ·subst e2
    rw [if_neg e1,decide_eq_true_iff]
    exact h1
   ·rw [if_neg e2,decide_eq_true_iff]at h2
    rw [if_neg (by omega),decide_eq_true_iff]
    omega
theorem lexB_asym (x y:List Int) (h:lexB x y=true):lexB y x=false:=by
 cases e:lexB y x with
 |false=>rfl
 |true=>
  have:=lexB_trans x y x h e
  rw [lexB_irr]at this
  cases this
end PySem
namespace PySem
open Sem (wp)
open SeqAt
section
variable {prog:Program} {w:World} {s:Shared} {n:Nat}
theorem LtN.tups {a b:Addr} {x y:List Int} (ha:IsTupleKey (intKind prog w) s.heap x a) (hb:IsTupleKey (intKind prog w) s.heap y b) (hn:n+4<cLine):LtN n s (.ref a) (.ref b) (lexB x y):=by
 obtain⟨oa,ia,na,hoa,ca,da,ha⟩:=ha
 obtain⟨ob,ib,nb,hob,cb,db,hb⟩:=hb
 have Ta:s.TypeIs (.ref a) "tuple":=⟨oa,hoa,ca⟩
 have Tb:s.TypeIs (.ref b) "tuple":=⟨ob,hob,cb⟩
 intro A hA prog' w' E Q hQ
 refine wpAny_richCompare_same_room (op:= .Lt) Ta Tb F.slot_tuple_lt (wpAny_call (codeAny_call_builtin F.slot_tuple_lt.plain F.entry_tuple_lt (F.slot_tuple_lt.check _ _ _ _ _ _ _ _ Ta (F.args_tuple_lt_2 _ _) ?_))) (by omega)
 show wpAny _ _ (isInstance (.ref b) (.type "tuple")>>=_) _ _ s
 refine wpAny_bind (wpAny_isInstance Tb isSubtype_tuple_tuple ?_)
 simp only [Bool.not_true,Bool.false_eq_true,if_false]
 refine wpAny_bind (wpAny_tupleItemsOf hoa da ?_)
 refine wpAny_bind (wpAny_tupleItemsOf hob db ?_)
 refine wpAny_bind (wpAny_mono (Q:=fun r s'=>s'=s/\(match r.1 with|some v=>v= .done (.ret (.bool (lexB x y)))|none=>lexB x y=decide (x.length<y.length))) ?_ (fun r s' h=>?_) fun _ _ z=>z)
 ·clear hQ hoa hob da db ca cb Ta Tb
  generalize ia.toList=us at ha⊢
  generalize ib.toList=vs at hb⊢
  induction ha generalizing y vs with
  |nil=>
   rw [List.zip_nil_left,List.forIn_nil]
   refine wpAny_pure ⟨rfl,?_⟩
   cases hb<;>rfl
  |@cons i u x us h1 t1 ih=>
   cases hb with
   |nil=>
    rw [List.zip_nil_right,List.forIn_nil]
    exact wpAny_pure ⟨rfl,rfl⟩
   |@cons j v y vs h2 t2=>
    obtain⟨tu,rfl⟩:=Value.isInt_shape h1
    obtain⟨tv,rfl⟩:=Value.isInt_shape h2
    rw [List.zip_cons_cons,List.forIn_cons]
    refine wpAny_bind (wpAny_bind (wpAny_eqBool_int ?_))
    by_cases ij:i=j
    ·subst ij
     rw [beq_self_eq_true]
     simp only [Bool.not_true,Bool.false_eq_true,if_false]
     refine wpAny_pure ?_
     dsimp only
     have:=ih vs t2
     have e1:lexB (i::x) (i::y)=lexB x y:=by rw [lexB,if_pos rfl]
     have e2:decide ((i::x).length<(i::y).length)=decide (x.length<y.length):=by simp
     rw [e1,e2]
     exact this
    ·rw [beq_eq_false_iff_ne.mpr ij]
     have e1:lexB (i::x) (j::y)=decide (i<j):=by rw [lexB,if_neg ij]
     rw [e1]
     simp only [Bool.not_false,if_true]
     refine wpAny_bind (wpAny_rule (wpAny_bind (LtN.ints (n+3) s i j tu tv A.in1 (by show A.units+1<=n+3;omega) prog' w' _ _ ?_)))
     exact wpAny_bind (wpAny_pure (wpAny_pure (wpAny_pure ⟨rfl,rfl⟩)))
 ·obtain⟨rfl,h⟩:=h
  obtain⟨r,u⟩:=r
  cases r with
  |some v=>
   have h:v=_:=h
   subst h
   exact wpAny_pure ⟨(fun z=>nomatch z),hQ⟩
  |none=>
   have h:lexB x y=_:=h
   rw [ha.length,hb.length,Array.length_toList,Array.length_toList]at h
   refine wpAny_pure ⟨(fun z=>nomatch z),?_⟩
   rw [h]at hQ
   exact hQ
end
end PySem
namespace PySem
open Sem (wp)
section
variable {prog:Program} {w:World} {K:Type} [DecidableEq K] {knd:HeapKind prog w K} {A:Around}
structure Met (val:Nat->K) (adr:Nat->Addr) (i:Nat) (xs:List (K×Addr)):Prop where
 from':∀x∈xs,∃j,j<i/\x=(val j,adr j)
 all:∀j,j<i->∃x∈xs,x.1=val j
 len:xs.length<=i
theorem codeAny_set_update_loopH {R:Result->Shared->Prop} {I:Addr} {fp wr:List Addr} {G:Array GenState->Array GenState->Prop} {n:Nat} {P:Nat->Value->Prop} {St:Nat->Shared->Prop}
  (D:SetKd knd) (W:WalksS prog w A.in1 I fp wr G n P St) (S:Addr) (hSf:S∉fp) (hu:knd.room A.in1) (l:Bool)
  (val:Nat->K) (adr:Nat->Addr) (hval:∀i v,P i v->v= .ref (adr i)) (hn:∀i xs,i<n->Met val adr i xs->(xs.map (·.1)).Nodup->xs.length<18) (hnt:∀i s,St i s->∀b∈wr,∀o,s.heap.get? b=some o->o.cls≠ .type "tuple"):
  ∀(k i:Nat) (s:Shared) (xs:List (K×Addr)),n-i=k->i<=n->St i s->(∀j,j<n->knd.is s.heap (val j) (adr j))->
   SetIs knd s S l xs->Met val adr i xs->
   (∀s' xs',Moved (S::wr) G s s'->SetIs knd s' S l xs'->Met val adr n xs'->(∀b o,o.cls= .type "tuple"->s.heap.get? b=some o->s'.heap.get? b=some o)->R (.ok (.ret .none)) s')->
   codeAny (model prog w) A (.builtin "set.update.loop" ⟨[.ref S,.ref I],[]⟩) R s:=by
 have hSw:S∉wr:=fun h=>hSf (W.sub _ h)
 have hsub:∀b∈wr,b∈S::wr:=fun b hb=>List.mem_cons_of_mem _ hb
 intro k
 induction k with
 |zero=>
  intro i s xs hk hi hst hkey hS hm0 hR
  have hin:i=n:=by omega
  subst hin
  refine codeAny_builtin PyProof.Rows.F.entry_set_update_loop ?_
  rw [Around.under_plainId PyProof.Rows.F.plain_set_update_loop _]
  show wpAny _ A.in1 (pyNext (.ref I)>>=_) _ _ s
  refine wpAny_bind (W.done s _ _ hst fun s' hm=>?_)
  have ht:∀b o,o.cls= .type "tuple"->s.heap.get? b=some o->s'.heap.get? b=some o:=fun b o hc e=>hm.heap b o (fun hb=>hnt _ _ hst b hb o e hc) e
  show wpAny _ A.in1 (ret Value.none) _ _ s'
  exact wpAny_pure (hR s' xs (hm.mono hsub) (hS.at D (fun o e=>hm.heap S o hSw e) ht) hm0 ht)
 |succ k ih=>
  intro i s xs hk hi hst hkey hS hm0 hR
  have hlt:i<n:=by omega
  refine codeAny_builtin PyProof.Rows.F.entry_set_update_loop ?_
  rw [Around.under_plainId PyProof.Rows.F.plain_set_update_loop _]
  show wpAny _ A.in1 (pyNext (.ref I)>>=_) _ _ s
  refine wpAny_bind (W.item i s _ _ hlt hst fun v s' hP hst' hm=>?_)
  obtain rfl:=hval i v hP
  have ht:∀b o,o.cls= .type "tuple"->s.heap.get? b=some o->s'.heap.get? b=some o:=fun b o hc e=>hm.heap b o (fun hb=>hnt _ _ hst b hb o e hc) e
  have hS':=hS.at D (fun o e=>hm.heap S o hSw e) ht
  have hk':∀j,j<n->knd.is s'.heap (val j) (adr j):=fun j hj=>D.mono (hkey j hj) ht
  show wpAny _ A.in1 (holding [Value.ref (adr i)] (setAdd S (.ref (adr i)))>>=_) _ _ s'
  refine wpAny_bind (wpAny_holding ?_)
  unfold setAdd
  refine wpAny_holding ?_
  refine wpAny_bind (knd.pyHash (k:=val i) hu (hk' i hlt) ?_)
  have hS2:SetIs knd {s' with toks:=s'.toks+knd.draws (val i)} S l xs:=hS'.at D (fun _ e=>e) fun _ _ _ e=>e
  refine wpAny_setAddHashed_heap D hS2 (hn i xs hlt hm0 (by obtain⟨_,_,_,_,z,_⟩:=hS2;exact z.nd)) hu (hk' i hlt) (fun hold=>?_) (fun hnew h' xs' hsb pm S3=>?_)
  ·refine wpAny_pure ⟨plainId_quiet PyProof.Rows.F.plain_set_update_loop _,ih (i+1) _ xs (by omega) hlt (W.frame _ s' _ _ hst' (Nat.le_add_right _ _) fun b hb o e=>e) hk' hS2 ⟨fun x hx=>?_,fun j hj=>?_,by have:=hm0.len;omega⟩ fun s'' xs'' hm'' S'' M'' ht''=>?_⟩
   ·obtain⟨j,h1,h2⟩:=hm0.from' x hx
    exact⟨j,by omega,h2⟩
   ·by_cases e:j=i
    ·subst e;exact hold
    ·exact hm0.all j (by omega)
   ·exact hR s'' xs'' (Moved.trans W.gtrans ((hm.mono hsub).then_heap (Nat.le_add_right _ _) fun b o hb e=>e) hm'') S'' M'' fun b o hc e=>ht'' b o hc (ht b o hc e)
  ·have hSt:∀b o,o.cls= .type "tuple"->s'.heap.get? b=some o->h'.get? b=some o:=fun b o hc e=>by
    have ne:b≠S:=by
     rintro rfl
     obtain⟨o2,_,_,_,z,_⟩:=hS'
     rw [z.ho]at e
     cases e
     rw [z.hex.1]at hc
     exact absurd hc (by decide)
    rw [hsb.2 b ne]
    exact e
   refine wpAny_pure ⟨plainId_quiet PyProof.Rows.F.plain_set_update_loop _,ih (i+1) _ xs' (by omega) hlt (W.frame _ s' _ _ hst' (Nat.le_add_right _ _) fun b hb o e=>?_) (fun j hj=>D.mono (hk' j hj) hSt) S3 ⟨fun x hx=>?_,fun j hj=>?_,by have:=hm0.len;rw [pm.length_eq,List.length_cons];omega⟩ fun s'' xs'' hm'' S'' M'' ht''=>?_⟩
   ·rw [hsb.2 b (fun h:b=S=>hSf (by rw [<-h];exact hb))];exact e
   ·rcases List.mem_cons.mp (pm.mem_iff.mp hx)with e|m
    ·exact⟨i,by omega,e⟩
    ·obtain⟨j,h1,h2⟩:=hm0.from' x m
     exact⟨j,by omega,h2⟩
   ·by_cases e:j=i
    ·subst e;exact⟨_,pm.mem_iff.mpr List.mem_cons_self,rfl⟩
    ·obtain⟨x,hx,ex⟩:=hm0.all j (by omega)
     exact⟨x,pm.mem_iff.mpr (List.mem_cons_of_mem _ hx),ex⟩
   ·refine hR s'' xs'' (Moved.trans W.gtrans ((hm.mono hsub).then_heap (Nat.le_add_right _ _) fun b o hb e=>?_) hm'') S'' M'' fun b o hc e=>ht'' b o hc (hSt b o hc (ht b o hc e))
    rw [hsb.2 b (fun h:b=S=>hb (by rw [h];exact List.mem_cons_self))];exact e
end
section
variable {prog:Program} {w:World} {A:Around} {E:Value->Shared->Prop} {s:Shared}
theorem code_set_newL (a:Value) {Q₁:Value->Shared->Prop}
  (h:Q₁ (.ref s.heap.objs.size) {s with heap:=s.heap.push {cls:= .type "set",dict:=none,data:= .set #[] 0 (.fresh 0 0 (!w.params.followText "set-order"))}}):
  codeAny (model prog w) A (.call (.builtin "set.__new__") ⟨[.type "set",a],[]⟩) (wants Q₁ E) s:=by
 refine codeAny_of_tree ?_
 show wpAny _ A.in1 (do checkBuiltinCall "set.__new__" ⟨[.type "set",a],[]⟩;again (.builtin "set.__new__" ⟨[.type "set",a],[]⟩)) _ _ s
 refine wpAny_bind (wpAny_of_eq (F.newCall_set_1 a) (wpAny_pure ⟨plainId_quiet F.plain_set_new _,codeAny_builtin F.entry_set_new ?_⟩))
 rw [Around.under_plainId F.plain_set_new _]
 unfold Builtin.«set.__new__» Builtin.Frozenset.newClass
 have hsub:=sub_set_self
 obtain⟨hp,g,d,tk,os⟩:=s
 dsimp only
 wp_walk
 refine wpAny_askSetting (wpAny_pure ?_)
 dsimp only
 simp only [newObj]
 refine wpAny_bind (wpAny_alloc (wpAny_pure ?_))
 exact wpAny_pure h
end
section
variable {prog:Program} {w:World} {K:Type} [DecidableEq K] {knd:HeapKind prog w K} {A:Around} {E:Value->Shared->Prop} {s:Shared}
theorem SetIs.fresh (s:Shared) {a:Addr} (l:Bool) (h:s.heap.get? a=some {cls:= .type "set",dict:=none,data:= .set #[] 0 (.fresh 0 0 l)}):SetIs knd s a l []:=
 ⟨_, #[],0,_,⟨h,⟨rfl,rfl,rfl⟩,rfl,rfl,⟨rfl,fun i k h1 h2=>absurd h2 (Nat.not_lt_zero _),fun j hj=>(nomatch hj),Nat.zero_le _,SetTable.round7⟩,rfl,fun x hx=>(nomatch hx),List.nodup_nil,fun i j x h1 h2=>(nomatch h2)⟩,.inl ⟨rfl,Nat.zero_le _⟩,rfl,rfl⟩
def LoopOk (prog:Program) (w:World) (n:Nat) (P:Nat->Value->Prop) (u:Nat) (s:Shared) (S:Addr) (led:Bool) (Z:Shared->Prop):Prop:=
 ∀{A:Around} {R:Result->Shared->Prop} {I:Addr} {fp wr:List Addr} {G:Array GenState->Array GenState->Prop} {St:Nat->Shared->Prop} (s1:Shared),WalksS prog w A.in1 I fp wr G n P St->S∉fp->A.in1.units<=u+8->
  (∀i s,St i s->∀b∈wr,∀o,s.heap.get? b=some o->o.cls≠ .type "tuple")->St 0 s1->(∀b o,s.heap.get? b=some o->s1.heap.get? b=some o)->s1.heap.get? S=some {cls:= .type "set",dict:=none,data:= .set #[] 0 (.fresh 0 0 led)}->
  (∀s',Moved (S::wr) G s1 s'->Z s'->R (.ok (.ret .none)) s')->codeAny (model prog w) A (.builtin "set.update.loop" ⟨[.ref S,.ref I],[]⟩) R s1
theorem call_set_gen {l:Addr} {items:Array Value} {Q:Value->Shared->Prop} (Z:Shared->Prop) (hh:A.handled=none) (hl:s.heap.IsList l items)
  (L:LoopOk prog w items.size (fun i v=>items[i]? =some v) A.units s s.heap.objs.size (!w.params.followText "set-order") Z)
  (h:∀(h':Heap) (tk:Nat),Z {s with heap:=h',toks:=tk}->(∀b o,b<s.heap.objs.size->s.heap.get? b=some o->h'.get? b=some o)->Q (.ref s.heap.objs.size) {s with heap:=h',toks:=tk}):
  wpAny (model prog w) A (call (.type "set") [.ref l]) Q E s:=by
 obtain⟨c,tl,hmro⟩:=F.called_set.mro
 have hmade:=F.called_set.made
 have hsub:=F.called_set.sub
 refine wpAny_call (codeAny_of_tree ?_)
 show wpAny _ _ (callAny (.type "set") _) _ _ _
 refine wpAny_pure ⟨Code.quiet_builtin _ (by decide+kernel),codeAny_builtin F.entry_type_call ?_⟩
 rw [Around.under_plain (weight_type_call_type "set" [.ref l] []) rfl]
 have h1:=F.called_set.notType
 have h2:=F.called_set.canCreate
 have hct:=F.typeCall_set_1 (.ref l)
 repeat (any_goals (first|assumption|wp_step))
 generalize hled:(!w.params.followText "set-order")=led at L
 refine codeAny_mono (code_set_newL (.ref l) (E:=E) (Q₁:=fun obj s₁=>obj= .ref s.heap.objs.size/\s₁={s with heap:=s.heap.push {cls:= .type "set",dict:=none,data:= .set #[] 0 (.fresh 0 0 led)}}) ⟨rfl,by rw [hled]⟩) fun r s₁ hr=>?_
 cases r with
 |error e=>exact hr
 |ok fl=>
  cases fl with
  |ret obj=>
   obtain⟨rfl,rfl⟩:=hr
   have hS:(s.heap.push {cls:= .type "set",dict:=none,data:= .set #[] 0 (.fresh 0 0 led)}).get? s.heap.objs.size=some {cls:= .type "set",dict:=none,data:= .set #[] 0 (.fresh 0 0 led)}:=Heap.get?_push_size _ rfl
   have hT:Shared.TypeIs {s with heap:=s.heap.push {cls:= .type "set",dict:=none,data:= .set #[] 0 (.fresh 0 0 led)}} (.ref s.heap.objs.size) "set":=⟨_,hS,rfl⟩
   have hli:=F.called_set.init.lookup
   have hbi:=F.called_set.init.bind (.ref s.heap.objs.size)
   repeat (any_goals (first|assumption|wp_step))
   refine codeAny_mono (codeAny_call_builtin (R:=wants (fun r s₂=>r= .none/\∃h' tk,s₂={s with heap:=h',toks:=tk}/\Z {s with heap:=h',toks:=tk}/\
     (∀b o,b<s.heap.objs.size->s.heap.get? b=some o->h'.get? b=some o)) E) F.called_set.init.plain F.entry_set_init (check_set_init_1 hT ?_)) fun r₂ s₂ hr₂=>?_
   ·obtain⟨ol,hol,hcl,nl,hdl⟩:=hl
    obtain⟨ocls,odict,odata,oslots⟩:=ol
    simp only at hcl hdl
    subst hcl;subst hdl
    have hol':(s.heap.push {cls:= .type "set",dict:=none,data:= .set #[] 0 (.fresh 0 0 led)}).get? l=some {cls:= .type "list",dict:=odict,data:= .seq items nl,slots:=oslots}:=Heap.get?_push_of_some _ hol
    have hsls:=F.sub_list_set
    have hslf:=F.sub_list_frozenset
    have hne:(Value.type "list"==Value.type "dict")=false:=by decide
    have hl1:(s.heap.push {cls:= .type "set",dict:=none,data:= .set #[] 0 (.fresh 0 0 led)}).IsList l items:=⟨_,hol',rfl,nl,rfl⟩
    unfold Builtin.«set.__init__» noKeywords Builtin.Frozenset.updateFrom
    generalize hPI:pyIter=PI
    wp_walk
    subst hPI
    refine wpAny_pyIter_list hl1 ?_
    refine wpAny_bind (wpAny_runValue ?_)
    have hlS:l<s.heap.objs.size:=Heap.lt_size hol
    have hh3:A.in1.in1.in1.handled=none:=by simp [hh]
    have hneI:l≠(s.heap.push {cls:= .type "set",dict:=none,data:= .set #[] 0 (.fresh 0 0 led)}).objs.size:=by
     rw [Heap.size_push];exact Nat.ne_of_lt (Nat.lt_succ_of_lt hlS)
    have hSf:s.heap.objs.size∉[(s.heap.push {cls:= .type "set",dict:=none,data:= .set #[] 0 (.fresh 0 0 led)}).objs.size,l]:=by
     rw [Heap.size_push];simp only [List.mem_cons,List.mem_singleton,List.not_mem_nil,or_false,not_or]
     exact⟨Nat.ne_of_lt (Nat.lt_succ_self _),Nat.ne_of_gt hlS⟩
    have keep2:∀b o,s.heap.get? b=some o->((s.heap.push {cls:= .type "set",dict:=none,data:= .set #[] 0 (.fresh 0 0 led)}).push {cls:= .type "list_iterator",data:= .fields #[.ref l,.int 0 0]}).get? b=some o:=fun b o e=>Heap.get?_push_of_some _ (Heap.get?_push_of_some _ e)
    refine L _ ((Walks.list hh3 _ l hneI items).toS) hSf (by simp [Around.in1]) ?hnt ⟨⟨_,Heap.get?_push_size _ rfl,rfl,rfl⟩,(hl1.push _)⟩ keep2 (Heap.get?_push_of_some _ hS) ?hR
    case hnt=>
     rintro i s2 ⟨⟨o2,g1,g2,_⟩,_⟩ b hb o e hc
     have hb:=List.mem_singleton.mp hb
     subst hb
     rw [g1]at e
     cases e
     rw [g2]at hc
     exact absurd hc (by decide)
    case hR=>
     intro s' hm hS'
     obtain⟨h',g',d',tk',os'⟩:=s'
     have eg:g'=s.gens:=hm.gens
     have ed:d'=s.drawn:=hm.drawn
     have eo:os'=s.os:=hm.os
     subst eg;subst ed;subst eo
     show wpAny _ _ _ _ _ _
     refine wpAny_pure ?_
     show wpAny _ _ (ret Value.none) _ _ _
     refine wpAny_pure ⟨rfl,h',tk',rfl,hS',fun b o hb e=>?_⟩
     have hb1:b≠s.heap.objs.size:=Nat.ne_of_lt hb
     have hb2:b≠(s.heap.push {cls:= .type "set",dict:=none,data:= .set #[] 0 (.fresh 0 0 led)}).objs.size:=by
      rw [Heap.size_push];exact Nat.ne_of_lt (Nat.lt_succ_of_lt hb)
     exact hm.heap b o (by simp only [List.mem_cons,List.mem_singleton,List.not_mem_nil,or_false,not_or];exact⟨hb1,hb2⟩) (keep2 b o e)
   ·cases r₂ with
    |error e=>exact hr₂
    |ok fl₂=>
     cases fl₂ with
     |ret r=>
      obtain⟨rfl,h',tk,rfl,hS',hk'⟩:=hr₂
      repeat (any_goals (first|assumption|wp_step))
      exact h _ _ hS' hk'
     |_=>exact hr₂.elim
  |_=>exact hr.elim
theorem call_set_listH {l:Addr} {items:Array Value} {val:Nat->K} {adr:Nat->Addr} {Q:Value->Shared->Prop} (D:SetKd knd) (hu:∀A':Around,A'.units<=A.units+8->knd.room A')
  (hh:A.handled=none) (hl:s.heap.IsList l items) (hi:∀(i:Nat) (v:Value),items[i]? =some v->v=Value.ref (adr i)) (hk:∀j,j<items.size->knd.is s.heap (val j) (adr j)) (hb:∀i xs,i<items.size->Met val adr i xs->(xs.map (·.1)).Nodup->xs.length<18)
  (h:∀(h':Heap) (tk:Nat) (xs:List (K×Addr)),SetIs knd {s with heap:=h',toks:=tk} s.heap.objs.size (!w.params.followText "set-order") xs->Met val adr items.size xs->
   (∀b o,b<s.heap.objs.size->s.heap.get? b=some o->h'.get? b=some o)->Q (.ref s.heap.objs.size) {s with heap:=h',toks:=tk}):
  wpAny (model prog w) A (call (.type "set") [.ref l]) Q E s:=
 call_set_gen (fun s'=>∃xs,SetIs knd s' s.heap.objs.size (!w.params.followText "set-order") xs/\Met val adr items.size xs) hh hl
  (fun s1 W hSf hA hnt st kp hS hR=>codeAny_set_update_loopH D W s.heap.objs.size hSf (hu _ hA) _ val adr hi hb hnt (items.size-0) 0 s1 [] (by omega) (Nat.zero_le _) st (fun j hj=>D.mono (hk j hj) fun b o _ e=>kp b o e) (SetIs.fresh _ _ hS) ⟨fun x hx=>(nomatch hx),fun j hj=>absurd hj (Nat.not_lt_zero _),Nat.zero_le _⟩ fun s' xs' hm S M _=>hR s' hm ⟨xs',S,M⟩)
  fun h' tk ⟨xs,S,M⟩ kp=>h h' tk xs S M kp
end
end PySem
namespace PySem
open Sem (wp)
open PyProof.Rows PySem.W
section
variable {prog:Program} {w:World} {A:Around} {E:Value->Shared->Prop} {s:Shared}
end
structure OrdKd {prog:Program} {w:World} {α:Type} [DecidableEq α] (knd:HeapKind prog w α) (ok:α->Prop) (lt:α->α->Bool):Prop where
 set:SetKd knd
 tot:∀x y,x≠y->lt x y=true∨lt y x=true
 asym:∀x y,lt x y=true->lt y x=false
 trans:∀x y z,lt x y=true->lt y z=true->lt x z=true
 first:∀{h:Heap} {k:α} {a:Addr},ok k->knd.is h k a->∃o items n i tk,h.get? a=some o/\o.cls= .type "tuple"/\o.data= .seq items n/\items[0]? =some (Value.int i tk)
 cmp:∀{A:Around} {E:Value->Shared->Prop} {b:Bool} {s:Shared} {x y:α} {p q:Addr} {Q:Bool->Shared->Prop},A.units+10<cLine->knd.is s.heap x p->knd.is s.heap y q->Q (lt x y) s->wpAny (model prog w) A (keyLt' (tuples' b) (.ref p) (.ref q)) Q E s
section
variable {prog:Program} {w:World} {A:Around} {E:Value->Shared->Prop} {s:Shared} {α:Type} [DecidableEq α] [Inhabited α] {knd:HeapKind prog w α} {ok:α->Prop} {lt:α->α->Bool}
def Tups (knd:HeapKind prog w α) (ok:α->Prop) (h:Heap) (xs:List (α×Addr)):Prop:=∀x∈xs,ok x.1/\knd.is h x.1 x.2
theorem Tups.mono (O:OrdKd knd ok lt) {h h':Heap} {xs:List (α×Addr)} (T:Tups knd ok h xs) (hs:∀b o,o.cls= .type "tuple"->h.get? b=some o->h'.get? b=some o):Tups knd ok h' xs:=fun x hx=>⟨(T x hx).1,O.set.mono (T x hx).2 hs⟩
theorem Tups.kat (O:OrdKd knd ok lt) {h:Heap}:∀{xs:List (α×Addr)},Tups knd ok h xs->∃fs:List Value,fs.length=xs.length/\(∀v∈fs,∃i tk,v=Value.int i tk)/\KatTups h (xs.map fun x=>Value.ref x.2) fs
 | [],_=>⟨[],rfl,fun v hv=>(nomatch hv),KatTups.nil⟩
 |x::xs,T=>by
  obtain⟨fs,f1,f2,f3⟩:=Tups.kat O (xs:=xs) fun y hy=>T y (List.mem_cons_of_mem _ hy)
  obtain⟨o,items,n,i,tk,ho,hc,hd,hf⟩:=O.first (T x List.mem_cons_self).1 (T x List.mem_cons_self).2
  refine⟨.int i tk::fs,by rw [List.length_cons,List.length_cons,f1],fun v hv=>?_,KatTups.cons ho hc hd hf f3⟩
  rcases List.mem_cons.mp hv with rfl|hv
  ·exact⟨_,_,rfl⟩
  ·exact f2 v hv
theorem pick_perm {α:Type} {xs:List α} {p:List Nat} (hp:p.Perm (List.range xs.length)):(p.filterMap fun i:Nat=>xs[i]?).Perm xs:=by
 have:=hp.filterMap fun i:Nat=>xs[i]?
 rw [range_filterMap]at this
 exact this
theorem list_sort_tups (O:OrdKd knd ok lt) (hu:A.units+20<cLine) {a:Addr} {xs:List (α×Addr)} {n:Nat} {P:Fin->Shared->Prop} (ho:s.heap.get? a=some (seqObj "list" (xs.map fun x=>Value.ref x.2).toArray n))
  (T:Tups knd ok s.heap xs) (nd:(xs.map (·.1)).Nodup) (h64:xs.length<64)
  (h:∀ys:List (α×Addr),ys.Perm xs->ys.Pairwise (fun x y=>lt x.1 y.1=true)->P (.done (.ret .none)) {s with heap:=sortedHeap s.heap a (xs.map fun x=>Value.ref x.2) (ys.map fun x=>Value.ref x.2).toArray}):
  wpAny (model prog w) A (Builtin.«list.sort» ⟨[.ref a],[]⟩) P E s:=by
 rw [list_sort_plain]
 have ha:a<s.heap.objs.size:=Heap.lt_size ho
 generalize hvs:(xs.map fun x=>Value.ref x.2)=vs at ho h
 have vl:vs.length=xs.length:=by rw [<-hvs,List.length_map]
 refine wpAny_bind (listItems_at ho rfl ?_)
 refine wpAny_bind (listUpdate_at ho rfl ?_ (by rw [List.size_toArray,sizeLine_eq];omega) (Nat.zero_le _))
 obtain⟨e1,ho1⟩:∃e1,(s.heap.update a (Obj.mapSeq fun _=> #[])).get? a=some (seqObj "list" #[] e1):=⟨_,get?_update_seq ho (fun _=> #[])⟩
 refine wpAny_bind (seqEpoch_at ho1 rfl ?_)
 refine wpAny_bind (wpAny_newTuple ?_ (by show vs.length<=_;rw [sizeLine_eq];omega))
 refine wpAny_bind (wpAny_newList ?_ (Nat.zero_le _))
 refine wpAny_holding ?_
 have kp:∀b o,b≠a->s.heap.get? b=some o->(((s.heap.update a (Obj.mapSeq fun _=> #[])).push (seqObj "tuple" vs.toArray 0)).push (seqObj "list" #[] 0)).get? b=some o:=fun b o hb e=>
  Heap.get?_push_of_some _ (Heap.get?_push_of_some _ ((Heap.get?_update_other _ _ (Ne.symm hb)).trans e))
 have ho6:(((s.heap.update a (Obj.mapSeq fun _=> #[])).push (seqObj "tuple" vs.toArray 0)).push (seqObj "list" #[] 0)).get? a=some (seqObj "list" #[] e1):=Heap.get?_push_of_some _ (Heap.get?_push_of_some _ ho1)
 show wpAny (model prog w) A _ P E {s with heap:=((s.heap.update a (Obj.mapSeq fun _=> #[])).push (seqObj "tuple" vs.toArray 0)).push (seqObj "list" #[] 0)}
 dsimp only
 generalize hH:((s.heap.update a (Obj.mapSeq fun _=> #[])).push (seqObj "tuple" vs.toArray 0)).push (seqObj "list" #[] 0)=H at ho6 kp
 have T6:Tups knd ok H xs:=T.mono O fun b o hc e=>kp b o (fun z=>by subst z;rw [ho]at e;cases e;exact absurd (show Value.type "list"=Value.type "tuple" from hc) (by decide)) e
 have fin:∀out:Array Value,sortedHeap s.heap a vs out=H.update a (Obj.mapSeq fun _=>out):=fun out=>by rw [<-hH];rfl
 by_cases h2:vs.toArray.size<2
 ·rw [if_pos h2,if_pos h2]
  refine wpAny_bind (wpAny_pure ?_)
  rw [StateT.run_pure]
  refine wpAny_bind (wpAny_pure ?_)
  dsimp only
  refine wpAny_bind (seqEpoch_at ho6 rfl ?_)
  have ev:(pairsOf vs).map (·.2)=vs.toArray:=by
   apply Array.toList_inj.mp
   rw [Array.toList_map,pairsOf_toList]
   exact List.map_snd_zip (Nat.le_refl _)
  have hz:((pairsOf vs).map (·.2)).size<=sizeLine+1:=by rw [ev,List.size_toArray,sizeLine_eq];omega
  refine wpAny_bind (listUpdate_at ho6 rfl ?_ (Nat.zero_le _) hz)
  simp only [bne_self_eq_false,Bool.false_eq_true,if_false]
  refine wpAny_pure ?_
  have q:=h xs (List.Perm.refl _) (by
   rw [List.size_toArray,vl]at h2
   match xs,h2 with
   | [],_=>exact .nil
   | [x],_=>exact List.pairwise_singleton _ _)
  rw [fin,hvs]at q
  have q':P (.done (.ret .none)) {s with heap:=H.update a (Obj.mapSeq fun _=>(pairsOf vs).map (·.2))}:=by rw [ev];exact q
  exact q'
 ·rw [if_neg h2,if_neg h2]
  rw [List.size_toArray]at h2
  obtain⟨fs,f1,f2,f3⟩:=Tups.kat O T6
  rw [hvs]at f3
  refine wpAny_bind (kat_kind (T:=Value.type "int") f3 (by omega) (fun v hv=>?_) rfl ?_)
  ·obtain⟨i,tk,rfl⟩:=f2 v hv
   exact Looks.of_pure rfl
  ·have keyd:∀i,i<xs.length->xs[i]? =some (xs.getD i (default,0))/\vs.getD i Value.none= .ref (xs.getD i (default,0)).2:=fun i hi=>by
    rw [<-hvs]
    simp [List.getD,hi]
   have S:Strict xs.length fun i j=>lt (xs.getD i (default,0)).1 (xs.getD j (default,0)).1:=by
    refine⟨fun i j hi hj ne=>O.tot _ _ fun z=>ne ?_,fun i j=>O.asym _ _,fun i j k=>O.trans _ _ _⟩
    have li:i<(xs.map (·.1)).length:=by rw [List.length_map];exact hi
    have lj:j<(xs.map (·.1)).length:=by rw [List.length_map];exact hj
    refine(List.getElem_inj (h₀:=li) (h₁:=lj) nd).mp ?_
    simpa [List.getD,hi,hj]using z
   have wy:=sort_way S (by omega)
   rw [<-vl]at wy
   refine wpAny_bind (wpAny_mono (kat_run (ks:=vs) (vs:=vs) (Q:=fun st' s'=>s'={s with heap:=H}/\∃p:Array Nat,p.size=vs.length/\arrOf st'=p.map (kas_item (vs.toArray.zip vs.toArray))/\failedOf st'=none/\Tidy vs.length p/\Rises (fun i j=>lt (xs.getD i (default,0)).1 (xs.getD j (default,0)).1) p vs.length)
    (G:=fun p s'=>s'={s with heap:=H}/\Tidy vs.length p/\Rises (fun i j=>lt (xs.getD i (default,0)).1 (xs.getD j (default,0)).1) p vs.length) rfl (by omega) (by omega) (fun p st' s' a1 a2 a3 a4=>⟨a4.1,p,a1,a2,a3,a4.2⟩)
    (KasT.way_wp (fun i j C hi hj hC=>?_) (fun p hp=>⟨rfl,hp⟩) _ wy)) ?_ fun _ _ e=>e)
   ·have hi:i<vs.length:=hi
    have hj:j<vs.length:=hj
    rw [vl]at hi hj
    show wpAny _ _ (keyLt' _ (vs.getD i Value.none) (vs.getD j Value.none)) _ _ _
    obtain⟨a1,a2⟩:=keyd i hi
    obtain⟨b1,b2⟩:=keyd j hj
    rw [a2,b2]
    exact O.cmp (by omega) (T6 _ (List.mem_of_getElem? a1)).2 (T6 _ (List.mem_of_getElem? b1)).2 hC
   ·rintro⟨⟨⟩,st'⟩ s' ⟨rfl,p,hp,har,hf,hT,hR⟩
    dsimp only
    have hout:=kat_snds rfl har
    have pm:p.toList.Perm (List.range xs.length):=by rw [<-vl];exact hT
    have ey:(p.toList.map fun i=>vs.getD i Value.none)=(p.toList.filterMap fun i:Nat=>xs[i]?).map fun x=>Value.ref x.2:=by
     rw [List.map_filterMap]
     have:∀l:List Nat,(∀i∈l,i<xs.length)->(l.map fun i=>vs.getD i Value.none)=l.filterMap fun i:Nat=>(xs[i]?).map fun x=>Value.ref x.2:=by
      intro l
      induction l with
      |nil=>intro _;rfl
      |cons i l ih=>
       intro hl
       obtain⟨a1,a2⟩:=keyd i (hl i List.mem_cons_self)
       rw [List.map_cons,List.filterMap_cons,a1,ih fun j hj=>hl j (List.mem_cons_of_mem _ hj),a2]
       rfl
     exact this _ fun i hi=>List.mem_range.mp (pm.mem_iff.mp hi)
    have hsz:(List.toArray (p.toList.map fun i=>vs.getD i Value.none)).size<=sizeLine+1:=by rw [List.size_toArray,List.length_map,Array.length_toList,hp,sizeLine_eq];omega
    refine wpAny_bind (seqEpoch_at ho6 rfl ?_)
    rw [hout]
    refine wpAny_bind (listUpdate_at ho6 rfl ?_ (Nat.zero_le _) hsz)
    rw [hf]
    simp only [bne_self_eq_false,Bool.false_eq_true,if_false]
    refine wpAny_pure ?_
    have q:=h (p.toList.filterMap fun i:Nat=>xs[i]?) (pick_perm pm) (by
     rw [List.pairwise_iff_getElem]
     intro i j hi hj hij
     have pl:p.toList.length=xs.length:=by rw [pm.length_eq,List.length_range]
     have fl:=(pick_perm pm).length_eq
     have gt:∀r,(hr:r<(p.toList.filterMap fun i:Nat=>xs[i]?).length)->(p.toList.filterMap fun i:Nat=>xs[i]?)[r]=xs.getD (vAt p r) (default,0):=fun r hr=>by
      have hr':r<p.toList.length:=by omega
      have e1:=filterMap_get (f:=fun i:Nat=>xs[i]?) (l:=p.toList) (fun i hi=>⟨_,List.getElem?_eq_getElem (List.mem_range.mp (pm.mem_iff.mp hi))⟩) r
      rw [List.getElem?_eq_getElem hr,List.getElem?_eq_getElem hr']at e1
      have e2:vAt p r=p.toList[r]:=by rw [vAt_get, <-Array.getElem?_toList,List.getElem?_eq_getElem hr'];rfl
      rw [e2]
      have lt:p.toList[r]<xs.length:=List.mem_range.mp (pm.mem_iff.mp (List.getElem_mem hr'))
      have e3:(some p.toList[r]).bind (fun i:Nat=>xs[i]?)=some (xs.getD p.toList[r] (default,0)):=(keyd _ lt).1
      rw [e3]at e1
      exact Option.some.inj e1
     rw [gt i hi,gt j hj]
     exact hR i j hij (by omega))
    rw [fin, <-ey]at q
    exact q
theorem sorted_set (O:OrdKd knd ok lt) (hu:A.units+30<cLine) {S:Addr} {xs:List (α×Addr)} {Q:Value->Shared->Prop} (hh:A.handled=none) (I:SetIs knd s S (!w.params.followText "set-order") xs) (ne:∀x∈xs,ok x.1) (h64:xs.length<64)
  (h:∀(h':Heap) (tk:Nat) (l:Addr) (e:Nat) (ys:List (α×Addr)),ys.Perm xs->ys.Pairwise (fun x y=>lt x.1 y.1=true)->s.heap.objs.size<=l->h'.get? l=some (seqObj "list" (ys.map fun x=>Value.ref x.2).toArray e)->
   (∀b o,s.heap.get? b=some o->h'.get? b=some o)->Q (.ref l) {s with heap:=h',toks:=tk}):
  wpAny (model prog w) A (call (.builtin "sorted") [.ref S]) Q E s:=by
 obtain⟨o,es,ep,t,I,sm,pl,ld⟩:=I
 refine Calls.call_function_entry kind_sorted plain_sorted entry_sorted (args_sorted1 _) ?_
 unfold Builtin.«sorted»
 refine wpAny_bind (m:=checkCount "sorted" 1 1 _) (wpAny_pure ?_)
 have esz:es.size<64:=by rw [I.len];exact h64
 refine wpAny_bind (wpAny_collect_set (by simpa using hh) I.ho I.hex I.hd I.fits I.good.rise pl ld (by rw [sizeLine_eq];omega) fun h1 tk1 s1 k1=>?_)
 have op:=setOrd_perm w S es ep
 have eo:es.toList.map (·.2)=xs.map fun x=>Value.ref x.2:=by rw [I.he,List.map_map];rfl
 rw [eo]at op
 obtain⟨zs,pz,ez⟩:∃zs:List (α×Addr),zs.Perm xs/\setOrd w S es ep=zs.map fun x=>Value.ref x.2:=by
  have:∀{l:List Value} {xs:List (α×Addr)},l.Perm (xs.map fun x=>Value.ref x.2)->∃zs:List (α×Addr),zs.Perm xs/\l=zs.map fun x=>Value.ref x.2:=fun{l xs} hp=>by
   generalize hm:(xs.map fun x=>Value.ref x.2)=m at hp
   induction hp generalizing xs with
   |nil=>exact⟨xs,List.Perm.refl _,hm.symm⟩
   |cons a p ih=>
    match xs,hm with
    |x::xs,hm=>
     obtain⟨e1,e2⟩:=List.cons.inj hm
     obtain⟨zs,z1,z2⟩:=ih e2
     exact⟨x::zs,z1.cons x,by rw [z2, <-e1];rfl⟩
   |swap a b l=>
    match xs,hm with
    |x::y::xs,hm=>
     obtain⟨e1,e2⟩:=List.cons.inj hm
     obtain⟨e2,e3⟩:=List.cons.inj e2
     exact⟨y::x::xs,List.Perm.swap _ _ _,by rw [<-e1, <-e2, <-e3];rfl⟩
   |trans p1 p2 ih1 ih2=>
    obtain⟨zs,z1,z2⟩:=ih2 hm
    obtain⟨us,u1,u2⟩:=ih1 z2.symm
    exact⟨us,u1.trans z1,u2⟩
  exact this op
 rw [ez]
 have zl:zs.length=xs.length:=pz.length_eq
 refine wpAny_bind (wpAny_newList ?_ (by rw [List.length_map,sizeLine_eq];omega))
 have hoL:(h1.push (seqObj "list" (zs.map fun x=>Value.ref x.2).toArray 0)).get? h1.objs.size=some (seqObj "list" (zs.map fun x=>Value.ref x.2).toArray 0):=Heap.get?_push_size _ rfl
 have T1:Tups knd ok (h1.push (seqObj "list" (zs.map fun x=>Value.ref x.2).toArray 0)) zs:=fun x hx=>⟨ne x (pz.mem_iff.mp hx),O.set.mono (I.keys x (pz.mem_iff.mp hx)) fun b o _ e=>Heap.get?_push_of_some _ (k1 b o e)⟩
 refine wpAny_bind (wpAny_holding (wpAny_call_entry slot_list_sort ⟨_,hoL,rfl⟩ entry_list_sort (list_sort_tups O (by first|omega|(show A.units+1+20<cLine;omega)|(show A.units+2+20<cLine;omega)|(show A.units+3+20<cLine;omega)) hoL T1 (by rw [(pz.map (·.1)).nodup_iff];exact I.nd) (by omega) fun ys py hy=>⟨_,rfl,?_⟩) (args_list_sort _)))
 refine wpAny_pure ⟨_,rfl,?_⟩
 obtain⟨e,he⟩:=sortedHeap_at (out:=(ys.map fun x=>Value.ref x.2).toArray) hoL
 refine h _ tk1 _ e ys (py.trans pz) hy (Nat.le_of_lt s1) he fun b o q=>?_
 have hb:b<h1.objs.size:=Heap.lt_size (k1 b o q)
 rw [sortedHeap_old (Nat.ne_of_lt hb) (by rw [Heap.size_push];exact Nat.lt_succ_of_lt hb)]
 exact Heap.get?_push_of_some _ (k1 b o q)
end
section
variable {prog:Program} {w:World}
def lexP (x y:Int×List Int):Bool:=if x.1=y.1 then lexB x.2 y.2 else decide (x.1<y.1)
theorem pairOrd (hv:∀k v,(intKind prog w).is k v=true->∃i tk,v=Value.int i tk):OrdKd (pairKind (intKind prog w)) (fun _=>True) lexP where
 set:=pairKd hv
 tot:=fun x y ne=>by
  unfold lexP
  by_cases e:x.1=y.1
  ·rw [if_pos e,if_pos e.symm]
   exact lexB_tot _ _ fun z=>ne (Prod.ext e z)
  ·rw [if_neg e,if_neg (Ne.symm e),decide_eq_true_iff,decide_eq_true_iff]
   omega
 asym:=fun x y h=>by
  unfold lexP at h⊢
  by_cases e:x.1=y.1
  ·rw [if_pos e]at h
   rw [if_pos e.symm]
   exact lexB_asym _ _ h
  ·rw [if_neg e,decide_eq_true_iff]at h
   rw [if_neg (Ne.symm e),decide_eq_false_iff_not]
   omega
 trans:=fun x y z h1 h2=>by
  unfold lexP at h1 h2⊢
  by_cases e1:x.1=y.1
  ·rw [if_pos e1]at h1
   by_cases e2:y.1=z.1
   ·rw [if_pos e2]at h2
    rw [if_pos (e1.trans e2)]
    exact lexB_trans _ _ _ h1 h2
   ·rw [if_neg e2,decide_eq_true_iff]at h2
    rw [if_neg (by omega),decide_eq_true_iff]
    omega
  ·rw [if_neg e1,decide_eq_true_iff]at h1
   by_cases e2:y.1=z.1
   ·rw [if_neg (by omega),decide_eq_true_iff]
    omega
   ·rw [if_neg e2,decide_eq_true_iff]at h2
    rw [if_neg (by omega),decide_eq_true_iff]
    omega
 first:=fun _ hk=>by
  obtain⟨o,v,b,n,ho,hc,hd,h1,_⟩:=hk
  obtain⟨tk,rfl⟩:=Value.isInt_shape h1
  exact⟨o,_,n,_,tk,ho,hc,hd,rfl⟩
 cmp:=fun{A E b s x y p q Q} hu hx hy h=>by
  obtain⟨ox,v,px,nx,h1,h2,h3,h4,h5⟩:=hx
  obtain⟨oy,v',py,ny,g1,g2,g3,g4,g5⟩:=hy
  obtain⟨tu,rfl⟩:=Value.isInt_shape h4
  obtain⟨tv,rfl⟩:=Value.isInt_shape g4
  refine kat_lt h1 h3 g1 g3 ?_
  show KatLex prog w A b _ Q [(_,_),(_,_)] 0 s
  refine kat_cons (wpAny_eqBool_int ?_)
  unfold lexP at h
  by_cases e:x.1=y.1
  ·rw [if_pos e]at h
   rw [beq_iff_eq.mpr e]
   refine kat_yes (kat_cons ((tupleKind (intKind prog w)).eqBool (show A.units<cLine by omega) h5 g5 ?_))
   by_cases e2:x.2=y.2
   ·rw [decide_eq_true e2]
    refine kat_yes (kat_nil ?_)
    rw [e2,lexB_irr]at h
    exact h
   ·rw [decide_eq_false e2]
    refine kat_no ?_
    rw [show(b && (0+1==0))=false by cases b<;>rfl]
    exact kat_one _ _ (LtN.tups (n:=A.units) h5 g5 (by omega) A (Nat.le_refl _) prog w _ _ h)
  ·rw [if_neg e]at h
   rw [beq_eq_false_iff_ne.mpr e]
   refine kat_no ?_
   rw [show(b && (0==0))=b by cases b<;>rfl]
   cases b with
   |true=>exact oneLt_int h
   |false=>exact kat_one _ _ (PyProof.Rows.lt_int (Q:=PySem.W.BoolBack Q) h)
end
end PySem
namespace PySem
open Sem (wp)
def tab3 (l:Bool) (zs:List Nat):SetTable:={mask:=7,place:=zs.toArray,dummies:= #[],finger:=0,led:=l,moves:=0,plain:=true}
def ents3 (zs:List Nat) (tk:Nat->Tok):Array (Int×Value):=(zs.map fun z:Nat=>((z:Int),Value.int (z:Int) (tk z))).toArray
def subs3:List (List Nat):=[[],[1],[2],[3],[1,2],[1,3],[2,3],[1,2,3]]
def ins3 (x:Nat) (zs:List Nat):List Nat:=[1,2,3].filter fun z=>decide (z=x∨z∈zs)
theorem ins3_sub (x:Nat) (zs:List Nat):ins3 x zs∈subs3:=by
 unfold ins3
 by_cases h1:1=x∨1∈zs<;>by_cases h2:2=x∨2∈zs<;>by_cases h3:3=x∨3∈zs<;>simp [List.filter,h1,h2,h3,subs3]
theorem ins3_mem {x z:Nat} {zs:List Nat} (hz:zs∈subs3) (hx:x∈[1,2,3]):z∈ins3 x zs↔z=x∨z∈zs:=by
 unfold ins3
 rw [List.mem_filter,decide_eq_true_iff]
 refine⟨fun h=>h.2,fun h=>⟨?_,h⟩⟩
 rcases h with rfl|h
 ·exact hx
 ·simp only [subs3,List.mem_cons,List.not_mem_nil,or_false]at hz
  rcases hz with rfl|rfl|rfl|rfl|rfl|rfl|rfl|rfl<;>simp at h⊢ <;>omega
theorem lay3 {l:Bool} {zs:List Nat} {x:Nat} {tk:Nat->Tok} {t:Tok} (hz:zs∈subs3) (hx:x∈[1,2,3]) (hn:x∉zs):
  layNew (tab3 l zs) (ents3 zs tk) (x:Int) (.int x t)=(ents3 (ins3 x zs) (fun z=>if z=x then t else tk z),tab3 l (ins3 x zs),false,false):=by
 simp only [subs3,List.mem_cons,List.not_mem_nil,or_false]at hz hx
 rcases hz with rfl|rfl|rfl|rfl|rfl|rfl|rfl|rfl<;>rcases hx with rfl|rfl|rfl<;>first|(exact absurd (by decide) hn)|(cases l<;>kernel_rfl)
section
variable {prog:Program} {w:World} {A:Around} {E:Value->Shared->Prop} {s:Shared}
def SetI (s:Shared) (a:Addr) (l:Bool) (zs:List Nat):Prop:=∃o ep tk,s.heap.get? a=some o/\o.ExactSet/\o.data= .set (ents3 zs tk) ep (tab3 l zs)/\zs∈subs3
theorem size3 (zs:List Nat) (tk:Nat->Tok):(ents3 zs tk).size=zs.length:=by simp [ents3]
theorem len3:∀zs∈subs3,zs.length<=3:=by decide
theorem fits3 {l:Bool} {zs:List Nat} {tk:Nat->Tok} (hz:zs∈subs3):(tab3 l zs).fits (ents3 zs tk).size=true:=by
 simp only [subs3,List.mem_cons,List.not_mem_nil,or_false]at hz
 rcases hz with rfl|rfl|rfl|rfl|rfl|rfl|rfl|rfl<;>rfl
theorem hash3 {x:Nat} (hx:x∈[1,2,3]):(intKind prog w).hash (x:Int)=(x:Int):=by
 simp only [List.mem_cons,List.not_mem_nil,or_false]at hx
 rcases hx with rfl|rfl|rfl<;>rfl
theorem elems3 {zs:List Nat} {tk:Nat->Tok} (hz:zs∈subs3):ElemsOf (intKind prog w) (ents3 zs tk).toList:=by
 intro e he
 obtain⟨z,hm,rfl⟩:=List.mem_map.mp (show e∈zs.map _ from he)
 have:z∈[1,2,3]:=by
  simp only [subs3,List.mem_cons,List.not_mem_nil,or_false]at hz
  rcases hz with rfl|rfl|rfl|rfl|rfl|rfl|rfl|rfl<;>simp at hm⊢ <;>omega
 exact⟨⟨(z:Int),intKind_is _ _ _ _,(hash3 this).symm⟩,rfl⟩
theorem wpAny_setAdd3 {a:Addr} {l:Bool} {zs:List Nat} {x:Nat} {t:Tok} {Q:Bool->Shared->Prop} (hx:x∈[1,2,3]) (S:SetI s a l zs) (h:∀(b:Bool) h',Heap.SameBut a s.heap h'->SetI {s with heap:=h'} a l (ins3 x zs)->Q b {s with heap:=h'}):
  wpAny (model prog w) A (setAddHashed a (.int x t) (x:Int)) Q E s:=by
 obtain⟨o,ep,tk,ho,hex,hd,hz⟩:=S
 have hel:=elems3 (prog:=prog) (w:=w) (tk:=tk) hz
 have hsz:(ents3 zs tk).size<=3:=by rw [size3];exact len3 zs hz
 unfold setAddHashed setAddHashedIn
 refine wpAny_holding (wpAny_bind (wpAny_setState_of ho hd (fits3 hz) ?_))
 dsimp only
 rw [byScan_of (knd:=intKind prog w) rfl (by unfold scanBound;omega) hel]
 simp only [↓reduceIte]
 unfold setAddByScan
 refine wpAny_bind ?_
 refine wpAny_bind (wpAny_rule ?_)
 have hkey:(intKind prog w).is (x:Int) (.int x t)=true:=intKind_is _ _ _ _
 have e1:wpAny (model prog w) A (setScan a (.int x t) (x:Int) true (ents3 zs tk)) (fun r s'=>s'=s/\r=(match (ents3 zs tk).toList.findIdx? (fun e=>(intKind prog w).is (x:Int) e.2)with|some j=> .found (0+j)|none=> .absent)) E s:=by
  have:=wpAny_setScan_of (knd:=intKind prog w) (adding:=true) (A:=A) (E:=E) (Q:=fun r s'=>s'=s/\r=(match (ents3 zs tk).toList.findIdx? (fun e=>(intKind prog w).is (x:Int) e.2)with|some j=> .found (0+j)|none=> .absent)) hkey ho hd (fits3 hz) hel ⟨rfl,rfl⟩
  rw [hash3 hx]at this
  exact this
 refine wpAny_bind (wpAny_mono e1 (fun r s' hr=>?_) fun _ _ z=>z)
 obtain⟨rfl,rfl⟩:=hr
 have mem:(∃e∈(ents3 zs tk).toList,(intKind prog w).is (x:Int) e.2=true)↔x∈zs:=by
  constructor
  ·rintro⟨e,he,hk⟩
   obtain⟨z,hm,rfl⟩:=List.mem_map.mp (show e∈zs.map _ from he)
   have:(x:Int)=(z:Int):=(intKind prog w).inj _ _ _ hk (intKind_is _ _ _ _)
   have:x=z:=by omega
   rw [this];exact hm
  ·intro hm
   exact⟨_,List.mem_map.mpr ⟨x,hm,rfl⟩,intKind_is _ _ _ _⟩
 cases hr:List.findIdx? (fun e=>(intKind prog w).is (x:Int) e.2) (ents3 zs tk).toList with
 |some j=>
  dsimp only
  obtain⟨hj,hpj,_⟩:=List.findIdx?_eq_some_iff_getElem.mp hr
  have hin:=mem.mp ⟨_,List.getElem_mem hj,hpj⟩
  refine wpAny_pure (wpAny_pure ?_)
  have same:ins3 x zs=zs:=by
   simp only [subs3,List.mem_cons,List.not_mem_nil,or_false]at hz hx
   rcases hz with rfl|rfl|rfl|rfl|rfl|rfl|rfl|rfl<;>rcases hx with rfl|rfl|rfl<;>first|(exact absurd hin (by decide))|rfl
  have:=h false s'.heap (Heap.SameBut.refl a s'.heap) (by rw [same];exact⟨o,ep,tk,ho,hex,hd,hz⟩)
  exact this
 |none=>
  dsimp only
  have hn:x∉zs:=fun hm=>by
   obtain⟨e,he,hp⟩:=mem.mpr hm
   have:=List.findIdx?_eq_none_iff.mp hr e he
   rw [hp]at this
   exact Bool.noConfusion this
  rw [lay3 hz hx hn]
  dsimp only
  refine wpAny_bind (wpAny_pure ?_)
  rw [if_pos (show(tab3 l (ins3 x zs)).plain=true from rfl)]
  refine wpAny_bind ?_
  rw [hashByValue_scannable 8 (show(Value.int x t).scannable=true from rfl)]
  refine wpAny_pure ?_
  rw [if_pos (show plainKind (Value.int x t)=true from rfl)]
  have hsz2:(ents3 (ins3 x zs) (fun z=>if z=x then t else tk z)).size<=3:=by rw [size3];exact len3 _ (ins3_sub x zs)
  refine wpAny_bind (wpAny_storeSet_of ho hd ?_ (by rw [sizeLine_eq];omega))
  have nf:(!false && (tab3 l (ins3 x zs)).tooFull)=false:=by
   have:=ins3_sub x zs
   generalize ins3 x zs=ys at this
   simp only [subs3,List.mem_cons,List.not_mem_nil,or_false]at this
   rcases this with rfl|rfl|rfl|rfl|rfl|rfl|rfl|rfl<;>rfl
  rw [nf]
  simp only [Bool.false_eq_true,if_false]
  refine wpAny_pure (wpAny_pure ?_)
  have hg:(s'.heap.update a (Obj.putSet (ents3 (ins3 x zs) (fun z=>if z=x then t else tk z)) (tab3 l (ins3 x zs)))).get? a=some {o with data:= .set (ents3 (ins3 x zs) (fun z=>if z=x then t else tk z)) (ep+1) (tab3 l (ins3 x zs))}:=by
   have:=Heap.get?_update_self (Obj.putSet (ents3 (ins3 x zs) (fun z=>if z=x then t else tk z)) (tab3 l (ins3 x zs))) ho (by rw [putSet_of _ _ hd];rfl)
   rw [putSet_of _ _ hd]at this
   exact this
  exact h true _ (Heap.SameBut.update s'.heap a (Obj.putSet _ _)) ⟨_,_,_,hg,hex,rfl,ins3_sub x zs⟩
def met3 (val:Nat->Nat):Nat->List Nat
 |0=>[]
 |i+1=>ins3 (val i) (met3 val i)
theorem met3_sub (val:Nat->Nat):∀i,met3 val i∈subs3
 |0=>by simp [met3,subs3]
 |i+1=>ins3_sub _ _
theorem met3_mem {val:Nat->Nat} {n:Nat} (hv:∀i,i<n->val i∈[1,2,3]):∀i,i<=n->∀z,z∈met3 val i↔ ∃j,j<i/\val j=z
 |0,_,z=>by simp [met3]
 |i+1,h,z=>by
  rw [met3,ins3_mem (met3_sub val i) (hv i (by omega)),met3_mem hv i (by omega) z]
  constructor
  ·rintro(rfl|⟨j,h1,h2⟩)
   ·exact⟨i,by omega,rfl⟩
   ·exact⟨j,by omega,h2⟩
  ·rintro⟨j,h1,h2⟩
   by_cases e:j=i
   ·subst e;exact .inl h2.symm
   ·exact .inr ⟨j,by omega,h2⟩
theorem codeAny_set_update_loop3 {R:Result->Shared->Prop} {I:Addr} {fp wr:List Addr} {G:Array GenState->Array GenState->Prop} {n:Nat} {P:Nat->Value->Prop} {St:Nat->Shared->Prop}
  (W:WalksS prog w A.in1 I fp wr G n P St) (S:Addr) (hSf:S∉fp) (l:Bool)
  (val:Nat->Nat) (hval:∀i v,P i v->∃t,v= .int (val i) t) (h3:∀i,i<n->val i∈[1,2,3]):
  ∀(k i:Nat) (s:Shared),n-i=k->i<=n->St i s->SetI s S l (met3 val i)->
   (∀s',Moved (S::wr) G s s'->SetI s' S l (met3 val n)->R (.ok (.ret .none)) s')->
   codeAny (model prog w) A (.builtin "set.update.loop" ⟨[.ref S,.ref I],[]⟩) R s:=by
 have hSw:S∉wr:=fun h=>hSf (W.sub _ h)
 have hsub:∀b∈wr,b∈S::wr:=fun b hb=>List.mem_cons_of_mem _ hb
 intro k
 induction k with
 |zero=>
  intro i s hk hi hst hS hR
  have hin:i=n:=by omega
  subst hin
  refine codeAny_builtin PyProof.Rows.F.entry_set_update_loop ?_
  rw [Around.under_plainId PyProof.Rows.F.plain_set_update_loop _]
  show wpAny _ A.in1 (pyNext (.ref I)>>=_) _ _ s
  refine wpAny_bind (W.done s _ _ hst fun s' hm=>?_)
  show wpAny _ A.in1 (ret Value.none) _ _ s'
  exact wpAny_pure (hR s' (hm.mono hsub) (by
   obtain⟨o,ep,tk,ho,rest⟩:=hS
   exact⟨o,ep,tk,hm.heap S _ hSw ho,rest⟩))
 |succ k ih=>
  intro i s hk hi hst hS hR
  have hlt:i<n:=by omega
  refine codeAny_builtin PyProof.Rows.F.entry_set_update_loop ?_
  rw [Around.under_plainId PyProof.Rows.F.plain_set_update_loop _]
  show wpAny _ A.in1 (pyNext (.ref I)>>=_) _ _ s
  refine wpAny_bind (W.item i s _ _ hlt hst fun v s' hP hst' hm=>?_)
  obtain⟨t,rfl⟩:=hval i v hP
  have hS':SetI {s' with toks:=s'.toks+1} S l (met3 val i):=by
   obtain⟨o,ep,tk,ho,rest⟩:=hS
   exact⟨o,ep,tk,hm.heap S _ hSw ho,rest⟩
  show wpAny _ A.in1 (holding [Value.int (val i) t] (setAdd S (.int (val i) t))>>=_) _ _ s'
  refine wpAny_bind (wpAny_holding ?_)
  unfold setAdd
  refine wpAny_holding ?_
  refine wpAny_bind ((intKind prog w).pyHash (k:=(val i:Int)) (intKind_is _ _ _ _) ?_)
  rw [hash3 (h3 i hlt)]
  refine wpAny_setAdd3 (s:={s' with toks:=s'.toks+1}) (h3 i hlt) hS' fun b h' hsb hS2=>?_
  refine wpAny_pure ⟨plainId_quiet PyProof.Rows.F.plain_set_update_loop _,ih (i+1) _ (by omega) hlt (W.frame _ s' _ _ hst' (Nat.le_succ _) fun b hb o e=>?_) hS2 fun s'' hm'' hS''=>?_⟩
  ·rw [hsb.2 b (fun h:b=S=>hSf (by rw [<-h];exact hb))];exact e
  ·refine hR s'' (Moved.trans W.gtrans ((hm.mono hsub).then_heap (Nat.le_succ _) fun b o hb e=>?_) hm'') hS''
   rw [hsb.2 b (fun h:b=S=>hb (by rw [h];exact List.mem_cons_self))];exact e
theorem call_set_list3 {l:Addr} {items:Array Value} {val:Nat->Nat} {Q:Value->Shared->Prop} (hh:A.handled=none) (hl:s.heap.IsList l items) (hi:∀(i:Nat) (v:Value),items[i]? =some v->∃t,v= .int (val i) t) (h3:∀j,j<items.size->val j∈[1,2,3])
  (h:∀(h':Heap) (tk:Nat),SetI {s with heap:=h',toks:=tk} s.heap.objs.size (!w.params.followText "set-order") (met3 val items.size)->(∀b o,b<s.heap.objs.size->s.heap.get? b=some o->h'.get? b=some o)->Q (.ref s.heap.objs.size) {s with heap:=h',toks:=tk}):
  wpAny (model prog w) A (call (.type "set") [.ref l]) Q E s:=
 call_set_gen (fun s'=>SetI s' s.heap.objs.size (!w.params.followText "set-order") (met3 val items.size)) hh hl
  (fun s1 W hSf hA hnt st kp hS hR=>codeAny_set_update_loop3 W s.heap.objs.size hSf _ val hi h3 (items.size-0) 0 s1 (by omega) (Nat.zero_le _) st ⟨_,0,fun _=>0,hS,⟨rfl,rfl,rfl⟩,rfl,by simp [met3,subs3]⟩ fun s' hm S=>hR s' hm S)
  fun h' tk S kp=>h h' tk S kp
end
end PySem
namespace L2
open PySem PySem.Spec PyProof.Rows
section
variable {prog:Program} {w:World} {A:Around} {R:Result->Shared->Prop} {s:Shared}
theorem compLoop_any {elt target iter:Expr} {scope:Scope} {pos:Pos} {it acc:Value} {env:Env} (I:Nat->Shared->Prop)
  (turn:∀n s,I n s->wpAny (model prog w) A (pyNext it) (fun r s₁=>match r with
   |none=>R (.ok .next) s₁
   |some v=>wpAny (model prog w) A (letOwnedTupleGo target it v) (fun _ s₁'=>wpAny (model prog w) A (assign target env v) (fun _ s₂=>wpAny (model prog w) A (eval elt env) (fun x s₃=>
     wpAny (model prog w) A (call (.builtin "list.append") [acc,x]) (fun _ s₄=>∃m,m<n/\I m s₄) (fun _ _=>False) s₃) (fun _ _=>False) s₂) (fun _ _=>False) s₁') (fun _ _=>False) s₁) (fun _ _=>False) s)
  (n:Nat) (h:I n s):
  codeAny (model prog w) A (.compLoop (.ListComp elt [⟨target,iter,[],0⟩] scope pos) 0 it acc env) R s:=by
 refine codeAny_loop rfl I (fun n s hI=>?_) n h
 show wpAny _ _ ((compTurn (.ListComp elt [⟨target,iter,[],0⟩] scope pos) 0 it acc env).onRaise (fun x=>do noteFrame x env;theTreesLotGoes x)) _ _ s
 refine wpAny_noted ?_
 rw [compTurn_list1]
 refine wpAny_bind (wpAny_standAt (wpAny_bind (wpAny_mono (turn n s hI) (fun r s₁ h₁=>?_) fun _ _ h'=>h'.elim)))
 cases r with
 |none=>exact wpAny_pure h₁
 |some v=>
  refine wpAny_bind (wpAny_mono h₁ (fun _ s₁' h₁'=>?_) fun _ _ h'=>h'.elim)
  exact wpAny_bind (wpAny_mono h₁' (fun _ s₂ h₂=>wpAny_bind (wpAny_bind (wpAny_mono h₂ (fun x s₃ h₃=>wpAny_bind (wpAny_mono h₃
   (fun _ s₄ h₄=>wpAny_pure (wpAny_pure ⟨rfl,h₄⟩)) fun _ _ h'=>h'.elim)) fun _ _ h'=>h'.elim))) fun _ _ h'=>h'.elim)
end
theorem lookup_relabel_free {env:Env} (hk:env.scope.kind= .function):∀{names:List (Str×NameKind)} {x:Str},names.lookup x=some .free->env.kindOf x=some .cell->
  (names.map fun(n,k)=>if(k==NameKind.free && env.scope.kind== .function && env.kindOf n==some .cell)then(n,NameKind.cell)else(n,k)).lookup x=some .cell
 | [],_,h,_=>by simp at h
 |(n,k)::r,x,h,hc=>by
  have ih:=@lookup_relabel_free env hk r x
  show List.lookup x ((if(k==NameKind.free && env.scope.kind== .function && env.kindOf n==some .cell)=true then(n,NameKind.cell)else(n,k))::_)=_
  cases hx:x==n with
  |true=>
   have e:x=n:=eq_of_beq hx
   subst e
   simp only [List.lookup_cons,hx]at h
   cases h
   rw [if_pos (by rw [hk,hc];rfl)]
   simp [List.lookup_cons]
  |false=>
   simp only [List.lookup_cons,hx]at h
   by_cases hcc:(k==NameKind.free && env.scope.kind== .function && env.kindOf n==some .cell)=true
   ·rw [if_pos hcc];simp only [List.lookup_cons,hx];exact ih h hc
   ·rw [if_neg hcc];simp only [List.lookup_cons,hx];exact ih h hc
theorem lookup_relabel_inv {env:Env}:∀{names:List (Str×NameKind)} {x:Str},((names.map fun(n,k)=>if(k==NameKind.free && env.scope.kind== .function && env.kindOf n==some .cell)then(n,NameKind.cell)else(n,k)).lookup x=some .cell∨
  (names.map fun(n,k)=>if(k==NameKind.free && env.scope.kind== .function && env.kindOf n==some .cell)then(n,NameKind.cell)else(n,k)).lookup x=some .free)->names.lookup x=some .free∨names.lookup x=some .cell
 | [],_,h=>by simp at h
 |(n,k)::r,x,h=>by
  have ih:=@lookup_relabel_inv env r x
  replace h:List.lookup x ((if(k==NameKind.free && env.scope.kind== .function && env.kindOf n==some .cell)=true then(n,NameKind.cell)else(n,k))::_)=_∨List.lookup x ((if(k==NameKind.free && env.scope.kind== .function && env.kindOf n==some .cell)=true then(n,NameKind.cell)else(n,k))::_)=_:=h
  cases hx:x==n with
  |true=>
   simp only [List.lookup_cons,hx]
   by_cases hcc:(k==NameKind.free && env.scope.kind== .function && env.kindOf n==some .cell)=true
   ·have:k= .free:=by
     have:=(Bool.and_eq_true _ _▸(Bool.and_eq_true _ _▸hcc).1).1
     exact eq_of_beq this
    exact .inl (by rw [this])
   ·rw [if_neg hcc]at h
    simp only [List.lookup_cons,hx]at h
    rcases h with h|h
    ·exact .inr h
    ·exact .inl h
  |false=>
   simp only [List.lookup_cons,hx]
   by_cases hcc:(k==NameKind.free && env.scope.kind== .function && env.kindOf n==some .cell)=true
   ·rw [if_pos hcc]at h;simp only [List.lookup_cons,hx]at h;exact ih h
   ·rw [if_neg hcc]at h;simp only [List.lookup_cons,hx]at h;exact ih h
theorem lt_le_ne {a b c:Nat} (h1:a<b) (h2:b<=c):a≠c:=Nat.ne_of_lt (Nat.lt_of_lt_of_le h1 h2)
abbrev cxComp (X:Cx) (Nc:List Str) (scope:Scope) (cl:List (Str×Addr)) (C:Addr) (s2:Shared) (H2:Hp) (fp:List Addr):Cx:=
 {prog:=X.prog,w:=X.w,K:=X.K,mg:=X.mg,base:=X.base,A:=X.A,N:=Nc,s₀:=s2,H₀:=H2,env:=compEnvC scope cl C X.env,outer:=X.stack,stack:=X.stack,ex:=fp,fn:=fun _=>false,calm:=X.calm,pn:=[],xe:=fun _ _=>False}
abbrev capN (own:List Str) (cap:List (Str×Nat)):List Str:=own++cap.map (·.1)
def capSt (no:Nat) (cap:List (Str×Nat)) (σ:St):St:=List.replicate no none++cap.map fun p=>(σ[p.2]?).join
structure CompScope (X:Cx) (scope:Scope) (cap:List (Str×Nat)) (cl:List (Str×Addr)):Prop where
 clos:closureFor scope X.env=pure cl
 kind:scope.kind= .function
 nocell:∀y∈scope.names,y.2≠ .cell
 names:∀y∈scope.names,y.2= .local->scope.names.lookup y.1=some .local
 sub:∀x c,cl.lookup x=some c->X.env.cells.lookup x=some c
 has:∀x,scope.names.lookup x=some .free->∃c,cl.lookup x=some c
 cap:∀p∈cap,X.N[p.2]? =some p.1/\scope.names.lookup p.1=some .free/\X.env.scope.names.lookup p.1=some .cell
def CompW (J:It) (D:Addr) (g:TG) (te:TE) (Q:VK) (σ:St) (H:Hp):Prop:=∃W:Nat->Nat->St->Hp->Prop,
 (∃m,W 0 m σ H)/\∀i m σc H2,W i m σc H2->
  (J.stop i H2/\Q (.ref D) H2)∨(J.go i H2/\∀x H3,J.yld i H2 x H3->g x σc H3 fun σ4 H4=>te σ4 H4 fun y H5=>∃ys,H5 D=some (.lst ys)/\ys.length<sizeLine/\∃m',m'<m/\W (i+1) m' σ4 (upd H5 D (.lst (ys++[y]))))
def tComp (no:Nat) (cap:List (Str×Nat)) (wi:TI) (g:TG) (te:TE):TE:=fun σ H Q=>wi σ H fun J H1=>∀D,H1 D=none->CompW J D g te Q (capSt no cap σ) (upd H1 D (.lst []))
section
variable {X:Cx} {pins:List (Addr×Obj)} {σ:St} {s2:Shared} {H2:Hp}
theorem capSt_get {no:Nat} {cap:List (Str×Nat)} {own:List Str} (hno:own.length=no) {i:Nat} {x:Str} {v:V} (h1:(capN own cap)[i]? =some x) (h2:(capSt no cap σ)[i]? =some (some v)):
  ∃p∈cap,p.1=x/\σ[p.2]? =some (some v):=by
 subst hno
 unfold capSt at h2
 by_cases hi:i<own.length
 ·rw [List.getElem?_append_left (by simpa using hi),List.getElem?_replicate]at h2
  rw [if_pos hi]at h2
  cases h2
 ·rw [List.getElem?_append_right (by simpa using hi)]at h2
  unfold capN at h1
  rw [List.getElem?_append_right (by simpa using hi)]at h1
  rw [List.length_replicate,List.getElem?_map]at h2
  rw [List.getElem?_map]at h1
  cases e:cap[i-own.length]? with
  |none=>rw [e]at h1;cases h1
  |some p=>
   rw [e]at h1 h2
   refine⟨p,List.mem_of_getElem? e,Option.some.inj h1,?_⟩
   have q:(σ[p.2]?).join=some v:=Option.some.inj h2
   cases e2:σ[p.2]? with
   |none=>rw [e2]at q;cases q
   |some o=>rw [e2]at q;exact congrArg some q
theorem comp_block {elt iter tg:Expr} {scope:Scope} {own:List Str} {cap:List (Str×Nat)} {cl:List (Str×Addr)} {pos:Pos} {J:It} {fp:List Addr} {it:Addr} {tn:Nat->Heap->Prop} {g:TG} {te:TE} {Q:VK}
  (S:CompScope X scope cap cl) (hc:X.calm=true) (I:Inv X pins σ H2 s2) (T:Turn X.prog X.w X.K tg J fp it tn) (st:tn 0 s2.heap) (hf:∀b∈fp,FpOk X pins H2 b)
  (hg:∀C s2 H2 fp,PG (cxComp X (capN own cap) scope cl C s2 H2 fp) tg g) (he:∀C s2 H2 fp,PE (cxComp X (capN own cap) scope cl C s2 H2 fp) elt te)
  (W:Nat->Nat->St->Hp->Prop) (w0:∃m,W 0 m (capSt own.length cap σ) (upd H2 s2.heap.objs.size (.lst [])))
  (turn:∀i m σc H3,W i m σc H3->(J.stop i H3/\Q (.ref s2.heap.objs.size) H3)∨(J.go i H3/\∀x H4,J.yld i H3 x H4->g x σc H4 fun σ5 H5=>te σ5 H5 fun y H6=>∃ys,H6 s2.heap.objs.size=some (.lst ys)/\ys.length<sizeLine/\∃m',m'<m/\W (i+1) m' σ5 (upd H6 s2.heap.objs.size (.lst (ys++[y])))))
  {RR:Value->Addr->Result->Shared->Prop}
  (hRR:∀C H' s' m,s2.heap.objs.size<=C->s'.heap.Ns C m->H' C=none->Inv X pins σ H' s'->(∀h',Heap.SameBut C s'.heap h'->Inv X pins σ H' {s' with heap:=h'})->Q (.ref s2.heap.objs.size) H'->RR (.ref s2.heap.objs.size) C (.ok .next) s')
  {E:Value->Shared->Prop}:
  wpAny (model X.prog X.w) X.A (newList []) (fun acc s₃=>wpAny (model X.prog X.w) X.A (newFunctionEnv scope X.env.globals cl [] X.env.qual none .none (some X.env)) (fun cenv s₄=>
   codeAny (model X.prog X.w) X.A (.compStart (.ListComp elt [⟨tg,iter,[],0⟩] scope pos) 0 (.ref it) acc {cenv with scope:=relabel scope X.env}) (RR acc cenv.locals) s₄) E s₃) E s2:=by
 refine wpAny_newObj_type (wpAny_newFunctionEnv S.nocell (by intro y hy;simp at hy) (fun h₁ hns₁ hsb₁=>?_) S.kind)
 dsimp only at hns₁ hsb₁⊢
 generalize hH2:s2.heap.push {cls:= .type "list",dict:=none,data:= .seq ([]:List Value).toArray}=G2 at hns₁ hsb₁⊢
 have hC:G2.objs.size=s2.heap.objs.size+1:=by rw [<-hH2,Heap.size_push]
 have hDC:s2.heap.objs.size≠G2.objs.size:=by rw [hC];exact Nat.ne_of_lt (Nat.lt_succ_self _)
 have hCle:s2.heap.objs.size<=G2.objs.size:=by rw [hC];exact Nat.le_succ _
 have below:∀b,b<s2.heap.objs.size->b≠G2.objs.size/\b≠s2.heap.objs.size:=fun b hb=>⟨by rw [hC];exact Nat.ne_of_lt (Nat.lt_succ_of_lt hb),Nat.ne_of_lt hb⟩
 have old:∀b o,s2.heap.get? b=some o->h₁.get? b=some o:=fun b o e=>hsb₁.extBut b o (below b (Heap.lt_size e)).1 (Heap.get?_push_of_some _ (hH2▸Heap.get?_push_of_some _ e))
 have hacc:h₁.get? s2.heap.objs.size=some {cls:= .type "list",dict:=none,data:= .seq ([]:List Value).toArray}:=hsb₁.extBut _ _ hDC (Heap.get?_push_of_some _ (hH2▸Heap.get?_push_size _ rfl))
 have hfps:∀b∈fp,b<s2.heap.objs.size:=fun b hb=>by
  obtain⟨o,e,_⟩:=T.obj _ _ st b hb
  exact Heap.lt_size e
 have hfree:∀b,s2.heap.objs.size<=b->H2 b=none:=fun b hb=>I.hok.fresh hb
 generalize hX:cxComp X (capN own cap) scope cl G2.objs.size s2 H2 fp=X'
 have hOk:X'.Ok:=by
  subst hX
  refine⟨I.ok.mod,S.kind,I.ok.glob,I.ok.blt,hCle,fun x y c e1 e2=>I.ok.inj x y c (S.sub x c e1) (S.sub y c e2),fun x hx=>?_,fun x c z=>absurd (show false=true from z) Bool.false_ne_true,I.ok.hd,I.ok.frames,.inl rfl,
   fun b hb=>⟨(below b (hfps b hb)).1,fun x c e=>(hf b hb).2.2.2.2.1 x c (S.sub x c e)⟩,I.bs,Nat.le_trans I.ok.bsz I.sz,fun b o e hb=>?_,fun b hb z=>?_,I.stack,I.stkFree⟩
  ·rcases lookup_relabel_inv (env:=X.env) (names:=scope.names) (x:=x) hx with h|h
   ·exact S.has x h
   ·exact absurd rfl (S.nocell _ (PySem.mem_of_lookup h))
  ·rcases (hf b hb).2.2.2.1 with z|z
   ·exact I.ok.noex b o e z
   ·exact absurd (Nat.lt_of_lt_of_le (Heap.lt_size e) (Nat.le_trans I.ok.bsz z)) (Nat.lt_irrefl _)
  ·rcases List.mem_cons.mp (I.stkSub b z)with z|z
   ·exact(hf b hb).2.1 z
   ·exact(hf b hb).2.2.1 z
 have hI0:Inv X' [] (capSt own.length cap σ) (upd H2 s2.heap.objs.size (.lst [])) {s2 with heap:=h₁,toks:=s2.toks+([]:List (Str×Value)).length}:=by
  subst hX
  refine⟨hOk,rfl,I.bare,Un.laid old (Nat.le_refl _) (hfree _ (Nat.le_refl _)),⟨_,hns₁,fun i x v e1 e2 e3=>?_⟩,fun x c e=>?_,?_,fun x c e=>?_,fun p hp=>absurd (show p∈([]:List (Addr×Obj))from hp) (by simp),?_,?_⟩
  ·obtain⟨p,hp,rfl,hσ⟩:=capSt_get rfl e1 e2
   obtain⟨c1,c2,c3⟩:=S.cap p hp
   obtain⟨m,hn,hl⟩:=I.loc
   obtain⟨u,r,l⟩:=hl p.2 p.1 v c1 hσ (.inr (.inl c3))
   refine⟨u,r,.inr ⟨.inl (lookup_relabel_free I.ok.kind c2 c3),?_⟩⟩
   obtain⟨c,hcl⟩:=S.has _ c2
   refine⟨c,hcl,?_⟩
   rcases l with ⟨k,_⟩|⟨_,c',e,z⟩
   ·have k':X.env.scope.names.lookup p.1=some .local:=k
    rw [c3]at k';cases k'
   ·have:=S.sub _ _ hcl
    rw [e]at this;cases this
    obtain⟨o,ho,hd⟩:=z
    exact⟨o,old _ _ ho,hd⟩
  ·obtain⟨v,o,ho,hd⟩:=I.cell x c (S.sub x c e)
   exact⟨v,o,old _ _ ho,hd⟩
  ·show upd H2 s2.heap.objs.size (.lst []) G2.objs.size=none
   rw [upd_ne (Ne.symm hDC)]
   exact hfree _ hCle
  ·have e':=S.sub x c e
   obtain⟨v,o,ho,hd⟩:=I.cell x c e'
   rw [upd_ne (below c (Heap.lt_size ho)).2]
   exact I.freeC x c e'
  ·exact I.hok.laid old (Nat.le_refl _) ⟨Nat.zero_le _,[],_,.nil,hacc⟩
  ·show(capSt own.length cap σ).length=(capN own cap).length
   unfold capSt capN
   simp
 have hP:X'.prog=X.prog:=by subst hX;rfl
 have hw:X'.w=X.w:=by subst hX;rfl
 have hK:X'.K=X.K:=by subst hX;rfl
 have hA:X'.A=X.A:=by subst hX;rfl
 have hcalm:X'.calm=true:=by subst hX;exact hc
 have hxe:X'.xe=fun _ _=>False:=by subst hX;rfl
 have henv:X'.env=compEnvC scope cl G2.objs.size X.env:=by subst hX;rfl
 have hbase:∀{σ' H' s'},Inv X' [] σ' H' s'->Un (frs X.stack) fp H2 H' s2.heap s'.heap/\s'.os=s2.os:=fun{σ' H' s'} J=>by subst hX;exact⟨J.base,J.os⟩
 have hg':PG X' tg g:=by subst hX;exact hg _ _ _ _
 have he':PE X' elt te:=by subst hX;exact he _ _ _ _
 have stat:∀{H':Hp},(∀b∈fp,H' b=none)->∀b∈fp,FpOk X' [] H' b:=fun{H'} hn b hb=>by
  subst hX
  refine⟨hn b hb,(below b (hfps b hb)).1,fun z=>?_,.inl hb,fun x c e=>(hf b hb).2.2.2.2.1 x c (S.sub x c e),fun p hp=>absurd (show p∈([]:List (Addr×Obj))from hp) (by simp)⟩
  rcases List.mem_cons.mp (I.stkSub b z)with z|z
  ·exact(hf b hb).2.1 z
  ·exact(hf b hb).2.2.1 z
 have back:∀{σ' H' s'},Inv X' [] σ' H' s'->Q (.ref s2.heap.objs.size) H'->RR (.ref s2.heap.objs.size) G2.objs.size (.ok .next) s':=fun{σ' H' s'} J q=>by
  obtain⟨u,ho⟩:=hbase J
  have hcf:∀b∈fp,(b∈X.ex∨X.s₀.heap.objs.size<=b)/\b≠X.env.locals/\(∀x c,X.env.cells.lookup x=some c->c≠b)/\∀p∈X.pn++pins,p.1≠b:=fun b hb=>by
   obtain⟨f0,f1,f2,f3,f4,f5⟩:=hf b hb
   exact⟨f3,f1,f4,f5⟩
  have hCn:H' G2.objs.size=none:=by have:=J.free;rw [henv]at this;exact this
  have hok':HOk X.prog X.w H' s'.heap:=by have:=J.hok;rw [hP,hw]at this;exact this
  obtain⟨m,hm,_⟩:=J.loc
  rw [henv]at hm
  refine hRR _ H' s' m hCle hm hCn (I.call' ho u hok' J.bare hcf) (fun h' hs=>?_) q
  have kn:∀b o,s2.heap.get? b=some o->h'.get? b=s'.heap.get? b:=fun b o e=>hs.2 b (below b (Heap.lt_size e)).1
  refine I.call' (s':={s' with heap:=h'}) ho ⟨fun b o e n hb hx=>(kn b o e).trans (u.keep b o e n hb hx),fun b o e n hb hx=>?_,u.free,fun b o e hx=>?_,u.tups,u.frzs,u.tbls⟩ (fun b ob e=>?_) J.bare hcf
  ·obtain⟨sl,e1⟩:=u.slot b o e n hb hx
   exact⟨sl,(kn b o e).trans e1⟩
  ·obtain⟨o',e1⟩:=u.there b o e hx
   exact⟨o',(kn b o e).trans e1⟩
  ·refine(hok' b ob e).stay (fun c w' hc q=>(hs.2 c ?_).trans q) (fun _ q=>q) fun _ _ q=>q
   rintro rfl
   rcases hc with rfl|hc
   ·rw [hCn]at e;cases e
   ·rw [hCn]at hc;cases hc
 have loop:∀s₃:Shared,s₃={s2 with heap:=h₁,toks:=s2.toks+([]:List (Str×Value)).length}->
   codeAny (model X.prog X.w) X.A (.compLoop (.ListComp elt [⟨tg,iter,[],0⟩] scope pos) 0 (.ref it) (.ref s2.heap.objs.size) (compEnvC scope cl G2.objs.size X.env))
    (RR (.ref s2.heap.objs.size) G2.objs.size) s₃:=by
  rintro s₃ rfl
  obtain⟨m0,w0⟩:=w0
  refine compLoop_any (fun n s'=>∃i σ' H',Inv X' [] σ' H' s'/\tn i s'.heap/\(∀b∈fp,H' b=none)/\W i n σ' H') ?_ m0
   ⟨0,_,_,hI0,T.keep _ _ _ st fun b hb o e=>old b o e,fun b hb=>?_,w0⟩
  ·rintro n s3 ⟨i,σ3,H3,I3,st3,fr3,w3⟩
   rcases turn i n σ3 H3 w3 with ⟨stop,qn⟩|⟨go,step⟩
   ·have d:=T.done X' hP hw hK hcalm i [] s3 σ3 H3 (fun _ _=>False) I3 (stat fr3) st3 stop
    rw [hA]at d
    refine thn d fun r s4 ⟨hr,I4⟩=>?_
    subst hr
    exact back I4 qn
   ·have d:=T.item X' hP hw hK hcalm i [] s3 σ3 H3 (fun _ _=>False) I3 (stat fr3) st3 go
    rw [hA]at d
    refine thn d fun r s4 ⟨u,hr,h4⟩=>?_
    subst hr
    refine thn h4 fun _ s5 ⟨x,H5,I5,r5,y5,st5,fr5⟩=>?_
    have I5':=I5.pinned (stat fr5) (T.obj _ _ st5)
    have d2:=hg' _ s5 σ3 H5 x u _ I5' r5 (step x H5 y5)
    rw [hP,hw,hA,hxe,henv]at d2
    refine thn d2 fun _ s6 ⟨σ6,H6,I6,q6⟩=>?_
    have d3:=he' _ s6 σ6 H6 _ I6 q6
    rw [hP,hw,hA,hxe,henv]at d3
    refine thn d3 fun y7 s7 ⟨v7,H7,I7,r7,ys,e7,l7,m',hm,w7⟩=>?_
    have d4:=mt_append (X:=X') _ s7 σ6 H7 (.ref s2.heap.objs.size) [v7] (.ref s2.heap.objs.size) [y7] (fun _ H8=>W (i+1) m' σ6 H8) I7 rfl (.cons r7 .nil) ⟨_,ys,v7,rfl,rfl,e7,l7,w7⟩
    rw [hP,hw,hA,hxe]at d4
    refine thn d4 fun _ s8 ⟨v8,H8,I8,_,w8⟩=>?_
    refine⟨m',hm,i+1,σ6,H8,I8.unpinned,T.keep _ _ _ st5 fun b hb o e=>(I8.pin (b,o) (List.mem_append_right _ (List.mem_append_right _ (mem_pinsAt hb e)))).1,fun b hb=>?_,w8⟩
    obtain⟨o,e,d⟩:=T.obj _ _ st5 b hb
    exact(I8.pin (b,o) (List.mem_append_right _ (List.mem_append_right _ (mem_pinsAt hb e)))).2.1
  ·rw [upd_ne (below b (hfps b hb)).2]
   exact(hf b hb).1
 exact codeAny_compStart_list (loop _ rfl) (T.self _ 0 _ _ _ (T.keep _ _ _ st fun b hb o e=>old b o e) (loop _ rfl))
theorem pe_comp {elt iter tg:Expr} {scope:Scope} {own:List Str} {cap:List (Str×Nat)} {cl:List (Str×Addr)} {pos:Pos} {wi:TI} {g:TG} {te:TE}
  (S:CompScope X scope cap cl) (hc:X.calm=true) (hi:PI X tg iter wi)
  (hg:∀C s2 H2 fp,PG (cxComp X (capN own cap) scope cl C s2 H2 fp) tg g) (he:∀C s2 H2 fp,PE (cxComp X (capN own cap) scope cl C s2 H2 fp) elt te)
  (hs:∀x,foldedSetIterable iter X.env x=pure x:=by intro _;rfl):PE X (.ListComp elt [⟨tg,iter,[],0⟩] scope pos) (tComp own.length cap wi g te):=by
 intro pins s σ H Q I h
 rw [eval_ListComp]
 refine wpAny_comprehension_free (use:=none) rfl hs S.clos S.kind S.names (thn (hi pins s σ H _ I h) fun v s1 h1=>thn h1 fun itv s2 h2=>?_)
 obtain⟨it,fp,tn,J,H2,e,I2,T,st2,f2,rd⟩:=h2
 subst e
 obtain⟨W,w0,turn⟩:=rd _ (I2.hok.fresh (Nat.le_refl _))
 exact comp_block (RR:=fun acc C=>compPost (model X.prog X.w) X.A X.xe none (EP X pins σ Q) acc C) S hc I2 T st2 f2 hg he W w0 turn
  fun C H' s' m _ hm _ _ hback q=>⟨m,hm,fun h' hs'=>⟨.ref s2.heap.objs.size,H',hback h' hs',rfl,q⟩⟩
end
section
variable {prog:Program} {w:World} {A:Around} {R:Result->Shared->Prop} {s:Shared}
end
section
variable {X:Cx} {pins:List (Addr×Obj)} {σ:St} {s2:Shared} {H2:Hp}
end
section
variable {X:Cx}
end
section
variable {X:Cx}
theorem call_isinst:CallR X (.builtin "isinstance") (fun xs H Q=>∃x n t b,xs=[x,.ty n]/\TyOf X.K H x t/\PySem.W.kitOne X.K t (.type n)=some b/\Q (.bl b) H):=by
 intro pins s σ H xs us Q I r h
 obtain⟨x,n,t,b,rfl,ty,e,q⟩:=h
 obtain⟨u,w',rfl,ru,rw'⟩:=vals2 r
 cases rw'
 exact isinst_ok I ru ty e fun tk=>⟨.bl b,H,I.tok tk,rfl,q⟩
end
theorem eqV_refl {x:V} (h:flatV x=true):eqV x x=true:=by
 cases x<;>first|rfl|exact beq_self_eq_true _|(exact absurd (show false=true from h) Bool.false_ne_true)
theorem all_range_succ (e:Nat->Bool) (n:Nat):(List.range (n+1)).all e=(e 0 && (List.range n).all fun j=>e (j+1)):=by
 rw [List.range_succ_eq_map,List.all_cons,List.all_map]
 rfl
section
variable {X:Cx} {pins:List (Addr×Obj)} {σ:St} {H:Hp} {s:Shared} {A:Around}
end
theorem clos_loop (env:Env):∀(names:List (Str×NameKind)) (acc:List (Str×Addr)),(∀y∈names,y.2= .free->∃c,env.cells.lookup y.1=some c)->(∀x c,acc.lookup x=some c->env.cells.lookup x=some c)->
  ∃cl,(forIn names acc (fun(x:Str×NameKind) (cs:List (Str×Addr))=>(if(x.2==NameKind.free)=true then(do let a<-cellOf env x.1;pure (ForInStep.yield ((x.1,a)::cs)):Sem _)else pure (ForInStep.yield cs))):Sem (List (Str×Addr)))=pure cl/\
   (∀x c,cl.lookup x=some c->env.cells.lookup x=some c)/\(∀x,(∃c,acc.lookup x=some c)∨(x,NameKind.free)∈names->∃c,cl.lookup x=some c)
 | [],acc,_,h2=>⟨acc,rfl,h2,fun x hx=>hx.elim id fun z=>(by cases z)⟩
 |(n,k)::r,acc,h1,h2=>by
  by_cases hk:k= .free
  ·subst hk
   obtain⟨c,hc⟩:=h1 (n,.free) List.mem_cons_self rfl
   obtain⟨cl,e,a,b⟩:=clos_loop env r ((n,c)::acc) (fun y hy=>h1 y (List.mem_cons_of_mem _ hy)) (fun x c' hx=>by
    cases hxn:x==n with
    |true=>
     simp only [List.lookup_cons,hxn]at hx
     have:x=n:=eq_of_beq hxn
     subst this
     cases hx
     exact hc
    |false=>
     simp only [List.lookup_cons,hxn]at hx
     exact h2 x c' hx)
   refine⟨cl,?_,a,fun x hx=>b x ?_⟩
   ·rw [<-e,List.forIn_cons]
    have ec:cellOf env n=pure c:=by unfold cellOf;rw [hc]
    simp only [beq_self_eq_true,if_true,ec]
    rfl
   ·rcases hx with ⟨c',hx⟩|hx
    ·refine .inl ?_
     cases hxn:x==n with
     |true=>exact⟨c,by simp only [List.lookup_cons,hxn]⟩
     |false=>exact⟨c',by simp only [List.lookup_cons,hxn];exact hx⟩
    ·rcases List.mem_cons.mp hx with z|z
     ·cases z
      exact .inl ⟨c,by simp [List.lookup_cons]⟩
     ·exact .inr z
  ·obtain⟨cl,e,a,b⟩:=clos_loop env r acc (fun y hy=>h1 y (List.mem_cons_of_mem _ hy)) h2
   refine⟨cl,?_,a,fun x hx=>b x ?_⟩
   ·rw [<-e,List.forIn_cons]
    have hb:(k==NameKind.free)=false:=by simpa using hk
    simp only [hb,Bool.false_eq_true,if_false]
    rfl
   ·rcases hx with hx|hx
    ·exact .inl hx
    ·rcases List.mem_cons.mp hx with z|z
     ·cases z
      exact absurd rfl hk
     ·exact .inr z
theorem comp_scope {X:Cx} {scope:Scope} {cap:List (Str×Nat)} (hcell:∀x,X.env.scope.names.lookup x=some .cell->∃c,X.env.cells.lookup x=some c) (kind:scope.kind= .function) (nocell:∀y∈scope.names,y.2≠ .cell)
  (names:∀y∈scope.names,y.2= .local->scope.names.lookup y.1=some .local) (free:∀y∈scope.names,y.2= .free->X.env.scope.names.lookup y.1=some .cell)
  (hcap:∀p∈cap,X.N[p.2]? =some p.1/\scope.names.lookup p.1=some .free/\X.env.scope.names.lookup p.1=some .cell):∃cl,CompScope X scope cap cl:=by
 obtain⟨cl,e,a,b⟩:=clos_loop X.env scope.names [] (fun y hy hf=>hcell _ (free y hy hf)) (fun x c h=>by simp at h)
 refine⟨cl,?_,kind,nocell,names,a,fun x hx=>b x (.inr (PySem.mem_of_lookup hx)),hcap⟩
 unfold closureFor
 refine Eq.trans ?_ e
 simp only [bind_pure]
abbrev CTurn (n:Nat) (D:Addr) (Pv:Nat->List V->St->Hp->Prop) (i:Nat) (σ:St) (y:V) (H5:Hp):Prop:=
 ∃ys,H5 D=some (.lst ys)/\ys.length<sizeLine/\∃m',m'<n-i/\m'=n-(i+1)/\i+1<=n/\∃acc,Pv (i+1) acc σ (upd H5 D (.lst (ys++[y])))
theorem cturn {n:Nat} {D:Addr} {Pv:Nat->List V->St->Hp->Prop} {i:Nat} {σ:St} {y:V} {H5:Hp} {acc:List V} (h1:H5 D=some (.lst acc)) (h2:acc.length<sizeLine) (hi:i<n) (h3:Pv (i+1) (acc++[y]) σ (upd H5 D (.lst (acc++[y])))):CTurn n D Pv i σ y H5:=
 ⟨acc,h1,h2,n-(i+1),by omega,rfl,hi,acc++[y],h3⟩
theorem comp_list {K:PySem.W.Frag} {a D:Addr} {xs:List V} {ni:Nat} {te:TE} {Q:VK} {σ:St} {H:Hp} (Pv:Nat->List V->St->Hp->Prop) (h0:Pv 0 [] σ H) (hl:∀i acc σ H,i<=xs.length->Pv i acc σ H->SqL K H a xs)
  (hs:∀i x acc σ H,i<xs.length->xs[i]? =some x->Pv i acc σ H->te (σ.set ni (some x)) H fun y H5=>CTurn xs.length D Pv i (σ.set ni (some x)) y H5) (hd:∀acc σ H,Pv xs.length acc σ H->Q (.ref D) H):
  CompW (Itl K a) D (gName ni) te Q σ H:=by
 refine⟨fun i m σ H=>m=xs.length-i/\i<=xs.length/\∃acc,Pv i acc σ H,⟨xs.length,by simp,Nat.zero_le _,[],h0⟩,?_⟩
 rintro i m σ H ⟨rfl,hi,acc,p⟩
 have q:=hl i acc σ H hi p
 by_cases hlt:i<xs.length
 ·refine .inr ⟨⟨xs,xs[i],q,by simp [hlt]⟩,fun x H' y=>?_⟩
  obtain⟨e,y⟩:=y
  subst e
  exact hs i x acc σ _ hlt (y xs q) p
 ·have e:i=xs.length:=by omega
  subst e
  exact .inl ⟨⟨xs,q,Nat.le_refl _⟩,hd acc σ H p⟩
theorem comp_tup {K:PySem.W.Frag} {a D:Addr} {xs:List V} {ni:Nat} {te:TE} {Q:VK} {σ:St} {H:Hp} (Pv:Nat->List V->St->Hp->Prop) (h0:Pv 0 [] σ H) (hl:∀i acc σ H,i<=xs.length->Pv i acc σ H->SqT K H a xs)
  (hs:∀i x acc σ H,i<xs.length->xs[i]? =some x->Pv i acc σ H->te (σ.set ni (some x)) H fun y H5=>CTurn xs.length D Pv i (σ.set ni (some x)) y H5) (hd:∀acc σ H,Pv xs.length acc σ H->Q (.ref D) H):
  CompW (Itt K a) D (gName ni) te Q σ H:=by
 refine⟨fun i m σ H=>m=xs.length-i/\i<=xs.length/\∃acc,Pv i acc σ H,⟨xs.length,by simp,Nat.zero_le _,[],h0⟩,?_⟩
 rintro i m σ H ⟨rfl,hi,acc,p⟩
 have q:=hl i acc σ H hi p
 by_cases hlt:i<xs.length
 ·refine .inr ⟨⟨xs,xs[i],q,by simp [hlt]⟩,fun x H' y=>?_⟩
  obtain⟨e,y⟩:=y
  subst e
  exact hs i x acc σ _ hlt (y xs q) p
 ·have e:i=xs.length:=by omega
  subst e
  exact .inl ⟨⟨xs,q,Nat.le_refl _⟩,hd acc σ H p⟩
section
variable {X:Cx}
end
section
variable {X:Cx}
theorem call_all:CallR X (.builtin "all") (fun xs H Q=>∃(p:Addr) (bs:List Bool),xs=[.ref p]/\SqL X.K H p (bs.map V.bl)/\X.calm=true/\Q (.bl (bs.all id)) H):=by
 intro pins s σ H xs us Q I r h
 obtain⟨p,bs,rfl,hq,hc,q⟩:=h
 obtain⟨u,rfl,ru⟩:=vals1 r
 cases ru
 obtain⟨its,rv,pl,hz⟩:=I.list hq
 have hl:=rv.length
 rw [List.length_map]at hl
 refine call_all_walk (wpAny_pyIter_list pl.isList ?_)
 have hlt:p<s.heap.objs.size:=by obtain⟨o,e,_⟩:=pl.isList;exact Heap.lt_size e
 have hne:p≠s.heap.objs.size:=Nat.ne_of_lt hlt
 have hd:X.A.in1.handled=none:=I.ok.hd hc
 refine⟨s.heap.objs.size,_,_,_,_,_,fun i=>bs.getD i true,rfl,Walks.list hd s.heap.objs.size p hne its.toArray,⟨⟨_,Heap.get?_push_size _ rfl,rfl,rfl⟩,pl.isList.push _⟩,fun i v s' Q' E' hv hQ=>?_,fun h' tk hk=>?_⟩
 ·have hv':its[i]? =some v:=by simpa using hv
  have hi:i<its.length:=(List.getElem?_eq_some_iff.mp hv').1
  have hi':i<bs.length:=by omega
  have e1:(bs.map V.bl)[i]? =some (V.bl bs[i]):=by simp [hi']
  obtain⟨u,hu,ru⟩:=rv.get e1
  rw [hv']at hu
  cases hu
  have ru':v=Value.bool bs[i]:=ru
  subst ru'
  have e2:bs.getD i true=bs[i]:=by simp [hi']
  have hQ':Q' (bs.getD i true) s':=hQ
  rw [e2]at hQ'
  exact wpAny_truthy_bool hQ'
 ·refine⟨.bl (bs.all id),H,?_,?_,q⟩
  ·exact I.kept (t':=tk) fun b o e=>hk b o (by simp;exact Nat.ne_of_lt (Heap.lt_size e)) (Heap.get?_push_of_some _ e)
  ·show Value.bool _=Value.bool _
   congr 1
   have e:its.toArray.size=bs.length:=by rw [List.size_toArray];omega
   rw [e]
   have:∀l:List Bool,(List.range l.length).all (fun i=>l.getD i true)=l.all id:=by
    intro l
    induction l with
    |nil=>rfl
    |cons b l ih=>
     rw [List.length_cons,all_range_succ,List.all_cons, <-ih]
     congr 1
   exact this bs
end
section
variable {X:Cx}
theorem valsOfInts:∀{us:List Value} {ns:List Int},IntsAre us ns->Vals (ns.map V.int) us
 |_,_,.nil=> .nil
 |_,_,.cons i t r=> .cons ⟨t,rfl⟩ (valsOfInts r)
theorem Paired.get2 {α β:Type} {F:α->β->Prop}:∀{l₁:List α} {l₂:List β},Paired F l₁ l₂->∀{i:Nat} {y:β},l₂[i]? =some y->∃x,l₁[i]? =some x/\F x y
 |_,_,.nil,i,_,h=>by simp at h
 |_,_,.cons h _,0,_,e=>by simp at e;subst e;exact⟨_,rfl,h⟩
 |_,_,.cons _ t,i+1,y,e=>by
  obtain⟨x,h1,h2⟩:=Paired.get2 t (i:=i) (y:=y) (by simpa using e)
  exact⟨x,by simpa using h1,h2⟩
theorem comp_range {lo:Int} {n:Nat} {D:Addr} {ni:Nat} {te:TE} {Q:VK} {σ:St} {H:Hp} (Pv:Nat->List V->St->Hp->Prop) (h0:Pv 0 [] σ H)
  (hs:∀i acc σ H,i<n->Pv i acc σ H->te (σ.set ni (some (.int (lo+i)))) H fun y H5=>CTurn n D Pv i (σ.set ni (some (.int (lo+i)))) y H5) (hd:∀acc σ H,Pv n acc σ H->Q (.ref D) H):
  CompW (Itr lo n) D (gName ni) te Q σ H:=by
 refine⟨fun i m σ H=>m=n-i/\i<=n/\∃acc,Pv i acc σ H,⟨n,by simp,Nat.zero_le _,[],h0⟩,?_⟩
 rintro i m σ H ⟨rfl,hi,acc,p⟩
 by_cases hlt:i<n
 ·refine .inr ⟨hlt,fun x H' y=>?_⟩
  obtain⟨e,y⟩:=y
  subst e y
  exact hs i acc σ _ hlt p
 ·have e:i=n:=by omega
  subst e
  exact .inl ⟨Nat.le_refl _,hd acc σ H p⟩
end
section
variable {X:Cx}
theorem preSum_sum (f:Nat->Int) (ns:List Int) (h:∀j,j<ns.length->f j=ns.getD j 0):∀n,n<=ns.length->preSum f n=(ns.take n).sum
 |0,_=>by simp [preSum]
 |n+1,hn=>by
  show preSum f n+f n=_
  rw [preSum_sum f ns h n (by omega),h n hn,List.take_succ]
  have e:ns[n]? =some (ns.getD n 0):=by simp [show n<ns.length from hn]
  rw [e,List.sum_append]
  simp
theorem take_sum_le:∀(ns:List Int) (b:Int),(∀n∈ns,0<=n/\n<=b)->0<=b->∀j,0<=(ns.take j).sum/\(ns.take j).sum<=ns.length*b
 | [],b,_,hb,j=>by simp
 |n::ns,b,h,hb,0=>by
  simp
  exact Int.mul_nonneg (by omega) hb
 |n::ns,b,h,hb,j+1=>by
  have ih:=take_sum_le ns b (fun m hm=>h m (List.mem_cons_of_mem _ hm)) hb j
  have hn:=h n List.mem_cons_self
  rw [List.take_succ_cons,List.sum_cons,List.length_cons]
  have:((ns.length+1:Nat):Int)*b=ns.length*b+b:=by rw [Int.natCast_add,Int.add_mul];simp
  rw [this]
  omega
def rSum (K:PySem.W.Frag):List V->Hp->VK->Prop:=fun xs H Q=>∃(p:Addr) (ns:List Int),xs=[.ref p]/\SqL K H p (ns.map V.int)/\ns.length<=1000/\(∀n∈ns,0<=n/\n<=1000)/\Q (.int ns.sum) H
theorem call_sum (hc:X.calm=true):CallR X (.builtin "sum") (rSum X.K):=by
 intro pins s σ H xs us Q I r h
 obtain⟨p,ns,rfl,hq,hln,hb,q⟩:=h
 obtain⟨u,rfl,ru⟩:=vals1 r
 cases ru
 obtain⟨its,rv,pl,hz⟩:=I.list hq
 have hi:IntsAre its ns:=intsAre_of rv
 obtain⟨ys,e⟩:=hi.allInts.items
 have hns:ns=ys.toList.map (·.1):=by
  rw [<-hi.numsOf, <-nums_intItems, <-e]
 have hsz:ys.size=ns.length:=by rw [hns,List.length_map,Array.length_toList]
 have hl:=pl.isList
 rw [e]at hl
 have hat:∀j,j<ns.length->numAt ys j=ns.getD j 0:=fun j hj=>by
  rw [numAt_eq,hns]
 have hps:∀n,n<=ns.length->preSum (numAt ys) n=(ns.take n).sum:=preSum_sum _ _ hat
 have hsum:=take_sum_le ns 1000 hb (by decide)
 have hbig:(ns.length:Int)*1000<=1000000:=by omega
 refine sum_intList (I.ok.hd hc) hl (fun j hj=>⟨?_,?_⟩) fun h' tk t' hk=>?_
 ·have hj':j<ns.length:=by omega
  rw [hat j hj']
  have:=hb (ns.getD j 0) (by simp [hj'])
  exact⟨by omega,by omega⟩
 ·rw [hps (j+1) (by omega)]
  have:=hsum (j+1)
  exact⟨by omega,by omega⟩
 ·refine⟨.int _,H,I.kept (t':=tk) hk,⟨t',rfl⟩,?_⟩
  rw [hsz,hps _ (Nat.le_refl _),List.take_length]
  exact q
end
section
variable {X:Cx}
end
section
variable {prog:Program} {w:World} {A:Around}
theorem args_maxD (x d:Value):argsOk "max" ⟨[x],[(Str.ofString "default",d)]⟩:=by
 unfold argsOk
 kernel_rfl
def TopX (num:Nat->Int) (P:Nat->Value->Prop) (j:Nat):Option (Nat×Value)->Prop
 |none=>j=0
 |some (i,v)=>i<j/\P i v/\∀t,t<j->num t<=num i
def heldOfX (o:Option (Nat×Value)):Array Value:=match o with
 |none=> #[]
 |some (_,v)=> #[v,v]
theorem maxD_turns {It Bx:Addr} {fp wr:List Addr} {n:Nat} {P:Nat->Value->Prop} {St:Nat->Heap->Prop} {R:Result->Shared->Prop} {d:Value} {num:Nat->Int} (W:Walks prog w A.in1 It fp wr n P St) (cm:CmpOf prog w A.in1 .Gt P (fun i j=>decide (num i>num j))) (apart:Bx∉fp):
  ∀(k j:Nat) (s:Shared) (o:Option (Nat×Value)) (c:Nat),n=j+k->St j s.heap->TopX num P j o->s.heap.get? Bx=some {cls:= .type "list",dict:=none,data:= .seq (heldOfX o) c,slots:= #[]}->
   (∀v h' tk,(n=0/\v=d∨∃o',o'=some v/\∃i,TopX num P n (some (i,v)))->(∀b ob,b∉wr->b≠Bx->s.heap.get? b=some ob->h'.get? b=some ob)->R (.ok (.ret v)) {s with heap:=h',toks:=tk})->
   codeAny (model prog w) A (.builtin "max.loop" ⟨[.ref It,.none,.ref Bx],[("default",d)]⟩) R s
 |0,j,s,o,c,en,at_,top,hS,fin=>by
  have outw:Bx∉wr:=fun z=>apart (W.sub _ z)
  cases en
  refine codeAny_builtin F.entry_max_loop ?_
  rw [Around.under_plainId F.plain_max_loop _]
  show wpAny _ A.in1 (seqItems? (.ref Bx)>>=_) _ _ s
  refine wpAny_bind (wpAny_seqItems hS rfl ?_)
  show wpAny _ A.in1 (tryCatch (pyNext (.ref It)) _>>=_) _ _ s
  refine wpAny_bind (wpAny_tryCatch (W.done s _ _ at_ fun h' tk kept=>?_))
  have hS2:=kept Bx _ outw hS
  cases o with
  |none=>
   have z:j=0:=top
   show wpAny _ A.in1 (rule _>>=_) _ _ _
   exact wpAny_bind (wpAny_rule (wpAny_pure (fin d h' tk (.inl ⟨z,rfl⟩) fun b ob h1 _ h3=>kept b ob h1 h3)))
  |some q=>
   show wpAny _ A.in1 (updateSeq Bx (fun _=> #[])>>=_) _ _ _
   refine wpAny_bind (wpAny_updateSeq (hz:=by show 2<=sizeLine;decide) hS2 rfl (wpAny_bind (wpAny_letGo (wpAny_pure (fin q.2 _ tk (.inr ⟨_,rfl,q.1,top⟩) fun b ob h1 h2 h3=>?_)))))
   exact(Heap.get?_update_other _ _ (Ne.symm h2)).trans (kept b ob h1 h3)
 |k+1,j,s,o,c,en,at_,top,hS,fin=>by
  have outw:Bx∉wr:=fun z=>apart (W.sub _ z)
  have more:j<n:=by omega
  have nm:(toString "max"++toString ".loop":String)="max.loop":=by decide
  refine codeAny_builtin F.entry_max_loop ?_
  rw [Around.under_plainId F.plain_max_loop _]
  show wpAny _ A.in1 (seqItems? (.ref Bx)>>=_) _ _ s
  refine wpAny_bind (wpAny_seqItems hS rfl ?_)
  show wpAny _ A.in1 (tryCatch (pyNext (.ref It)) _>>=_) _ _ s
  refine wpAny_bind (wpAny_tryCatch (W.item j s _ _ more at_ fun v h' tk pv at2 kept=>?_))
  have hS2:=kept Bx _ outw hS
  have step:∀(o2:Option (Nat×Value)) (c2:Nat) (h2:Heap) (t2:Nat),TopX num P (j+1) o2->h2.get? Bx=some {cls:= .type "list",dict:=none,data:= .seq (heldOfX o2) c2,slots:= #[]}->(∀b ob,b≠Bx->h'.get? b=some ob->h2.get? b=some ob)->
    codeAny (model prog w) A (.builtin "max.loop" ⟨[.ref It,.none,.ref Bx],[("default",d)]⟩) R {s with heap:=h2,toks:=t2}:=fun o2 c2 h2 t2 top2 hS3 k2=>by
   refine maxD_turns W cm apart k (j+1) {s with heap:=h2,toks:=t2} o2 c2 (by omega) (W.frame _ _ _ at2 fun b hb ob e=>k2 b ob (fun z=>apart (z▸hb)) e) top2 hS3 fun v3 h3 t3 r3 k3=>?_
   exact fin v3 h3 t3 r3 fun b ob a1 a2 a3=>k3 b ob a1 a2 (k2 b ob a2 (kept b ob a1 a3))
  cases o with
  |none=>
   have z:j=0:=top
   subst z
   show wpAny _ A.in1 (updateSeq Bx (fun _=> #[v,v])>>=_) _ _ _
   refine wpAny_bind (wpAny_updateSeq hS2 rfl ?_)
   rw [nm]
   refine wpAny_pure ⟨plainId_quiet F.plain_max_loop _,step (some (0,v)) _ _ _ ⟨Nat.one_pos,pv,fun t ht=>?_⟩ (Heap.get?_update_self _ hS2 rfl) fun b ob hb e=>(Heap.get?_update_other _ _ (Ne.symm hb)).trans e⟩
   have:t=0:=by omega
   subst this
   exact Int.le_refl _
  |some q=>
   obtain⟨i,vb⟩:=q
   obtain⟨hi,pb,best⟩:=top
   show wpAny _ A.in1 (tryCatch (holding [v,v] (richCompare .Gt v vb>>=_)) _>>=_) _ _ _
   refine wpAny_bind (wpAny_tryCatch (wpAny_holding (wpAny_bind (cm j i v vb _ _ _ pv pb ?_))))
   refine wpAny_bind (wpAny_holding (wpAny_truthy_bool (wpAny_bind (wpAny_letGo (wpAny_pure ?_)))))
   dsimp only
   by_cases hb:num j>num i
   ·rw [decide_eq_true hb,if_pos rfl]
    refine wpAny_bind (wpAny_updateSeq (hz:=by show 2<=sizeLine;decide) hS2 rfl (wpAny_bind (wpAny_letGo ?_)))
    rw [nm]
    refine wpAny_pure ⟨plainId_quiet F.plain_max_loop _,step (some (j,v)) _ _ _ ⟨Nat.lt_succ_self j,pv,fun t ht=>?_⟩ (Heap.get?_update_self _ hS2 rfl) fun b ob hb e=>(Heap.get?_update_other _ _ (Ne.symm hb)).trans e⟩
    by_cases ht2:t<j
    ·have:=best t ht2;omega
    ·have:t=j:=by omega
     subst this
     exact Int.le_refl _
   ·rw [decide_eq_false hb,if_neg Bool.false_ne_true]
    refine wpAny_bind (wpAny_letGo ?_)
    rw [nm]
    refine wpAny_pure ⟨plainId_quiet F.plain_max_loop _,step (some (i,vb)) _ _ _ ⟨by omega,pb,fun t ht=>?_⟩ hS2 fun b ob _ e=>e⟩
    by_cases ht2:t<j
    ·exact best t ht2
    ·have:t=j:=by omega
     subst this
     omega
end
section
variable {prog:Program} {w:World} {A:Around}
end
def CallRK (X:Cx) (f:Value) (ks:List Str) (r:List V->List V->Hp->VK->Prop):Prop:=
 ∀(pins:List (Addr×Obj)) (s:Shared) (σ:St) (H:Hp) (xs ys:List V) (us ws:List Value) (Q:VK),Inv X pins σ H s->Vals xs us->Vals ys ws->r xs ys H Q->wpAny (model X.prog X.w) X.A (call f us (ks.zip ws)) (EP X pins σ Q) X.xe s
def tCBK (r:List V->List V->Hp->VK->Prop) (t tk:TA):TE:=fun σ H Q=>t σ H fun xs H1=>tk σ H1 fun ys H2=>r xs ys H2 Q
theorem pe_callBK {X:Cx} {x:Str} {id:String} {ks:List Str} {r:List V->List V->Hp->VK->Prop} {e:Expr} {es:List Expr} {kws:List Keyword} {t tk:TA} {p pos:Pos} (hc:CallRK X (.builtin id) ks r) (hg:Gl X x) (hm:X.mg x=none) (hv:bootBuiltins x=some (.builtin id)) (ha:PA X (e::es) t) (hkw:PK X kws tk)
  (hall:(backToKw pos (keywordEach kws X.env)).all (·.1.isSome)=true:=by rfl) (hks:(backToKw pos (keywordEach kws X.env)).filterMap (·.1)=ks:=by rfl) (hn:x≠"__name__":=by decide) (hdb:(x==("__debug__":Str))=false:=by decide)
  (he:starEach (e::es) X.env=(false,eval e X.env)::starEach es X.env:=by rfl) (hpl:(backTo pos (starEach (e::es) X.env)).any (·.1)=false:=by rfl) (hpk:(backToKw pos (keywordEach kws X.env)).any (·.1.isNone)=false:=by rfl):PE X (.Call (.Name x p) (e::es) kws pos) (tCBK r t tk):=by
 intro pins s σ H Q I h
 refine wpAny_Call_Name_kw (ld_blt I hg hm hv ?_ hn hdb)
 refine PyProof.Rows.callWith_kw (thn (ha pos pins s σ H _ I h) fun us s1 ⟨vs,H1,I1,r1,q1⟩=>?_) (by rw [he];rfl) hpl hall hpk
 refine thn (hkw pos pins s1 σ H1 _ I1 q1) fun ws s2 ⟨zs,H2,I2,rz,q2⟩=>?_
 rw [hks]
 exact hc pins s2 σ H2 vs zs us ws Q I2 r1 rz q2
def rMaxD (K:PySem.W.Frag):List V->List V->Hp->VK->Prop:=fun xs ys H Q=>∃p ns d,xs=[.ref p]/\ys=[d]/\SqL K H p (ns.map V.int)/\(ns=[]->Q d H)/\∀m:Int,m∈ns->(∀a∈ns,a<=m)->Q (.int m) H
theorem call_maxD {X:Cx} (hc:X.calm=true):CallRK X (.builtin "max") ["default"] (rMaxD X.K):=by
 intro pins s σ H xs ys us ws Q I r rk h
 obtain⟨p,ns,d,rfl,rfl,hq,q0,q1⟩:=h
 obtain⟨u,rfl,ru⟩:=vals1 r
 obtain⟨dv,rfl,rd⟩:=vals1 rk
 cases ru
 obtain⟨its,rv,pl,hz⟩:=I.list hq
 have hi:IntsAre its ns:=intsAre_of rv
 obtain⟨ys,e⟩:=hi.allInts.items
 have hns:ns=ys.toList.map (·.1):=by rw [<-hi.numsOf, <-nums_intItems, <-e]
 have hl:=pl.isList
 rw [e]at hl
 have nm:(toString "max"++toString ".loop":String)="max.loop":=by decide
 refine kmb_tree F.kind_max F.plain_max F.entry_max (args_maxD _ _) ?_
 show wpAny _ X.A.in1 (Builtin.Builtins.bindParams "max" ["key","default"] 0 ⟨[],[(Str.ofString "default",dv)]⟩>>=_) _ _ s
 refine wpAny_bind (wpAny_of_eq (show Builtin.Builtins.bindParams "max" ["key","default"] 0 ⟨[],[(Str.ofString "default",dv)]⟩=pure [none,some dv] by rfl) (wpAny_bind (wpAny_pure ?_)))
 refine wpAny_bind (iter_intList hl fun s₂ es st hfp hlI=>?_)
 refine wpAny_bind (wpAny_newObj_type ?_)
 have apart:s₂.heap.objs.size∉[s.heap.objs.size,p]:=fun z=>Nat.lt_irrefl _ (hfp _ z)
 rw [nm]
 have W:=Walks.list (prog:=X.prog) (w:=X.w) (A:=X.A.in1) (I.ok.hd hc) s.heap.objs.size p hlI (intItems ys)
 refine wpAny_pure ⟨plainId_quiet F.plain_max_loop _,maxD_turns W (CmpOf.ints_gt (numAt ys) (fun _ _=>intItems_at)) apart _ 0 _ none _ (by rw [Nat.zero_add]) (W.frame _ _ _ st fun b _ o eb=>Heap.get?_push_of_some _ eb) rfl (Heap.get?_push_size _ rfl) fun v h' tk res kept=>?_⟩
 subst es
 have old:∀b o,s.heap.get? b=some o->h'.get? b=some o:=fun b o eb=>by
  have lt:=Heap.lt_size eb
  refine kept b o (fun z=>?_) (fun z=>?_) (Heap.get?_push_of_some _ (Heap.get?_push_of_some _ eb))
  ·have z':=List.mem_singleton.mp z
   exact absurd lt (by rw [z'];exact Nat.lt_irrefl _)
  ·rw [Heap.size_push]at z
   exact absurd lt (by rw [z];exact Nat.not_lt.mpr (Nat.le_succ _))
 rcases res with ⟨n0,rfl⟩|⟨_,_,i,hin,pv,best⟩
 ·refine⟨d,H,I.kept (t':=tk) old,rd,q0 ?_⟩
  rw [hns]
  have:ys.size=0:=by simpa [intItems]using n0
  rw [List.map_eq_nil_iff, <-Array.length_toList]at*
  exact List.eq_nil_of_length_eq_zero (by rw [Array.length_toList];exact this)
 ·obtain⟨t,rfl⟩:=intItems_at (by simpa [intItems]using pv)
  have hin':i<ys.size:=by simpa [intItems]using hin
  refine⟨.int _,H,I.kept (t':=tk) old,⟨t,rfl⟩,q1 _ ?_ fun a ha=>?_⟩
  ·rw [hns,numAt_eq]
   exact getD_mem (by rw [List.length_map,Array.length_toList];omega)
  ·rw [hns]at ha
   obtain⟨j,hj,rfl⟩:=mem_getD ha
   rw [List.length_map,Array.length_toList]at hj
   have:=best j (by simpa [intItems]using hj)
   rw [<-numAt_eq]
   exact this
inductive D where
 |fl (x:V)
 |tp (l:List D)
 |ls (l:List D)
mutual
def Den (K:PySem.W.Frag) (H:Hp):D->V->Prop
 | .fl x,v=>v=x/\flatV x=true
 | .tp l,v=>∃a xs,v= .ref a/\SqT K H a xs/\Dens K H l xs
 | .ls l,v=>∃a xs,v= .ref a/\SqL K H a xs/\Dens K H l xs
def Dens (K:PySem.W.Frag) (H:Hp):List D->List V->Prop
 | [],xs=>xs=[]
 |d::l,xs=>∃x r,xs=x::r/\Den K H d x/\Dens K H l r
end
mutual
def D.eq:D->D->Bool
 | .fl x,.fl y=>eqV x y
 | .tp l,.tp m=>D.eqs l m
 | .ls l,.ls m=>D.eqs l m
 |_,_=>false
def D.eqs:List D->List D->Bool
 | [],[]=>true
 |x::l,y::m=>D.eq x y && D.eqs l m
 |_,_=>false
end
mutual
def D.dep:D->Nat
 | .fl _=>0
 | .tp l=>D.deps l+1
 | .ls l=>D.deps l+1
def D.deps:List D->Nat
 | []=>0
 |x::l=>max (D.dep x) (D.deps l)
end
section
variable {X:Cx} {pins:List (Addr×Obj)} {σ:St} {H:Hp} {s:Shared}
theorem Inv.not_both {a:Addr} {xs ys:List V} (I:Inv X pins σ H s) (h:SqL X.K H a xs) (h':SqT X.K H a ys):False:=by
 obtain⟨its,r1,p1,_⟩:=I.list h
 obtain⟨its2,r2,p2,_⟩:=I.tuple h'
 obtain⟨o,ho,hc,_⟩:=p1.isList
 obtain⟨o2,ho2,hc2,_⟩:=p2
 rw [ho]at ho2
 cases ho2
 rw [hc]at hc2
 simp at hc2
mutual
theorem eqD_self (I:Inv X pins σ H s):∀(d e:D) {v:V},Den X.K H d v->Den X.K H e v->d.eq e=true
 | .fl x,.fl y,v,h,h'=>by
  obtain⟨rfl,f⟩:=h
  obtain⟨rfl,_⟩:=h'
  rw [D.eq]
  exact eqV_refl f
 | .fl x,.tp m,v,h,h'=>by
  obtain⟨rfl,f⟩:=h
  obtain⟨a,xs,rfl,_⟩:=h'
  exact absurd (show false=true from f) Bool.false_ne_true
 | .fl x,.ls m,v,h,h'=>by
  obtain⟨rfl,f⟩:=h
  obtain⟨a,xs,rfl,_⟩:=h'
  exact absurd (show false=true from f) Bool.false_ne_true
 | .tp l,.fl x,v,h',h=>by
  obtain⟨rfl,f⟩:=h
  obtain⟨a,xs,rfl,_⟩:=h'
  exact absurd (show false=true from f) Bool.false_ne_true
 | .ls l,.fl x,v,h',h=>by
  obtain⟨rfl,f⟩:=h
  obtain⟨a,xs,rfl,_⟩:=h'
  exact absurd (show false=true from f) Bool.false_ne_true
 | .tp l,.tp m,v,h,h'=>by
  obtain⟨a,xs,rfl,h1,h2⟩:=h
  obtain⟨b,ys,e,h3,h4⟩:=h'
  cases e
  rw [I.tuple_inj h3 h1]at h4
  rw [D.eq]
  exact eqsD_self I l m h2 h4
 | .ls l,.ls m,v,h,h'=>by
  obtain⟨a,xs,rfl,h1,h2⟩:=h
  obtain⟨b,ys,e,h3,h4⟩:=h'
  cases e
  rw [I.list_inj h3 h1]at h4
  rw [D.eq]
  exact eqsD_self I l m h2 h4
 | .tp l,.ls m,v,h,h'=>by
  obtain⟨a,xs,rfl,h1,h2⟩:=h
  obtain⟨b,ys,e,h3,h4⟩:=h'
  cases e
  exact(I.not_both h3 h1).elim
 | .ls l,.tp m,v,h,h'=>by
  obtain⟨a,xs,rfl,h1,h2⟩:=h
  obtain⟨b,ys,e,h3,h4⟩:=h'
  cases e
  exact(I.not_both h1 h3).elim
theorem eqsD_self (I:Inv X pins σ H s):∀(l m:List D) {xs:List V},Dens X.K H l xs->Dens X.K H m xs->D.eqs l m=true
 | [],[],xs,h,h'=>by rw [D.eqs]
 | [],_::_,xs,h,h'=>by
  obtain⟨x,r,rfl,_⟩:=h'
  cases (show(x::r)=[]from h)
 |_::_,[],xs,h',h=>by
  obtain⟨x,r,rfl,_⟩:=h'
  cases (show(x::r)=[]from h)
 |d::l,e::m,xs,h,h'=>by
  obtain⟨x,r,rfl,h1,h2⟩:=h
  obtain⟨y,r',q,h3,h4⟩:=h'
  cases q
  rw [D.eqs,eqD_self I d e h1 h3,eqsD_self I l m h2 h4]
  rfl
end
mutual
theorem eqAt_D (I:Inv X pins σ H s):∀(d e:D) {v v':V} {u u':Value} {A:Around},RelV v u->RelV v' u'->Den X.K H d v->Den X.K H e v'->A.units+d.dep+e.dep<cLine->SeqAt.EqAt A s u u' (d.eq e)
 | .fl x,.fl y,v,v',u,u',A,r,r',h,h',hu=>by
  obtain⟨rfl,f⟩:=h
  obtain⟨rfl,f'⟩:=h'
  rw [D.eq]
  exact eqAt_V r r' f f'
 | .fl x,.tp m,v,v',u,u',A,r,r',h,h',hu=>by
  obtain⟨rfl,f⟩:=h
  obtain⟨a,xs,rfl,hb,_⟩:=h'
  cases r'
  obtain⟨its2,r2,p2,_⟩:=I.tuple hb
  rw [show D.eq (.fl v) (.tp m)=false by simp [D.eq]]
  have hu':A.units<cLine:=by omega
  cases v with
  |non=>cases r;exact SeqAt.EqAt.none_tuple p2 hu'
  |bl c=>cases r;exact SeqAt.EqAt.bool_tuple c p2 hu'
  |int c=>obtain⟨t,rfl⟩:=r;exact SeqAt.EqAt.int_tuple c t p2 hu'
  |str c=>obtain⟨t,rfl⟩:=r;exact SeqAt.EqAt.str_tuple c t p2 hu'
  |_=>exact absurd (show false=true from f) Bool.false_ne_true
 | .fl x,.ls m,v,v',u,u',A,r,r',h,h',hu=>by
  obtain⟨rfl,f⟩:=h
  obtain⟨a,xs,rfl,hb,_⟩:=h'
  cases r'
  obtain⟨its2,r2,p2,_⟩:=I.list hb
  rw [show D.eq (.fl v) (.ls m)=false by simp [D.eq]]
  have hu':A.units<cLine:=by omega
  cases v with
  |non=>cases r;exact SeqAt.EqAt.none_list p2.isList hu'
  |bl c=>cases r;exact SeqAt.EqAt.bool_list c p2.isList hu'
  |int c=>obtain⟨t,rfl⟩:=r;exact SeqAt.EqAt.int_list c t p2.isList hu'
  |str c=>obtain⟨t,rfl⟩:=r;exact SeqAt.EqAt.str_list c t p2.isList hu'
  |_=>exact absurd (show false=true from f) Bool.false_ne_true
 | .tp l,.fl x,v',v,u',u,A,r',r,h',h,hu=>by
  obtain⟨rfl,f⟩:=h
  obtain⟨a,xs,rfl,hb,_⟩:=h'
  cases r'
  obtain⟨its2,r2,p2,_⟩:=I.tuple hb
  rw [show D.eq (.tp l) (.fl v)=false by simp [D.eq]]
  have hu':A.units<cLine:=by omega
  cases v with
  |non=>cases r;exact SeqAt.EqAt.tuple_none p2 hu'
  |bl c=>cases r;exact SeqAt.EqAt.tuple_bool c p2 hu'
  |int c=>obtain⟨t,rfl⟩:=r;exact SeqAt.EqAt.tuple_int c t p2 hu'
  |str c=>obtain⟨t,rfl⟩:=r;exact SeqAt.EqAt.tuple_str c t p2 hu'
  |_=>exact absurd (show false=true from f) Bool.false_ne_true
 | .ls l,.fl x,v',v,u',u,A,r',r,h',h,hu=>by
  obtain⟨rfl,f⟩:=h
  obtain⟨a,xs,rfl,hb,_⟩:=h'
  cases r'
  obtain⟨its2,r2,p2,_⟩:=I.list hb
  rw [show D.eq (.ls l) (.fl v)=false by simp [D.eq]]
  have hu':A.units<cLine:=by omega
  cases v with
  |non=>cases r;exact SeqAt.EqAt.list_none p2.isList hu'
  |bl c=>cases r;exact SeqAt.EqAt.list_bool c p2.isList hu'
  |int c=>obtain⟨t,rfl⟩:=r;exact SeqAt.EqAt.list_int c t p2.isList hu'
  |str c=>obtain⟨t,rfl⟩:=r;exact SeqAt.EqAt.list_str c t p2.isList hu'
  |_=>exact absurd (show false=true from f) Bool.false_ne_true
 | .tp l,.ls m,v,v',u,u',A,r,r',h,h',hu=>by
  obtain⟨a,xs,rfl,h1,_⟩:=h
  obtain⟨b,ys,rfl,h3,_⟩:=h'
  cases r
  cases r'
  obtain⟨its,r1,p1,_⟩:=I.tuple h1
  obtain⟨its2,r2,p2,_⟩:=I.list h3
  rw [show D.eq (.tp l) (.ls m)=false by simp [D.eq]]
  exact SeqAt.EqAt.tuple_list p1 p2.isList (by omega)
 | .ls l,.tp m,v,v',u,u',A,r,r',h,h',hu=>by
  obtain⟨a,xs,rfl,h1,_⟩:=h
  obtain⟨b,ys,rfl,h3,_⟩:=h'
  cases r
  cases r'
  obtain⟨its,r1,p1,_⟩:=I.list h1
  obtain⟨its2,r2,p2,_⟩:=I.tuple h3
  rw [show D.eq (.ls l) (.tp m)=false by simp [D.eq]]
  exact SeqAt.EqAt.list_tuple p1.isList p2 (by omega)
 | .tp l,.tp m,v,v',u,u',A,r,r',h,h',hu=>by
  by_cases hab:v=v'
  ·subst hab
   rw [eqD_self I _ _ h h']
   rw [show u'=u from by obtain⟨a,xs,rfl,_⟩:=h;cases r;cases r';rfl]
   exact SeqAt.EqAt.same _
  ·obtain⟨a,xs,rfl,h1,h2⟩:=h
   obtain⟨b,ys,rfl,h3,h4⟩:=h'
   cases r
   cases r'
   obtain⟨its,r1,p1,_⟩:=I.tuple h1
   obtain⟨its2,r2,p2,_⟩:=I.tuple h3
   rw [D.dep,D.dep]at hu
   obtain⟨e,he,ee⟩:=eqsAt_D (A:=A.in1) I l m r1 r2 h2 h4 (by show A.units+1+_+_<_;omega)
   have key:=SeqAt.RcAt.tuples (A:=A) (s:=s) (l:=a) (b:=b) (items:=its.toArray) (items2:=its2.toArray) (e:=e) p1 p2 (by omega) (fun j g1 g2=>by
    have:=he j (by simpa using g1) (by simpa using g2)
    simpa using this)
   rw [List.size_toArray,List.size_toArray,ee]at key
   rw [D.eq]
   exact SeqAt.EqAt.of_refs (fun z=>hab (by rw [z])) key
 | .ls l,.ls m,v,v',u,u',A,r,r',h,h',hu=>by
  by_cases hab:v=v'
  ·subst hab
   rw [eqD_self I _ _ h h']
   rw [show u'=u from by obtain⟨a,xs,rfl,_⟩:=h;cases r;cases r';rfl]
   exact SeqAt.EqAt.same _
  ·obtain⟨a,xs,rfl,h1,h2⟩:=h
   obtain⟨b,ys,rfl,h3,h4⟩:=h'
   cases r
   cases r'
   obtain⟨its,r1,p1,_⟩:=I.list h1
   obtain⟨its2,r2,p2,_⟩:=I.list h3
   rw [D.dep,D.dep]at hu
   obtain⟨e,he,ee⟩:=eqsAt_D (A:=A.in1) I l m r1 r2 h2 h4 (by show A.units+1+_+_<_;omega)
   rw [D.eq]
   refine SeqAt.EqAt.of_refs (fun z=>hab (by rw [z])) ?_
   by_cases hz:its.toArray.size=its2.toArray.size
   ·have key:=SeqAt.RcAt.lists (A:=A) (s:=s) (l:=a) (b:=b) (items:=its.toArray) (items2:=its2.toArray) (e:=e) p1.isList p2.isList hz (by omega) (fun j g1 g2=>by
     have:=he j (by simpa using g1) (by simpa using g2)
     simpa using this)
    rw [List.size_toArray,List.size_toArray]at hz
    rw [<-hz,Nat.min_self,beq_self_eq_true,Bool.and_true]at ee
    rw [List.size_toArray,ee]at key
    exact key
   ·have hb':(its.length==its2.length)=false:=by simpa using hz
    rw [hb',Bool.and_false]at ee
    rw [<-ee]
    exact SeqAt.RcAt.lists_lengths p1.isList p2.isList (by simpa using hz) (by omega)
theorem eqsAt_D (I:Inv X pins σ H s) {A:Around}:∀(l m:List D) {xs ys:List V} {us ws:List Value},Vals xs us->Vals ys ws->Dens X.K H l xs->Dens X.K H m ys->A.units+D.deps l+D.deps m<cLine->
  ∃e:Nat->Bool,(∀j (h1:j<us.length) (h2:j<ws.length),SeqAt.EqAt A s us[j] ws[j] (e j))/\((List.range (min us.length ws.length)).all e && us.length==ws.length)=D.eqs l m
 | [],m,xs,ys,us,ws,r,r',h,h',hu=>by
  cases (show xs=[]from h)
  cases r
  refine⟨fun _=>true,fun j h1 _=>absurd h1 (Nat.not_lt_zero j),?_⟩
  cases m with
  |nil=>cases (show ys=[]from h');cases r';rw [D.eqs];rfl
  |cons e m=>
   obtain⟨y,t,rfl,_⟩:=h'
   cases r'
   simp [D.eqs]
 |d::l,[],xs,ys,us,ws,r,r',h,h',hu=>by
  obtain⟨x,t,rfl,_⟩:=h
  cases (show ys=[]from h')
  cases r
  cases r'
  exact⟨fun _=>true,fun j _ h1=>absurd h1 (Nat.not_lt_zero j),by simp [D.eqs]⟩
 |d::l,e::m,xs,ys,us,ws,r,r',h,h',hu=>by
  obtain⟨x,t,rfl,h1,h2⟩:=h
  obtain⟨y,t',rfl,h3,h4⟩:=h'
  cases r with
  |@cons _ u0 _ us0 ru rus=>
  cases r' with
  |@cons _ w0 _ ws0 rw0 rws=>
  have hu1:A.units+d.dep+e.dep<cLine:=by
   rw [D.deps,D.deps]at hu
   have:=Nat.le_max_left d.dep (D.deps l)
   have:=Nat.le_max_left e.dep (D.deps m)
   omega
  have hu2:A.units+D.deps l+D.deps m<cLine:=by
   rw [D.deps,D.deps]at hu
   have:=Nat.le_max_right d.dep (D.deps l)
   have:=Nat.le_max_right e.dep (D.deps m)
   omega
  have E0:=eqAt_D I d e (A:=A) ru rw0 h1 h3 hu1
  obtain⟨e',he,ee⟩:=eqsAt_D I l m rus rws h2 h4 hu2
  refine⟨fun j=>match j with|0=>d.eq e|j+1=>e' j,fun j g1 g2=>?_,?_⟩
  ·cases j with
   |zero=>exact E0
   |succ j=>exact he j (by simpa using g1) (by simpa using g2)
  ·have hmin:min (u0::us0).length (w0::ws0).length=min us0.length ws0.length+1:=by
    rw [List.length_cons,List.length_cons]
    omega
   rw [hmin,all_range_succ,D.eqs, <-ee]
   show(d.eq e && (List.range (min us0.length ws0.length)).all e' && _)=_
   rw [Bool.and_assoc]
   congr 2
   rw [Bool.eq_iff_iff]
   simp
end
end
theorem rcAt_V {A:Around} {s:Shared} {y x:V} {u v:Value} (ry:RelV y u) (rx:RelV x v) (fy:flatV y=true) (fx:flatV x=true):SeqAt.RcAt A s u v (eqV y x)/\SeqAt.RcNeAt A s u v (!eqV y x):=by
 cases y<;>first|exact absurd (show false=true from fy) Bool.false_ne_true|(cases x<;>first|exact absurd (show false=true from fx) Bool.false_ne_true|skip)
 all_goals first|obtain⟨t1,rfl⟩:=ry|cases ry
 all_goals first|obtain⟨t2,rfl⟩:=rx|cases rx
 ·exact⟨.none_none,.none_none⟩
 ·exact⟨.none_bool _,.none_bool _⟩
 ·exact⟨.none_int _ _,.none_int _ _⟩
 ·exact⟨.none_str _ _,.none_str _ _⟩
 ·exact⟨.bool_none _,.bool_none _⟩
 ·exact⟨.bool_bool _ _,.bool_bool _ _⟩
 ·exact⟨.bool_int _ _ _,.bool_int _ _ _⟩
 ·exact⟨.bool_str _ _ _,.bool_str _ _ _⟩
 ·exact⟨.int_none _ _,.int_none _ _⟩
 ·exact⟨.int_bool _ _ _,.int_bool _ _ _⟩
 ·exact⟨.int_int _ _ _ _,.int_int _ _ _ _⟩
 ·exact⟨.int_str _ _ _ _,.int_str _ _ _ _⟩
 ·exact⟨.str_none _ _,.str_none _ _⟩
 ·exact⟨.str_bool _ _ _,.str_bool _ _ _⟩
 ·exact⟨.str_int _ _ _ _,.str_int _ _ _ _⟩
 ·exact⟨.str_str _ _ _ _,.str_str _ _ _ _⟩
section
variable {X:Cx} {pins:List (Addr×Obj)} {σ:St} {H:Hp} {s:Shared}
theorem rcAt_D (I:Inv X pins σ H s) (d e:D) {v v':V} {u u':Value} {A:Around} (r:RelV v u) (r':RelV v' u') (h:Den X.K H d v) (h':Den X.K H e v') (hu:A.units+d.dep+e.dep<cLine):
  SeqAt.RcAt A s u u' (d.eq e)/\SeqAt.RcNeAt A s u u' (!d.eq e):=by
 have hu':A.units<cLine:=by omega
 match d,e,h,h',hu with
 | .fl x,.fl y,h,h',hu=>
  obtain⟨rfl,f⟩:=h
  obtain⟨rfl,f'⟩:=h'
  rw [D.eq]
  exact rcAt_V r r' f f'
 | .fl x,.tp m,h,h',hu=>
  obtain⟨rfl,f⟩:=h
  obtain⟨a,xs,rfl,hb,_⟩:=h'
  cases r'
  obtain⟨its2,r2,p2,_⟩:=I.tuple hb
  rw [show D.eq (.fl v) (.tp m)=false by simp [D.eq]]
  cases v with
  |non=>cases r;exact⟨.none_tuple p2 hu',.none_tuple p2 hu'⟩
  |bl c=>cases r;exact⟨.bool_tuple c p2 hu',.bool_tuple c p2 hu'⟩
  |int c=>obtain⟨t,rfl⟩:=r;exact⟨.int_tuple c t p2 hu',.int_tuple c t p2 hu'⟩
  |str c=>obtain⟨t,rfl⟩:=r;exact⟨.str_tuple c t p2 hu',.str_tuple c t p2 hu'⟩
  |_=>exact absurd (show false=true from f) Bool.false_ne_true
 | .fl x,.ls m,h,h',hu=>
  obtain⟨rfl,f⟩:=h
  obtain⟨a,xs,rfl,hb,_⟩:=h'
  cases r'
  obtain⟨its2,r2,p2,_⟩:=I.list hb
  rw [show D.eq (.fl v) (.ls m)=false by simp [D.eq]]
  have p2:=p2.isList
  cases v with
  |non=>cases r;exact⟨.none_list p2 hu',.none_list p2 hu'⟩
  |bl c=>cases r;exact⟨.bool_list c p2 hu',.bool_list c p2 hu'⟩
  |int c=>obtain⟨t,rfl⟩:=r;exact⟨.int_list c t p2 hu',.int_list c t p2 hu'⟩
  |str c=>obtain⟨t,rfl⟩:=r;exact⟨.str_list c t p2 hu',.str_list c t p2 hu'⟩
  |_=>exact absurd (show false=true from f) Bool.false_ne_true
 | .tp m,.fl x,h',h,hu=>
  obtain⟨rfl,f⟩:=h
  obtain⟨a,xs,rfl,hb,_⟩:=h'
  cases r
  obtain⟨its2,r2,p2,_⟩:=I.tuple hb
  rw [show D.eq (.tp m) (.fl v')=false by simp [D.eq]]
  cases v' with
  |non=>cases r';exact⟨.tuple_none p2 hu',.tuple_none p2 hu'⟩
  |bl c=>cases r';exact⟨.tuple_bool c p2 hu',.tuple_bool c p2 hu'⟩
  |int c=>obtain⟨t,rfl⟩:=r';exact⟨.tuple_int c t p2 hu',.tuple_int c t p2 hu'⟩
  |str c=>obtain⟨t,rfl⟩:=r';exact⟨.tuple_str c t p2 hu',.tuple_str c t p2 hu'⟩
  |_=>exact absurd (show false=true from f) Bool.false_ne_true
 | .ls m,.fl x,h',h,hu=>
  obtain⟨rfl,f⟩:=h
  obtain⟨a,xs,rfl,hb,_⟩:=h'
  cases r
  obtain⟨its2,r2,p2,_⟩:=I.list hb
  rw [show D.eq (.ls m) (.fl v')=false by simp [D.eq]]
  have p2:=p2.isList
  cases v' with
  |non=>cases r';exact⟨.list_none p2 hu',.list_none p2 hu'⟩
  |bl c=>cases r';exact⟨.list_bool c p2 hu',.list_bool c p2 hu'⟩
  |int c=>obtain⟨t,rfl⟩:=r';exact⟨.list_int c t p2 hu',.list_int c t p2 hu'⟩
  |str c=>obtain⟨t,rfl⟩:=r';exact⟨.list_str c t p2 hu',.list_str c t p2 hu'⟩
  |_=>exact absurd (show false=true from f) Bool.false_ne_true
 | .tp l,.ls m,h,h',hu=>
  obtain⟨a,xs,rfl,h1,_⟩:=h
  obtain⟨b,ys,rfl,h3,_⟩:=h'
  cases r
  cases r'
  obtain⟨its,r1,p1,_⟩:=I.tuple h1
  obtain⟨its2,r2,p2,_⟩:=I.list h3
  rw [show D.eq (.tp l) (.ls m)=false by simp [D.eq]]
  exact⟨.tuple_list p1 p2.isList hu',.tuple_list p1 p2.isList hu'⟩
 | .ls l,.tp m,h,h',hu=>
  obtain⟨a,xs,rfl,h1,_⟩:=h
  obtain⟨b,ys,rfl,h3,_⟩:=h'
  cases r
  cases r'
  obtain⟨its,r1,p1,_⟩:=I.list h1
  obtain⟨its2,r2,p2,_⟩:=I.tuple h3
  rw [show D.eq (.ls l) (.tp m)=false by simp [D.eq]]
  exact⟨.list_tuple p1.isList p2 hu',.list_tuple p1.isList p2 hu'⟩
 | .tp l,.tp m,h,h',hu=>
  obtain⟨a,xs,rfl,h1,h2⟩:=h
  obtain⟨b,ys,rfl,h3,h4⟩:=h'
  cases r
  cases r'
  obtain⟨its,r1,p1,_⟩:=I.tuple h1
  obtain⟨its2,r2,p2,_⟩:=I.tuple h3
  rw [D.dep,D.dep]at hu
  obtain⟨e,he,ee⟩:=eqsAt_D (A:=A.in1) I l m r1 r2 h2 h4 (by show A.units+1+_+_<_;omega)
  have hj:∀j (g1:j<its.toArray.size) (g2:j<its2.toArray.size),SeqAt.EqAt A.in1 s its.toArray[j] its2.toArray[j] (e j):=fun j g1 g2=>by
   have:=he j (by simpa using g1) (by simpa using g2)
   simpa using this
  have k1:=SeqAt.RcAt.tuples p1 p2 hu' hj
  have k2:=SeqAt.RcNeAt.tuples p1 p2 hu' hj
  rw [List.size_toArray,List.size_toArray,ee]at k1 k2
  rw [D.eq]
  exact⟨k1,k2⟩
 | .ls l,.ls m,h,h',hu=>
  obtain⟨a,xs,rfl,h1,h2⟩:=h
  obtain⟨b,ys,rfl,h3,h4⟩:=h'
  cases r
  cases r'
  obtain⟨its,r1,p1,_⟩:=I.list h1
  obtain⟨its2,r2,p2,_⟩:=I.list h3
  rw [D.dep,D.dep]at hu
  obtain⟨e,he,ee⟩:=eqsAt_D (A:=A.in1) I l m r1 r2 h2 h4 (by show A.units+1+_+_<_;omega)
  have hj:∀j (g1:j<its.toArray.size) (g2:j<its2.toArray.size),SeqAt.EqAt A.in1 s its.toArray[j] its2.toArray[j] (e j):=fun j g1 g2=>by
   have:=he j (by simpa using g1) (by simpa using g2)
   simpa using this
  rw [D.eq]
  by_cases hz:its.toArray.size=its2.toArray.size
  ·have k1:=SeqAt.RcAt.lists p1.isList p2.isList hz hu' hj
   have k2:=SeqAt.RcNeAt.lists p1.isList p2.isList hz hu' hj
   rw [List.size_toArray,List.size_toArray]at hz
   rw [<-hz,Nat.min_self,beq_self_eq_true,Bool.and_true]at ee
   rw [List.size_toArray,ee]at k1 k2
   exact⟨k1,k2⟩
  ·have hb':(its.length==its2.length)=false:=by simpa using hz
   rw [hb',Bool.and_false]at ee
   rw [<-ee]
   exact⟨.lists_lengths p1.isList p2.isList (by simpa using hz) hu',.lists_lengths p1.isList p2.isList (by simpa using hz) hu'⟩
def rEqD (K:PySem.W.Frag) (neg:Bool):R2:=fun x y H Q=>∃d e,Den K H d x/\Den K H e y/\d.dep+e.dep<=100/\Q (.bl (if neg then !d.eq e else d.eq e)) H
theorem op_eqD (hu:X.A.units+101<cLine):OpR X (compareOp .Eq) (rEqD X.K false):=by
 intro pins s σ H x y v u Q I rx ry h
 obtain⟨d,e,h1,h2,hd,q⟩:=h
 exact(rcAt_D (A:=X.A) I d e rx ry h1 h2 (by omega)).1 _ _ _ _ ⟨.bl _,H,I,rfl,q⟩
theorem op_neD (hu:X.A.units+101<cLine):OpR X (compareOp .NotEq) (rEqD X.K true):=by
 intro pins s σ H x y v u Q I rx ry h
 obtain⟨d,e,h1,h2,hd,q⟩:=h
 exact(rcAt_D (A:=X.A) I d e rx ry h1 h2 (by omega)).2 _ _ _ _ ⟨.bl _,H,I,rfl,q⟩
end
mutual
def DenN (Av:Addr->Prop) (H:Hp):D->V->Prop
 | .fl x,v=>v=x/\flatV x=true
 | .tp l,v=>∃p xs,v= .ref p/\H p=some (.tup xs)/\DensN Av H l xs
 | .ls l,v=>∃p xs,v= .ref p/\¬Av p/\H p=some (.lst xs)/\DensN Av H l xs
def DensN (Av:Addr->Prop) (H:Hp):List D->List V->Prop
 | [],xs=>xs=[]
 |d::l,xs=>∃x r,xs=x::r/\DenN Av H d x/\DensN Av H l r
end
section
variable {Av:Addr->Prop} {H H':Hp}
mutual
theorem DenN.mono (k1:∀b xs,H b=some (.tup xs)->H' b=some (.tup xs)) (k2:∀b xs,¬Av b->H b=some (.lst xs)->H' b=some (.lst xs)):∀(d:D) {v:V},DenN Av H d v->DenN Av H' d v
 | .fl x,v,h=>h
 | .tp l,v,h=>by
  obtain⟨p,xs,e,hp,t⟩:=h
  exact⟨p,xs,e,k1 _ _ hp,DensN.mono k1 k2 l t⟩
 | .ls l,v,h=>by
  obtain⟨p,xs,e,n,hp,t⟩:=h
  exact⟨p,xs,e,n,k2 _ _ n hp,DensN.mono k1 k2 l t⟩
theorem DensN.mono (k1:∀b xs,H b=some (.tup xs)->H' b=some (.tup xs)) (k2:∀b xs,¬Av b->H b=some (.lst xs)->H' b=some (.lst xs)):∀(l:List D) {xs:List V},DensN Av H l xs->DensN Av H' l xs
 | [],xs,h=>h
 |d::l,xs,h=>by
  obtain⟨x,r,e,h1,h2⟩:=h
  exact⟨x,r,e,DenN.mono k1 k2 d h1,DensN.mono k1 k2 l h2⟩
end
mutual
theorem DenN.den (K:PySem.W.Frag):∀(d:D) {v:V},DenN Av H d v->Den K H d v
 | .fl x,v,h=>h
 | .tp l,v,h=>by
  obtain⟨p,xs,e,hp,t⟩:=h
  exact⟨p,xs,e,SqT.of hp,DensN.dens K l t⟩
 | .ls l,v,h=>by
  obtain⟨p,xs,e,n,hp,t⟩:=h
  exact⟨p,xs,e,SqL.of hp,DensN.dens K l t⟩
theorem DensN.dens (K:PySem.W.Frag):∀(l:List D) {xs:List V},DensN Av H l xs->Dens K H l xs
 | [],xs,h=>h
 |d::l,xs,h=>by
  obtain⟨x,r,e,h1,h2⟩:=h
  exact⟨x,r,e,DenN.den K d h1,DensN.dens K l h2⟩
end
mutual
theorem DenN.weak {Bv:Addr->Prop} (k:∀b,Bv b->Av b):∀(d:D) {v:V},DenN Av H d v->DenN Bv H d v
 | .fl x,v,h=>h
 | .tp l,v,h=>by
  obtain⟨p,xs,e,hp,t⟩:=h
  exact⟨p,xs,e,hp,DensN.weak k l t⟩
 | .ls l,v,h=>by
  obtain⟨p,xs,e,n,hp,t⟩:=h
  exact⟨p,xs,e,fun z=>n (k p z),hp,DensN.weak k l t⟩
theorem DensN.weak {Bv:Addr->Prop} (k:∀b,Bv b->Av b):∀(l:List D) {xs:List V},DensN Av H l xs->DensN Bv H l xs
 | [],xs,h=>h
 |d::l,xs,h=>by
  obtain⟨x,r,e,h1,h2⟩:=h
  exact⟨x,r,e,DenN.weak k d h1,DensN.weak k l h2⟩
end
theorem DenN.fl {x:V} (h:flatV x=true:=by rfl):DenN Av H (.fl x) x:=⟨rfl,h⟩
theorem DensN.cons {d:D} {x:V} {l:List D} {xs:List V} (h:DenN Av H d x) (t:DensN Av H l xs):DensN Av H (d::l) (x::xs):=⟨x,xs,rfl,h,t⟩
theorem DensN.nil:DensN Av H [] []:=rfl
mutual
theorem DenN.refl:∀(d:D) {v:V},DenN Av H d v->d.eq d=true
 | .fl x,v,h=>by
  rw [D.eq]
  exact eqV_refl h.2
 | .tp l,v,h=>by
  obtain⟨p,xs,e,hp,t⟩:=h
  rw [D.eq]
  exact DensN.refl l t
 | .ls l,v,h=>by
  obtain⟨p,xs,e,n,hp,t⟩:=h
  rw [D.eq]
  exact DensN.refl l t
theorem DensN.refl:∀(l:List D) {xs:List V},DensN Av H l xs->D.eqs l l=true
 | [],xs,h=>by rw [D.eqs]
 |d::l,xs,h=>by
  obtain⟨x,r,e,h1,h2⟩:=h
  rw [D.eqs,DenN.refl d h1,DensN.refl l h2]
  rfl
end
end
theorem new_of {H H1:Hp} {p:Addr} {o:HO} (h:H p=none) (e:upd H p o=H1):Same H H1/\H1 p=some o:=by
 subst e
 refine⟨fun b u q=>?_,upd_same⟩
 rw [upd_ne (ne_of_none q h)]
 exact q
section
variable {X:Cx} {Av:Addr->Prop}
end
structure Cal (P:Program) (w:World) (K:PySem.W.Frag) (mg:Str->Option Value) (base:Heap) (CX:CXT) (k:Nat) (x:Str) (ps:List Str) (sp:Sp):Prop where
 ex:∃f fd,FnOk P w K mg base CX k f fd ps sp/\mg x=some (.ref f)/\PySem.W.keepIn K (.ref f)=true/\Binds K fd ps []
theorem pe_c {X:Cx} {CX:CXT} {k:Nat} {x:Str} {ps:List Str} {sp:Sp} {E:XK} {e:Expr} {es:List Expr} {t:TA} {p pos:Pos} (C:Cal X.prog X.w X.K X.mg X.base CX k x ps sp) (hr:Room k X.A) (hg:Gl X x) (hx:Passes CX X E)
  (ha:PA X (e::es) t) (hdb:(x==("__debug__":Str))=false:=by decide) (he:starEach (e::es) X.env=(false,eval e X.env)::starEach es X.env:=by rfl) (hpl:(backTo pos (starEach es X.env)).any (·.1)=false:=by rfl):
  PE X (.Call (.Name x p) (e::es) [] pos) (tCall sp [] E t):=by
 obtain⟨f,fd,F,hm,hk,hb⟩:=C.ex
 exact pe_call F hr hg hm hk hb .nil hx ha hdb he hpl
abbrev CompOk (scope sc0:Scope) (cap:List (Str×Nat)) (N:List Str):Prop:=scope.kind= .function/\(∀y∈scope.names,y.2≠ .cell)/\(∀y∈scope.names,y.2= .local->scope.names.lookup y.1=some .local)/\
 (∀y∈scope.names,y.2= .free->sc0.names.lookup y.1=some .cell)/\(∀p∈cap,N[p.2]? =some p.1/\scope.names.lookup p.1=some .free/\sc0.names.lookup p.1=some .cell)
section
variable {X:Cx}
theorem cs_of {scope:Scope} {cap:List (Str×Nat)} {sc0:Scope} {N0:List Str} (hs:X.env.scope=sc0) (hN:X.N=N0) (hcell:∀x,X.env.scope.names.lookup x=some .cell->∃c,X.env.cells.lookup x=some c) (ok:CompOk scope sc0 cap N0):∃cl,CompScope X scope cap cl:=by
 subst hs hN
 exact comp_scope hcell ok.1 ok.2.1 ok.2.2.1 ok.2.2.2.1 ok.2.2.2.2
theorem pe_cp {elt iter tg:Expr} {scope:Scope} {own:List Str} {cap:List (Str×Nat)} {pos:Pos} {wi:TI} {g:TG} {te:TE} (sc0:Scope) (N0:List Str) (hsc:X.env.scope=sc0) (hN:X.N=N0) (hcell:∀x,X.env.scope.names.lookup x=some .cell->∃c,X.env.cells.lookup x=some c)
  (ok:CompOk scope sc0 cap N0) (hc:X.calm=true) (hi:PI X tg iter wi)
  (hg:∀cl C s2 H2 fp,PG (cxComp X (capN own cap) scope cl C s2 H2 fp) tg g) (he:∀cl C s2 H2 fp,PE (cxComp X (capN own cap) scope cl C s2 H2 fp) elt te)
  (hs:∀x,foldedSetIterable iter X.env x=pure x:=by intro _;rfl):PE X (.ListComp elt [⟨tg,iter,[],0⟩] scope pos) (tComp own.length cap wi g te):=by
 obtain⟨cl,S⟩:=cs_of hsc hN hcell ok
 exact pe_comp S hc hi (hg cl) (he cl) hs
end
structure CompScopeC (X:Cx) (scope:Scope) (cap:List (Str×Nat)) (cl:List (Str×Addr)):Prop where
 clos:closureFor scope X.env=pure cl
 kind:scope.kind= .function
 names:∀y∈scope.names,y.2= .local->scope.names.lookup y.1=some .local
 sub:∀x c,cl.lookup x=some c->X.env.cells.lookup x=some c
 has:∀x,scope.names.lookup x=some .free->∃c,cl.lookup x=some c
 capn:∀p∈cap,¬(p.1,NameKind.cell)∈scope.names
 cap:∀p∈cap,X.N[p.2]? =some p.1/\scope.names.lookup p.1=some .free/\X.env.scope.names.lookup p.1=some .cell
def CellsFor (X:Cx) (scope:Scope) (cs:List (Str×Addr)):Prop:=∀x,(scope.names.lookup x=some .cell∨(scope.names.lookup x=some .free/\X.env.scope.names.lookup x=some .cell))->∃c,cs.lookup x=some c
abbrev cxCompC (X:Cx) (Nc:List Str) (scope:Scope) (cs:List (Str×Addr)) (C:Addr) (s2:Shared) (H2:Hp) (fp:List Addr):Cx:=
 {prog:=X.prog,w:=X.w,K:=X.K,mg:=X.mg,base:=X.base,A:=X.A,N:=Nc,s₀:=s2,H₀:=H2,env:={compEnvC scope [] C X.env with cells:=cs},outer:=X.stack,stack:=X.stack,ex:=fp,fn:=fun x=>decide (scope.names.lookup x=some .cell),calm:=X.calm,pn:=[],xe:=fun _ _=>False}
theorem cellsFrom_app:∀(names:List (Str×NameKind)) (n:Nat) (acc:List (Str×Addr)),cellsFrom n names acc=cellsFrom n names []++acc
 | [],_,_=>rfl
 |(y,k)::r,n,acc=>by
  unfold cellsFrom
  split
  ·rw [cellsFrom_app r (n+1) ((y,n)::acc),cellsFrom_app r (n+1) [(y,n)],List.append_assoc]
   rfl
  ·exact cellsFrom_app r n acc
theorem cellsFrom_mem':∀(names:List (Str×NameKind)) (n:Nat) (acc:List (Str×Addr)) {x:Str} {c:Addr},(x,c)∈cellsFrom n names acc->(x,NameKind.cell)∈names∨(x,c)∈acc
 | [],_,_,_,_,h=> .inr h
 |(y,k)::r,n,acc,x,c,h=>by
  unfold cellsFrom at h
  split at h
  ·rename_i hk
   rcases cellsFrom_mem' r _ _ h with z|z
   ·exact .inl (List.mem_cons_of_mem _ z)
   ·rcases List.mem_cons.mp z with e|z
    ·cases e
     rw [show k= .cell from eq_of_beq hk]
     exact .inl List.mem_cons_self
    ·exact .inr z
  ·rcases cellsFrom_mem' r _ _ h with z|z
   ·exact .inl (List.mem_cons_of_mem _ z)
   ·exact .inr z
theorem cellsFrom_mem {names:List (Str×NameKind)} {n:Nat} {x:Str} {c:Addr} (h:(x,c)∈cellsFrom n names []):(x,NameKind.cell)∈names:=(cellsFrom_mem' names n [] h).elim id fun z=>nomatch z
section
variable {α:Type} {A B:List (Str×α)} {x:Str} {c:α}
theorem lookup_app_eq:(A++B).lookup x=(A.lookup x).or (B.lookup x):=List.lookup_append ..
theorem lookup_app (h:(A++B).lookup x=some c):A.lookup x=some c∨(A.lookup x=none/\B.lookup x=some c):=by
 rw [lookup_app_eq]at h
 cases q:A.lookup x with
 |none=>rw [q]at h;exact .inr ⟨rfl,h⟩
 |some d=>rw [q]at h;exact .inl h
theorem lookup_app_l (h:A.lookup x=some c):(A++B).lookup x=some c:=by rw [lookup_app_eq,h];rfl
theorem lookup_app_n (h:A.lookup x=none) (h':B.lookup x=some c):(A++B).lookup x=some c:=by rw [lookup_app_eq,h];exact h'
theorem lookup_app_r (h:B.lookup x=some c):∃d,(A++B).lookup x=some d:=by
 cases q:A.lookup x with
 |none=>exact⟨c,lookup_app_n q h⟩
 |some d=>exact⟨d,lookup_app_l q⟩
end
theorem newCompEnv {M:Model} {A:Around} {E:Value->Shared->Prop} {s:Shared} {scope:Scope} {globals:Addr} {cl:List (Str×Addr)} {qual:Str} {env0:Env} {Q:Env->Shared->Prop} (_hk:scope.kind= .function)
  (h:Q {scope:=scope,locals:=s.heap.objs.size,globals:=globals,cells:=cellsFrom (s.heap.objs.size+1) scope.names cl,qual:=qual,func:=none,code:=env0.code,frame:=env0.frame,builtins:=env0.builtins}
   {s with heap:=pushCells (s.heap.push {cls:= .type "dict",data:= .dict #[]}) scope.names}):
  wpAny M A (newFunctionEnv scope globals cl [] qual none .none (some env0)) Q E s:=by
 simp only [newFunctionEnv,Option.isSome_some,if_true]
 refine wpAny_bind (wpAny_alloc (wpAny_bind (wpAny_layCells _ (fun nm kd cs=>by cases hq:kd==NameKind.cell<;>simp [hq]) _ _ _ _ ?_)))
 have e:({s with heap:=s.heap.push {cls:= .type "dict",data:= .dict #[]}}:Shared).heap.objs.size=s.heap.objs.size+1:=Heap.size_push ..
 rw [e]
 exact wpAny_bind (wpAny_pure (wpAny_pure h))
section
variable {prog:Program} {w:World} {A:Around} {R:Result->Shared->Prop} {s:Shared}
def PTs (X:Cx) (cis:List Expr) (t:TT):Prop:=
 ∀(pins:List (Addr×Obj)) (s:Shared) (σ:St) (H:Hp) (Q:Bool->Hp->Prop),Inv X pins σ H s->t σ H Q->wpAny (model X.prog X.w) X.A (forIn cis true fun c r=>if r=true then do let ok<-isTrue c X.env (eval c X.env);pure (ForInStep.yield ok)else pure (ForInStep.yield r)) (TP X pins σ Q) X.xe s
def tYes:TT:=fun _ H Q=>Q true H
theorem pts_nil {X:Cx}:PTs X [] tYes:=fun pins s σ H Q I q=>wpAny_tests_nil ⟨H,I,q⟩
theorem compLoopG_any {elt target iter:Expr} {cis:List Expr} {scope:Scope} {pos:Pos} {it acc:Value} {env:Env} (I:Nat->Shared->Prop)
  (turn:∀n s,I n s->wpAny (model prog w) A (pyNext it) (fun r s₁=>match r with
   |none=>R (.ok .next) s₁
   |some v=>wpAny (model prog w) A (letOwnedTupleGo target it v) (fun _ s₁'=>wpAny (model prog w) A (assign target env v) (fun _ s₂=>wpAny (model prog w) A (forIn cis true fun c r=>if r=true then do let ok<-isTrue c env (eval c env);pure (ForInStep.yield ok)else pure (ForInStep.yield r)) (fun ok s₂'=>if ok=true then wpAny (model prog w) A (eval elt env) (fun x s₃=>
     wpAny (model prog w) A (call (.builtin "list.append") [acc,x]) (fun _ s₄=>∃m,m<n/\I m s₄) (fun _ _=>False) s₃) (fun _ _=>False) s₂' else∃m,m<n/\I m s₂') (fun _ _=>False) s₂) (fun _ _=>False) s₁') (fun _ _=>False) s₁) (fun _ _=>False) s)
  (n:Nat) (h:I n s):
  codeAny (model prog w) A (.compLoop (.ListComp elt [⟨target,iter,cis,0⟩] scope pos) 0 it acc env) R s:=by
 refine codeAny_loop rfl I (fun n s hI=>?_) n h
 show wpAny _ _ ((compTurn (.ListComp elt [⟨target,iter,cis,0⟩] scope pos) 0 it acc env).onRaise (fun x=>do noteFrame x env;theTreesLotGoes x)) _ _ s
 refine wpAny_noted ?_
 rw [compTurn_list]
 refine wpAny_bind (wpAny_standAt (wpAny_bind (wpAny_mono (turn n s hI) (fun r s₁ h₁=>?_) fun _ _ h'=>h'.elim)))
 cases r with
 |none=>exact wpAny_pure h₁
 |some v=>
  refine wpAny_bind (wpAny_mono h₁ (fun _ s₁' h₁'=>?_) fun _ _ h'=>h'.elim)
  refine wpAny_bind (wpAny_mono h₁' (fun _ s₂ h₂=>?_) fun _ _ h'=>h'.elim)
  refine wpAny_bind (wpAny_mono h₂ (fun okb s₃ h₃=>?_) fun _ _ h'=>h'.elim)
  cases okb with
  |false=>exact wpAny_pure ⟨rfl,h₃⟩
  |true=>exact wpAny_bind (wpAny_bind (wpAny_mono h₃ (fun x s₄ h₄=>wpAny_bind (wpAny_mono h₄ (fun _ s₅ h₅=>wpAny_pure (wpAny_pure ⟨rfl,h₅⟩)) fun _ _ h'=>h'.elim)) fun _ _ h'=>h'.elim))
end
section
variable {X:Cx} {pins:List (Addr×Obj)} {σ:St} {s2:Shared} {H2:Hp}
theorem comp_blockG {elt iter tg:Expr} {cis:List Expr} {scope:Scope} {own:List Str} {cap:List (Str×Nat)} {cl:List (Str×Addr)} {pos:Pos} {J:It} {fp:List Addr} {it:Addr} {tn:Nat->Heap->Prop} {g:TG} {tc:TT} {te:TE} {Q:VK}
  (S:CompScopeC X scope cap cl) (hc:X.calm=true) (I:Inv X pins σ H2 s2) (T:Turn X.prog X.w X.K tg J fp it tn) (st:tn 0 s2.heap) (hf:∀b∈fp,FpOk X pins H2 b)
  (hg:∀cs,CellsFor X scope cs->∀C s2 H2 fp,PG (cxCompC X (capN own cap) scope cs C s2 H2 fp) tg g) (htc:∀cs,CellsFor X scope cs->∀C s2 H2 fp,PTs (cxCompC X (capN own cap) scope cs C s2 H2 fp) cis tc) (he:∀cs,CellsFor X scope cs->∀C s2 H2 fp,PE (cxCompC X (capN own cap) scope cs C s2 H2 fp) elt te)
  (W:Nat->Nat->St->Hp->Prop) (w0:∃m,W 0 m (capSt own.length cap σ) (upd H2 s2.heap.objs.size (.lst [])))
  (turn:∀i m σc H3,W i m σc H3->(J.stop i H3/\Q (.ref s2.heap.objs.size) H3)∨(J.go i H3/\∀x H4,J.yld i H3 x H4->g x σc H4 fun σ5 H5=>tc σ5 H5 fun ok H5'=>if ok=true then te σ5 H5' fun y H6=>∃ys,H6 s2.heap.objs.size=some (.lst ys)/\ys.length<sizeLine/\∃m',m'<m/\W (i+1) m' σ5 (upd H6 s2.heap.objs.size (.lst (ys++[y])))else∃m',m'<m/\W (i+1) m' σ5 H5'))
  {RR:Value->Addr->Result->Shared->Prop}
  (hRR:∀C H' s' m,s2.heap.objs.size<=C->s'.heap.Ns C m->H' C=none->Inv X pins σ H' s'->(∀h',Heap.SameBut C s'.heap h'->Inv X pins σ H' {s' with heap:=h'})->Q (.ref s2.heap.objs.size) H'->RR (.ref s2.heap.objs.size) C (.ok .next) s')
  {E:Value->Shared->Prop}:
  wpAny (model X.prog X.w) X.A (newList []) (fun acc s₃=>wpAny (model X.prog X.w) X.A (newFunctionEnv scope X.env.globals cl [] X.env.qual none .none (some X.env)) (fun cenv s₄=>
   codeAny (model X.prog X.w) X.A (.compStart (.ListComp elt [⟨tg,iter,cis,0⟩] scope pos) 0 (.ref it) acc {cenv with scope:=relabel scope X.env}) (RR acc cenv.locals) s₄) E s₃) E s2:=by
 refine wpAny_newObj_type (newCompEnv S.kind ?_)
 dsimp only
 generalize hH2:s2.heap.push {cls:= .type "list",dict:=none,data:= .seq ([]:List Value).toArray}=G2
 have hC:G2.objs.size=s2.heap.objs.size+1:=by rw [<-hH2,Heap.size_push]
 have hDC:s2.heap.objs.size≠G2.objs.size:=by rw [hC];exact Nat.ne_of_lt (Nat.lt_succ_self _)
 have hCle:s2.heap.objs.size<=G2.objs.size:=by rw [hC];exact Nat.le_succ _
 have below:∀b,b<s2.heap.objs.size->b≠G2.objs.size/\b≠s2.heap.objs.size:=fun b hb=>⟨by rw [hC];exact Nat.ne_of_lt (Nat.lt_succ_of_lt hb),Nat.ne_of_lt hb⟩
 have hG1:(G2.push {cls:= .type "dict",data:= .dict #[]}).objs.size=G2.objs.size+1:=Heap.size_push ..
 have okA:=cellsFrom_ok scope.names (G2.push {cls:= .type "dict",data:= .dict #[]}) (G2.objs.size+1) [] ⟨fun _ _ z=>(nomatch z),List.Pairwise.nil⟩ (by rw [hG1];exact Nat.le_refl _)
 rw [hG1]at okA
 have app:cellsFrom (G2.objs.size+1) scope.names cl=cellsFrom (G2.objs.size+1) scope.names []++cl:=cellsFrom_app _ _ _
 have kept:∀b o,G2.get? b=some o->(pushCells (G2.push {cls:= .type "dict",data:= .dict #[]}) scope.names).get? b=some o:=fun b o e=>pushCells_keeps _ _ b o (Heap.get?_push_of_some _ e)
 have hns₁:(pushCells (G2.push {cls:= .type "dict",data:= .dict #[]}) scope.names).Ns G2.objs.size (fun _=>none):=(Heap.Ns.new G2 (.type "dict")).keeps (pushCells_keeps _ _)
 have old:∀b o,s2.heap.get? b=some o->(pushCells (G2.push {cls:= .type "dict",data:= .dict #[]}) scope.names).get? b=some o:=fun b o e=>kept b o (hH2▸Heap.get?_push_of_some _ e)
 have hacc:(pushCells (G2.push {cls:= .type "dict",data:= .dict #[]}) scope.names).get? s2.heap.objs.size=some {cls:= .type "list",dict:=none,data:= .seq ([]:List Value).toArray}:=kept _ _ (hH2▸Heap.get?_push_size _ rfl)
 have newc:∀x c,(cellsFrom (G2.objs.size+1) scope.names []).lookup x=some c->(pushCells (G2.push {cls:= .type "dict",data:= .dict #[]}) scope.names).IsCell c none/\G2.objs.size+1<=c:=fun x c e=>okA.empty x c (PySem.mem_of_lookup e)
 have newinj:∀x y c,(cellsFrom (G2.objs.size+1) scope.names []).lookup x=some c->(cellsFrom (G2.objs.size+1) scope.names []).lookup y=some c->x=y:=fun x y c e1 e2=>name_of_addr okA.apart (PySem.mem_of_lookup e1) (PySem.mem_of_lookup e2)
 have ownc:∀x,scope.names.lookup x=some .cell->∃c,(cellsFrom (G2.objs.size+1) scope.names []).lookup x=some c:=fun x hx=>Option.isSome_iff_exists.mp (PySem.W.cellsFrom_some scope.names _ [] (.inl hx))
 generalize hh₁:pushCells (G2.push {cls:= .type "dict",data:= .dict #[]}) scope.names=h₁ at hns₁ old hacc newc⊢
 generalize hcA:cellsFrom (G2.objs.size+1) scope.names []=cA at app newc newinj ownc
 generalize hcs:cellsFrom (G2.objs.size+1) scope.names cl=cs at app⊢
 subst app
 have both:∀x c,(cA++cl).lookup x=some c->(cA.lookup x=some c∨(cA.lookup x=none/\cl.lookup x=some c)):=fun x c e=>lookup_app e
 have hfps:∀b∈fp,b<s2.heap.objs.size:=fun b hb=>by
  obtain⟨o,e,_⟩:=T.obj _ _ st b hb
  exact Heap.lt_size e
 have hfree:∀b,s2.heap.objs.size<=b->H2 b=none:=fun b hb=>I.hok.fresh hb
 have old2:∀x c,cl.lookup x=some c->c<s2.heap.objs.size:=fun x c e=>by
  obtain⟨v,o,ho,_⟩:=I.cell x c (S.sub x c e)
  exact Heap.lt_size ho
 have clash:∀c,G2.objs.size+1<=c->c<s2.heap.objs.size->False:=fun c h1 h2=>Nat.lt_irrefl _ (Nat.lt_of_lt_of_le h2 (Nat.le_trans hCle (Nat.le_of_succ_le h1)))
 have cfor:CellsFor X scope (cA++cl):=fun x hx=>by
  rcases hx with h|⟨h,_⟩
  ·obtain⟨c,e⟩:=ownc x h
   exact⟨c,lookup_app_l e⟩
  ·obtain⟨c,e⟩:=S.has x h
   exact lookup_app_r e
 generalize hX:cxCompC X (capN own cap) scope (cA++cl) G2.objs.size s2 H2 fp=X'
 have hOk:X'.Ok:=by
  subst hX
  refine⟨I.ok.mod,S.kind,I.ok.glob,I.ok.blt,hCle,fun x y c e1 e2=>?_,fun x hx=>?_,fun x c z e=>?_,I.ok.hd,I.ok.frames,.inl rfl,
   fun b hb=>⟨(below b (hfps b hb)).1,fun x c e=>?_⟩,I.bs,Nat.le_trans I.ok.bsz I.sz,fun b o e hb=>?_,fun b hb z=>?_,I.stack,I.stkFree⟩
  ·rcases both x c e1 with a1|⟨_,a1⟩
   ·rcases both y c e2 with a2|⟨_,a2⟩
    ·exact newinj x y c a1 a2
    ·exact(clash c (newc x c a1).2 (old2 y c a2)).elim
   ·rcases both y c e2 with a2|⟨_,a2⟩
    ·exact(clash c (newc y c a2).2 (old2 x c a1)).elim
    ·exact I.ok.inj x y c (S.sub x c a1) (S.sub y c a2)
  ·rcases lookup_relabel_inv (env:=X.env) (names:=scope.names) (x:=x) hx with h|h
   ·obtain⟨c,e⟩:=S.has x h
    exact lookup_app_r e
   ·obtain⟨c,e⟩:=ownc x h
    exact⟨c,lookup_app_l e⟩
  ·obtain⟨c',e'⟩:=ownc x (of_decide_eq_true z)
   have q:(cA++cl).lookup x=some c':=lookup_app_l e'
   have q2:some c'=some c:=q.symm.trans e
   cases q2
   exact Nat.le_trans hCle (Nat.le_trans (Nat.le_succ _) (newc x c e').2)
  ·rcases both x c e with a1|⟨_,a1⟩
   ·exact fun z=>clash c (newc x c a1).2 (z.symm▸hfps b hb)
   ·exact(hf b hb).2.2.2.2.1 x c (S.sub x c a1)
  ·rcases (hf b hb).2.2.2.1 with z|z
   ·exact I.ok.noex b o e z
   ·exact absurd (Nat.lt_of_lt_of_le (Heap.lt_size e) (Nat.le_trans I.ok.bsz z)) (Nat.lt_irrefl _)
  ·rcases List.mem_cons.mp (I.stkSub b z)with z|z
   ·exact(hf b hb).2.1 z
   ·exact(hf b hb).2.2.1 z
 have hI0:Inv X' [] (capSt own.length cap σ) (upd H2 s2.heap.objs.size (.lst [])) {s2 with heap:=h₁}:=by
  subst hX
  refine⟨hOk,rfl,I.bare,Un.laid old (Nat.le_refl _) (hfree _ (Nat.le_refl _)),⟨_,hns₁,fun i x v e1 e2 e3=>?_⟩,fun x c e=>?_,?_,fun x c e=>?_,fun p hp=>absurd (show p∈([]:List (Addr×Obj))from hp) (by simp),?_,?_⟩
  ·obtain⟨p,hp,rfl,hσ⟩:=capSt_get rfl e1 e2
   obtain⟨c1,c2,c3⟩:=S.cap p hp
   obtain⟨m,hn,hl⟩:=I.loc
   obtain⟨u,r,l⟩:=hl p.2 p.1 v c1 hσ (.inr (.inl c3))
   refine⟨u,r,.inr ⟨.inl (lookup_relabel_free I.ok.kind c2 c3),?_⟩⟩
   obtain⟨c,hcl⟩:=S.has _ c2
   have nA:cA.lookup p.1=none:=by
    cases q:cA.lookup p.1 with
    |none=>rfl
    |some c0=>
     have z:=PySem.mem_of_lookup q
     rw [<-hcA]at z
     exact absurd (cellsFrom_mem z) (S.capn p hp)
   refine⟨c,lookup_app_n nA hcl,?_⟩
   rcases l with ⟨k,_⟩|⟨_,c',e,z⟩
   ·have k':X.env.scope.names.lookup p.1=some .local:=k
    rw [c3]at k';cases k'
   ·have:=S.sub _ _ hcl
    rw [e]at this;cases this
    obtain⟨o,ho,hd⟩:=z
    exact⟨o,old _ _ ho,hd⟩
  ·rcases both x c e with a1|⟨_,a1⟩
   ·exact⟨none,(newc x c a1).1⟩
   ·obtain⟨v,o,ho,hd⟩:=I.cell x c (S.sub x c a1)
    exact⟨v,o,old _ _ ho,hd⟩
  ·show upd H2 s2.heap.objs.size (.lst []) G2.objs.size=none
   rw [upd_ne (Ne.symm hDC)]
   exact hfree _ hCle
  ·rcases both x c e with a1|⟨_,a1⟩
   ·have h1:=(newc x c a1).2
    have h2:s2.heap.objs.size<=c:=Nat.le_trans hCle (Nat.le_of_succ_le h1)
    have h3:c≠s2.heap.objs.size:=fun z=>by
     rw [z]at h1
     exact hDC (Nat.le_antisymm hCle (Nat.le_of_succ_le h1))
    rw [upd_ne h3]
    exact hfree c h2
   ·have e':=S.sub x c a1
    obtain⟨v,o,ho,hd⟩:=I.cell x c e'
    rw [upd_ne (below c (Heap.lt_size ho)).2]
    exact I.freeC x c e'
  ·exact I.hok.laid old (Nat.le_refl _) ⟨Nat.zero_le _,[],_,.nil,hacc⟩
  ·show(capSt own.length cap σ).length=(capN own cap).length
   unfold capSt capN
   simp
 have hP:X'.prog=X.prog:=by subst hX;rfl
 have hw:X'.w=X.w:=by subst hX;rfl
 have hK:X'.K=X.K:=by subst hX;rfl
 have hA:X'.A=X.A:=by subst hX;rfl
 have hcalm:X'.calm=true:=by subst hX;exact hc
 have hxe:X'.xe=fun _ _=>False:=by subst hX;rfl
 have henv:X'.env={compEnvC scope cl G2.objs.size X.env with cells:=cA++cl}:=by subst hX;rfl
 have hbase:∀{σ' H' s'},Inv X' [] σ' H' s'->Un (frs X.stack) fp H2 H' s2.heap s'.heap/\s'.os=s2.os:=fun{σ' H' s'} J=>by subst hX;exact⟨J.base,J.os⟩
 have hg':PG X' tg g:=by subst hX;exact hg _ cfor _ _ _ _
 have he':PE X' elt te:=by subst hX;exact he _ cfor _ _ _ _
 have htc':PTs X' cis tc:=by subst hX;exact htc _ cfor _ _ _ _
 have stat:∀{H':Hp},(∀b∈fp,H' b=none)->∀b∈fp,FpOk X' [] H' b:=fun{H'} hn b hb=>by
  subst hX
  refine⟨hn b hb,(below b (hfps b hb)).1,fun z=>?_,.inl hb,fun x c e=>?_,fun p hp=>absurd (show p∈([]:List (Addr×Obj))from hp) (by simp)⟩
  rcases List.mem_cons.mp (I.stkSub b z)with z|z
  ·exact(hf b hb).2.1 z
  ·exact(hf b hb).2.2.1 z
  rcases both x c e with a1|⟨_,a1⟩
  ·exact fun z=>clash c (newc x c a1).2 (z.symm▸hfps b hb)
  ·exact(hf b hb).2.2.2.2.1 x c (S.sub x c a1)
 have back:∀{σ' H' s'},Inv X' [] σ' H' s'->Q (.ref s2.heap.objs.size) H'->RR (.ref s2.heap.objs.size) G2.objs.size (.ok .next) s':=fun{σ' H' s'} J q=>by
  obtain⟨u,ho⟩:=hbase J
  have hcf:∀b∈fp,(b∈X.ex∨X.s₀.heap.objs.size<=b)/\b≠X.env.locals/\(∀x c,X.env.cells.lookup x=some c->c≠b)/\∀p∈X.pn++pins,p.1≠b:=fun b hb=>by
   obtain⟨f0,f1,f2,f3,f4,f5⟩:=hf b hb
   exact⟨f3,f1,f4,f5⟩
  have hCn:H' G2.objs.size=none:=by have:=J.free;rw [henv]at this;exact this
  have hok':HOk X.prog X.w H' s'.heap:=by have:=J.hok;rw [hP,hw]at this;exact this
  obtain⟨m,hm,_⟩:=J.loc
  rw [henv]at hm
  refine hRR _ H' s' m hCle hm hCn (I.call' ho u hok' J.bare hcf) (fun h' hs=>?_) q
  have kn:∀b o,s2.heap.get? b=some o->h'.get? b=s'.heap.get? b:=fun b o e=>hs.2 b (below b (Heap.lt_size e)).1
  refine I.call' (s':={s' with heap:=h'}) ho ⟨fun b o e n hb hx=>(kn b o e).trans (u.keep b o e n hb hx),fun b o e n hb hx=>?_,u.free,fun b o e hx=>?_,u.tups,u.frzs,u.tbls⟩ (fun b ob e=>?_) J.bare hcf
  ·obtain⟨sl,e1⟩:=u.slot b o e n hb hx
   exact⟨sl,(kn b o e).trans e1⟩
  ·obtain⟨o',e1⟩:=u.there b o e hx
   exact⟨o',(kn b o e).trans e1⟩
  ·refine(hok' b ob e).stay (fun c w' hc q=>(hs.2 c ?_).trans q) (fun _ q=>q) fun _ _ q=>q
   rintro rfl
   rcases hc with rfl|hc
   ·rw [hCn]at e;cases e
   ·rw [hCn]at hc;cases hc
 have loop:∀s₃:Shared,s₃={s2 with heap:=h₁}->
   codeAny (model X.prog X.w) X.A (.compLoop (.ListComp elt [⟨tg,iter,cis,0⟩] scope pos) 0 (.ref it) (.ref s2.heap.objs.size) {compEnvC scope cl G2.objs.size X.env with cells:=cA++cl})
    (RR (.ref s2.heap.objs.size) G2.objs.size) s₃:=by
  rintro s₃ rfl
  obtain⟨m0,w0⟩:=w0
  refine compLoopG_any (fun n s'=>∃i σ' H',Inv X' [] σ' H' s'/\tn i s'.heap/\(∀b∈fp,H' b=none)/\W i n σ' H') ?_ m0
   ⟨0,_,_,hI0,T.keep _ _ _ st fun b hb o e=>old b o e,fun b hb=>?_,w0⟩
  ·rintro n s3 ⟨i,σ3,H3,I3,st3,fr3,w3⟩
   rcases turn i n σ3 H3 w3 with ⟨stop,qn⟩|⟨go,step⟩
   ·have d:=T.done X' hP hw hK hcalm i [] s3 σ3 H3 (fun _ _=>False) I3 (stat fr3) st3 stop
    rw [hA]at d
    refine thn d fun r s4 ⟨hr,I4⟩=>?_
    subst hr
    exact back I4 qn
   ·have d:=T.item X' hP hw hK hcalm i [] s3 σ3 H3 (fun _ _=>False) I3 (stat fr3) st3 go
    rw [hA]at d
    refine thn d fun r s4 ⟨u,hr,h4⟩=>?_
    subst hr
    refine thn h4 fun _ s5 ⟨x,H5,I5,r5,y5,st5,fr5⟩=>?_
    have I5':=I5.pinned (stat fr5) (T.obj _ _ st5)
    have d2:=hg' _ s5 σ3 H5 x u _ I5' r5 (step x H5 y5)
    rw [hP,hw,hA,hxe,henv]at d2
    refine thn d2 fun _ s6 ⟨σ6,H6,I6,q6⟩=>?_
    have dt:=htc' _ s6 σ6 H6 _ I6 q6
    rw [hP,hw,hA,hxe,henv]at dt
    refine thn dt fun okb s6' ⟨H6',I6',q6'⟩=>?_
    cases okb with
    |false=>
     obtain⟨m',hm,w7⟩:=q6'
     refine⟨m',hm,i+1,σ6,H6',I6'.unpinned,T.keep _ _ _ st5 fun b hb o e=>(I6'.pin (b,o) (List.mem_append_right _ (List.mem_append_right _ (mem_pinsAt hb e)))).1,fun b hb=>?_,w7⟩
     obtain⟨o,e,d⟩:=T.obj _ _ st5 b hb
     exact(I6'.pin (b,o) (List.mem_append_right _ (List.mem_append_right _ (mem_pinsAt hb e)))).2.1
    |true=>
    have d3:=he' _ s6' σ6 H6' _ I6' q6'
    rw [hP,hw,hA,hxe,henv]at d3
    refine thn d3 fun y7 s7 ⟨v7,H7,I7,r7,ys,e7,l7,m',hm,w7⟩=>?_
    have d4:=mt_append (X:=X') _ s7 σ6 H7 (.ref s2.heap.objs.size) [v7] (.ref s2.heap.objs.size) [y7] (fun _ H8=>W (i+1) m' σ6 H8) I7 rfl (.cons r7 .nil) ⟨_,ys,v7,rfl,rfl,e7,l7,w7⟩
    rw [hP,hw,hA,hxe]at d4
    refine thn d4 fun _ s8 ⟨v8,H8,I8,_,w8⟩=>?_
    refine⟨m',hm,i+1,σ6,H8,I8.unpinned,T.keep _ _ _ st5 fun b hb o e=>(I8.pin (b,o) (List.mem_append_right _ (List.mem_append_right _ (mem_pinsAt hb e)))).1,fun b hb=>?_,w8⟩
    obtain⟨o,e,d⟩:=T.obj _ _ st5 b hb
    exact(I8.pin (b,o) (List.mem_append_right _ (List.mem_append_right _ (mem_pinsAt hb e)))).2.1
  ·rw [upd_ne (below b (hfps b hb)).2]
   exact(hf b hb).1
 exact codeAny_compStart_list (loop _ rfl) (T.self _ 0 _ _ _ (T.keep _ _ _ st fun b hb o e=>old b o e) (loop _ rfl))
end
abbrev CompOkC (scope sc0:Scope) (cap:List (Str×Nat)) (N:List Str):Prop:=scope.kind= .function/\(∀y∈scope.names,y.2= .local->scope.names.lookup y.1=some .local)/\
 (∀y∈scope.names,y.2= .free->sc0.names.lookup y.1=some .cell)/\(∀p∈cap,¬(p.1,NameKind.cell)∈scope.names)/\(∀p∈cap,N[p.2]? =some p.1/\scope.names.lookup p.1=some .free/\sc0.names.lookup p.1=some .cell)
abbrev OutC (scope fsc:Scope) (x:Str):Prop:=scope.names.lookup x=some .cell∨(scope.names.lookup x=some .free/\fsc.names.lookup x=some .cell)
abbrev NestOk (isc scope fsc:Scope) (icap:List (Str×Nat)) (N:List Str):Prop:=isc.kind= .function/\(∀y∈isc.names,y.2≠ .cell)/\(∀y∈isc.names,y.2= .local->isc.names.lookup y.1=some .local)/\
 (∀y∈isc.names,y.2= .free->OutC scope fsc y.1)/\(∀p∈icap,N[p.2]? =some p.1/\isc.names.lookup p.1=some .free/\OutC scope fsc p.1)
theorem relabel_cell {env:Env}:∀{names:List (Str×NameKind)} {x:Str},names.lookup x=some .cell->
  (names.map fun(n,k)=>if(k==NameKind.free && env.scope.kind== .function && env.kindOf n==some .cell)then(n,NameKind.cell)else(n,k)).lookup x=some .cell
 | [],_,h=>by simp at h
 |(n,k)::r,x,h=>by
  have ih:=@relabel_cell env r x
  show List.lookup x ((if(k==NameKind.free && env.scope.kind== .function && env.kindOf n==some .cell)=true then(n,NameKind.cell)else(n,k))::_)=_
  cases hx:x==n with
  |true=>
   simp only [List.lookup_cons,hx]at h
   cases h
   rw [if_neg (by simp)]
   simp [List.lookup_cons,hx]
  |false=>
   simp only [List.lookup_cons,hx]at h
   by_cases hcc:(k==NameKind.free && env.scope.kind== .function && env.kindOf n==some .cell)=true
   ·rw [if_pos hcc];simp only [List.lookup_cons,hx];exact ih h
   ·rw [if_neg hcc];simp only [List.lookup_cons,hx];exact ih h
section
variable {X:Cx}
theorem cs_ofC {scope:Scope} {cap:List (Str×Nat)} {sc0:Scope} {N0:List Str} (hs:X.env.scope=sc0) (hN:X.N=N0) (hcell:∀x,X.env.scope.names.lookup x=some .cell->∃c,X.env.cells.lookup x=some c) (ok:CompOkC scope sc0 cap N0):∃cl,CompScopeC X scope cap cl:=by
 subst hs hN
 obtain⟨k,nm,fr,cn,cp⟩:=ok
 obtain⟨cl,e,a,b⟩:=clos_loop X.env scope.names [] (fun y hy hf=>hcell _ (fr y hy hf)) (fun x c h=>by simp at h)
 refine⟨cl,?_,k,nm,a,fun x hx=>b x (.inr (PySem.mem_of_lookup hx)),cn,cp⟩
 unfold closureFor
 refine Eq.trans ?_ e
 simp only [bind_pure]
theorem cs_nest {Nc:List Str} {scope isc fsc:Scope} {cs:List (Str×Addr)} {C:Addr} {s2:Shared} {H2:Hp} {fp:List Addr} {icap:List (Str×Nat)} (cf:CellsFor X scope cs) (hfs:X.env.scope=fsc) (hk:fsc.kind= .function) (ok:NestOk isc scope fsc icap Nc):
  ∃cl,CompScope (cxCompC X Nc scope cs C s2 H2 fp) isc icap cl:=by
 subst hfs
 obtain⟨k,nc,nm,fr,cp⟩:=ok
 have up:∀x,OutC scope X.env.scope x->(relabel scope X.env).names.lookup x=some .cell:=fun x h=>by
  rcases h with h|⟨h,h'⟩
  ·exact relabel_cell h
  ·exact lookup_relabel_free hk h h'
 obtain⟨cl,e,a,b⟩:=clos_loop (cxCompC X Nc scope cs C s2 H2 fp).env isc.names [] (fun y hy hf=>cf _ (fr y hy hf)) (fun x c h=>by simp at h)
 refine⟨cl,?_,k,nc,nm,a,fun x hx=>b x (.inr (PySem.mem_of_lookup hx)),fun p hp=>⟨(cp p hp).1,(cp p hp).2.1,up _ (cp p hp).2.2⟩⟩
 unfold closureFor
 refine Eq.trans ?_ e
 simp only [bind_pure]
end
section
variable {X:Cx}
end
section
variable {X:Cx} {B:St->Hp->Prop} {R:Hp->V->Prop}
end
theorem pi_listK {X:Cx} {tg:Expr} {K:PySem.W.Frag} (h:X.K=K) {l:Expr} {tl:TE} (hl:PE X l tl):PI X tg l (iList K tl):=by
 subst h
 exact pi_list hl
section
variable {X:Cx}
def CDivM (_ j:Int):Prop:=0<j/\j<2 ^ 62
theorem op_fdivM:OpR X (binaryOp .FloorDiv) (rI CDivM fun i j=> .int (i / j)):=opI fun i j _ _ _ _ _ hc q=>by
 have h1:(0:Int)<j:=hc.1
 have h2:j<2 ^ 62:=hc.2
 refine floordiv_int (by omega) (by rw [Int.fdiv_eq_ediv_of_nonneg i (by omega)];exact q) (.inl (PyProof.noPylong_of_log2 ?_))
 have h3:j.natAbs<2 ^ 62:=by omega
 have:=(Nat.log2_lt (by omega)).mpr h3
 omega
end
section
variable {X:Cx} {K:PySem.W.Frag}
end
section
variable {X:Cx}
theorem pe_cpN {elt iter tg:Expr} {Nc:List Str} {scope isc:Scope} {cs:List (Str×Addr)} {C:Addr} {s2:Shared} {H2:Hp} {fp:List Addr} {own:List Str} {icap:List (Str×Nat)} {pos:Pos} {wi:TI} {g:TG} {te:TE} (fsc:Scope) (cf:CellsFor X scope cs) (hfs:X.env.scope=fsc) (hk:fsc.kind= .function)
  (ok:NestOk isc scope fsc icap Nc) (hc:X.calm=true) (hi:PI (cxCompC X Nc scope cs C s2 H2 fp) tg iter wi)
  (hg:∀cl C' s3 H3 fp',PG (cxComp (cxCompC X Nc scope cs C s2 H2 fp) (capN own icap) isc cl C' s3 H3 fp') tg g) (he:∀cl C' s3 H3 fp',PE (cxComp (cxCompC X Nc scope cs C s2 H2 fp) (capN own icap) isc cl C' s3 H3 fp') elt te)
  (hs:∀x,foldedSetIterable iter (cxCompC X Nc scope cs C s2 H2 fp).env x=pure x:=by intro _;rfl):PE (cxCompC X Nc scope cs C s2 H2 fp) (.ListComp elt [⟨tg,iter,[],0⟩] isc pos) (tComp own.length icap wi g te):=by
 obtain⟨cl,S⟩:=cs_nest (C:=C) (s2:=s2) (H2:=H2) (fp:=fp) cf hfs hk ok
 exact pe_comp S hc hi (hg cl) (he cl) hs
theorem ps_setCompC {i:Nat} {x:Str} {elt iter tg:Expr} {scope:Scope} {own:List Str} {cap:List (Str×Nat)} {cl:List (Str×Addr)} {pos spos py:Pos} {wi:TI} {g:TG} {te:TE}
  (hN:X.N.Nodup) (hi':X.N[i]? =some x) (hx:Loc X.env.scope x) (S:CompScopeC X scope cap cl) (hc:X.calm=true) (hi:PI X tg iter wi) (gm:∀x σ H (Q Q':St->Hp->Prop),(∀σ H,Q σ H->Q' σ H)->g x σ H Q->g x σ H Q')
  (hg:∀cs,CellsFor X scope cs->∀C s2 H2 fp,PG (cxCompC X (capN own cap) scope cs C s2 H2 fp) tg g) (he:∀cs,CellsFor X scope cs->∀C s2 H2 fp,PE (cxCompC X (capN own cap) scope cs C s2 H2 fp) elt te)
  (hsw:swapsWith (.ListComp elt [⟨tg,iter,[],0⟩] scope pos) (some (.Name x py)) spos.line X.env=pure true:=by rfl)
  (hs:∀x,foldedSetIterable iter X.env x=pure x:=by intro _;rfl) (hf:X.fn x=true∨X.env.scope.names.lookup x=some .local:=by first|exact .inl rfl|exact .inr rfl|assumption):
  PS X (.Assign [.Name x py] (.ListComp elt [⟨tg,iter,[],0⟩] scope pos) spos) (tAsg (tComp own.length cap wi g te) (gName i)):=by
 intro pins s σ H D I h
 rw [exec_Assign_Name_used _ _ _ _ hsw]
 refine wpAny_bind (wpAny_standAt (wpAny_bind ?_))
 show wpAny _ X.A (do let _<-comprehension (.ListComp elt [⟨tg,iter,[],0⟩] scope pos) scope X.env _ (newList []) false (eval iter X.env) (some (assign (.Name x py) X.env))) _ _ s
 refine wpAny_bind (wpAny_mono (wpAny_comprehension_free (use:=some (assign (.Name x py) X.env)) (Q:=fun _ s'=>SP X pins D .next s') rfl hs S.clos S.kind S.names
  (thn (hi pins s σ H _ I h) fun v s1 h1=>thn h1 fun itv s2 h2=>?_)) (fun _ s' hq=>wpAny_pure (wpAny_pure hq)) fun _ _ e=>e)
 obtain⟨it,fp,tn,J,H2,e,I2,T,st2,f2,rd⟩:=h2
 subst e
 obtain⟨W,w0,turn⟩:=rd _ (I2.hok.fresh (Nat.le_refl _))
 refine comp_blockG (Q:=fun x H1=>gName i x σ H1 D.nx) (RR:=fun acc C=>compPost (model X.prog X.w) X.A X.xe (some (assign (.Name x py) X.env)) (fun _ s'=>SP X pins D .next s') acc C) S hc I2 T st2 f2 hg (fun _ _ _ _ _ _=>pts_nil) he W w0 (fun i m σc H3 h3=>(turn i m σc H3 h3).imp id fun⟨go,step⟩=>⟨go,fun x H4 y=>gm _ _ _ _ _ (fun σ5 H5 q=>by unfold tYes;dsimp only;rw [if_pos rfl];exact q) (step x H4 y)⟩)
  fun C H' s' m hCle hm hCn I' hback q=>?_
 refine wpAny_assign_Name (store_ok2 (v:= .ref s2.heap.objs.size) I' hN hi' hx rfl (fun s'' I'' ⟨a,hsa,ha⟩=>?_) hf)
 have hCa:C≠a:=by
  rcases ha with z|z
  ·rw [z]
   exact Ne.symm (lt_le_ne I2.lt hCle)
  ·obtain⟨v,q'⟩:=I2.cell x a z
   exact Ne.symm (lt_le_ne q'.lt hCle)
 refine⟨m,hm.sameBut hsa hCa,fun h' hs'=>⟨_,H',?_,q⟩⟩
 have hC0:X.s₀.heap.objs.size<=C:=Nat.le_trans I2.sz hCle
 have hnp:∀p∈X.pn++pins,p.1≠C:=fun p hp=>lt_le_ne (Heap.lt_size (I2.pin p hp).1) hCle
 have hcl:∀y c,X.env.cells.lookup y=some c->c≠C:=fun y c e=>by
  obtain⟨v,q'⟩:=I2.cell y c e
  exact lt_le_ne q'.lt hCle
 have hL:C≠X.env.locals:=Ne.symm (lt_le_ne I2.lt hCle)
 exact I''.turned (t':=s''.toks) (it:=C) (fun b o hb e=>(hs'.2 b hb).trans e) hCn hL (.inr hC0) hcl hnp
theorem ps_cpC {i:Nat} {x:Str} {elt iter tg:Expr} {scope:Scope} {own:List Str} {cap:List (Str×Nat)} {pos spos py:Pos} {wi:TI} {n:Nat} {te:TE} (hNd:X.N.Nodup) (hi':X.N[i]? =some x) (hx:Loc X.env.scope x) (sc0:Scope) (N0:List Str) (hsc:X.env.scope=sc0) (hN:X.N=N0) (hcell:∀x,X.env.scope.names.lookup x=some .cell->∃c,X.env.cells.lookup x=some c)
  (ok:CompOkC scope sc0 cap N0) (hc:X.calm=true) (hi:PI X tg iter wi)
  (hg:∀cs,CellsFor X scope cs->∀C s2 H2 fp,PG (cxCompC X (capN own cap) scope cs C s2 H2 fp) tg (gName n)) (he:∀cs,CellsFor X scope cs->∀C s2 H2 fp,PE (cxCompC X (capN own cap) scope cs C s2 H2 fp) elt te)
  (hsw:swapsWith (.ListComp elt [⟨tg,iter,[],0⟩] scope pos) (some (.Name x py)) spos.line X.env=pure true:=by rfl)
  (hs:∀x,foldedSetIterable iter X.env x=pure x:=by intro _;rfl) (hf:X.fn x=true∨X.env.scope.names.lookup x=some .local:=by first|exact .inl rfl|exact .inr rfl|assumption):
  PS X (.Assign [.Name x py] (.ListComp elt [⟨tg,iter,[],0⟩] scope pos) spos) (tAsg (tComp own.length cap wi (gName n) te) (gName i)):=by
 obtain⟨cl,S⟩:=cs_ofC hsc hN hcell ok
 exact ps_setCompC hNd hi' hx S hc hi (fun _ _ _ _ _ m h=>m _ _ h) hg he hsw hs hf
end
def SObjP (P:Program) (w:World) (a:Addr) (xs:List ((Int×List Int)×Addr)) (h:Heap):Prop:=∃o es ep t,h.get? a=some o/\o.ExactSet/\o.data= .set es ep t/\es.toList=xs.map (fun x=>((pairKind (intKind P w)).hash x.1,Value.ref x.2))/\t.Good/\t.place.size=es.size/\(xs.map (·.1)).Nodup/\
 (∀(i j:Nat) (x:(Int×List Int)×Addr),t.place[i]? =some j->xs[i]? =some x->SetTable.OnWay t ((pairKind (intKind P w)).hash x.1) j)/\t.Small/\t.plain=true/\t.led= !w.params.followText "set-order"
def TKy (H:Hp) (x:List Int×Addr):Prop:=H x.2=some (.tup (x.1.map V.int))
def PKy (H:Hp) (x:(Int×List Int)×Addr):Prop:=∃q,H x.2=some (.tup [.int x.1.1,.ref q])/\TKy H (x.1.2,q)
section
variable {P:Program} {w:World} {H:Hp} {h:Heap} {a:Addr} {s:Shared} {xs:List ((Int×List Int)×Addr)}
theorem SObjP.stay (h1 h2:Heap) (p:SObjP P w a xs h1) (k:∀o,h1.get? a=some o->h2.get? a=some o):SObjP P w a xs h2:=let⟨o,es,ep,t,e,c⟩:=p;⟨o,es,ep,t,k _ e,c⟩
theorem SObjP.of (I:SetIs (pairKind (intKind P w)) s a (!w.params.followText "set-order") xs):SObjP P w a xs s.heap:=by
 obtain⟨o,es,ep,t,S,r1,r2,r3⟩:=I
 exact⟨o,es,ep,t,S.ho,S.hex,S.hd,S.he,S.good,S.size,S.nd,S.way,r1,r2,r3⟩
theorem SObjP.is (I:SObjP P w a xs s.heap) (keys:∀x∈xs,IsPairKey (intKind P w) s.heap x.1 x.2):SetIs (pairKind (intKind P w)) s a (!w.params.followText "set-order") xs:=by
 obtain⟨o,es,ep,t,a1,a2,a3,a4,a5,a6,a7,a8,r1,r2,r3⟩:=I
 exact⟨o,es,ep,t,⟨a1,a2,a3,a4,a5,a6,keys,a7,a8⟩,r1,r2,r3⟩
theorem titems_of {ns:List Int}:∀{us:List Value},Vals (ns.map V.int) us->ItemsAre (intKind P w) ns us:=by
 induction ns with
 |nil=>intro us r;rw [List.map_nil]at r;cases r;exact .nil
 |cons n ns ih=>
  intro us r
  rw [List.map_cons]at r
  cases r with
  |@cons _ v _ _ r1 t=>
   obtain⟨tk,rfl⟩:=r1
   exact .cons (by show Value.isInt n (.int n tk)=true;simp [Value.isInt]) (ih t)
theorem tkey_of {x:List Int×Addr} (ok:HOk P w H h) (e:TKy H x):IsTupleKey (intKind P w) h x.1 x.2:=by
 obtain⟨_,its,r,o,h1,h2,n,h3⟩:=(show ObjOk P w H h x.2 (.tup (x.1.map V.int))from ok _ _ e)
 exact⟨o,its.toArray,n,h1,h2,h3,titems_of r⟩
theorem pkey_of {x:(Int×List Int)×Addr} (ok:HOk P w H h) (e:PKy H x):IsPairKey (intKind P w) h x.1 x.2:=by
 obtain⟨q,e1,e2⟩:=e
 obtain⟨_,its,r,o,h1,h2,n,h3⟩:=(show ObjOk P w H h x.2 (.tup [.int x.1.1,.ref q])from ok _ _ e1)
 obtain⟨u,v,rfl,ru,rv⟩:=vals2 r
 obtain⟨tk,rfl⟩:=ru
 obtain rfl:v=Value.ref q:=rv
 exact⟨o,_,q,n,h1,h2,h3,(by show Value.isInt _ (.int _ tk)=true;simp [Value.isInt]),tkey_of ok e2⟩
end
theorem tvals_refs:∀{ps:List ((Int×List Int)×Addr)} {us:List Value},Vals (ps.map fun x=>V.ref x.2) us->us=ps.map fun x=>Value.ref x.2
 | [],_,.nil=>rfl
 |_::_,_,.cons (r1:_=Value.ref _) t=>by subst r1;rw [List.map_cons,tvals_refs t]
theorem trefs_vals:∀{ps:List ((Int×List Int)×Addr)},Vals (ps.map fun x=>V.ref x.2) (ps.map fun x=>Value.ref x.2)
 | []=> .nil
 |_::_=> .cons rfl trefs_vals
def rSetP (P:Program) (w:World) (K:PySem.W.Frag):List V->Hp->VK->Prop:=fun xs H Q=>∃(p:Addr) (ps:List ((Int×List Int)×Addr)),xs=[.ref p]/\SqL K H p (ps.map fun x=>V.ref x.2)/\(∀x∈ps,PKy H x)/\ps.length<=1000/\(∃ks:List (Int×List Int),ks.length<18/\∀x∈ps,x.1∈ks)/\
 ∀(l:Addr) (zs:List ((Int×List Int)×Addr)),H l=none->(zs.map (·.1)).Nodup->(∀x∈zs,x∈ps)->(∀x∈ps,∃z∈zs,z.1=x.1)->zs.length<=ps.length->Q (.ref l) (upd H l (.ext (SObjP P w l zs)))
def rSortedP (P:Program) (w:World):List V->Hp->VK->Prop:=fun xs H Q=>∃(p:Addr) (ps:List ((Int×List Int)×Addr)),xs=[.ref p]/\H p=some (.ext (SObjP P w p ps))/\(∀x∈ps,PKy H x)/\ps.length<64/\
 ∀(l:Addr) (ys:List ((Int×List Int)×Addr)),H l=none->ys.Perm ps->ys.Pairwise (fun x y=>lexP x.1 y.1=true)->Q (.ref l) (upd H l (.lst (ys.map fun x=>V.ref x.2)))
section
variable {X:Cx}
theorem call_setP (hu:X.A.units+20<cLine) (hc:X.calm=true):CallR X (.type "set") (rSetP X.prog X.w X.K):=by
 intro pins s σ H xs us Q I r h
 obtain⟨p,ps,rfl,hq,hk,hln,⟨ks,kl,km⟩,q⟩:=h
 obtain⟨u,rfl,ru⟩:=vals1 r
 cases ru
 obtain⟨its,rv,pl,hz⟩:=I.list hq
 have ei:=tvals_refs rv
 have hlen:its.length=ps.length:=by rw [ei,List.length_map]
 have at_:∀i,i<ps.length->ps.getD i ((0,[]),0)∈ps:=fun i hi=>by simp [List.getD,hi]
 refine call_set_listH (knd:=pairKind (intKind X.prog X.w)) (items:=its.toArray) (val:=fun i=>(ps.getD i ((0,[]),0)).1) (adr:=fun i=>(ps.getD i ((0,[]),0)).2) (pairKd fun k v hv=>?_) (fun A' hA=>?_) (I.ok.hd hc) pl.isList (fun i v hv=>?_) (fun j hj=>?_) (fun i xs hi M nd=>?_) fun h' tk zs S M hk'=>?_
 ·obtain⟨t,rfl⟩:=Value.isInt_shape hv
  exact⟨_,_,rfl⟩
 ·show A'.units+1<cLine
  omega
 ·have hi:i<its.toArray.size:=(Array.getElem?_eq_some_iff.mp hv).1
  rw [List.size_toArray,hlen]at hi
  rw [List.getElem?_toArray,ei]at hv
  simp [hi]at hv
  rw [<-hv]
  simp [List.getD,hi]
 ·rw [List.size_toArray,hlen]at hj
  exact pkey_of I.hok (hk _ (at_ j hj))
 ·rw [List.size_toArray,hlen]at hi
  have:=nd.length_le_of_subset (l₂:=ks) fun k hk=>by
   obtain⟨x,hx,rfl⟩:=List.mem_map.mp hk
   obtain⟨j,hj,e⟩:=M.from' x hx
   rw [e]
   exact km _ (at_ j (by omega))
  rw [List.length_map]at this
  omega
 ·have kp:∀b o,s.heap.get? b=some o->h'.get? b=some o:=fun b o e=>hk' b o (Heap.lt_size e) e
  have so:=SObjP.of S
  have nd:(zs.map (·.1)).Nodup:=by obtain⟨_,_,_,_,S,_⟩:=S;exact S.nd
  refine⟨.ref s.heap.objs.size,_,I.laid (t':=tk) (o:= .ext (SObjP X.prog X.w s.heap.objs.size zs)) kp (Nat.le_refl _) ⟨so,?_,fun h1 h2 p k=>SObjP.stay h1 h2 p k⟩,rfl,q _ zs (I.hok.fresh (Nat.le_refl _)) nd (fun x hx=>?_) (fun x hx=>?_) ?_⟩
  ·obtain⟨o,_,_,_,e,_⟩:=so
   exact⟨o,e⟩
  ·obtain⟨j,hj,e⟩:=M.from' x hx
   rw [List.size_toArray,hlen]at hj
   rw [e]
   exact at_ j hj
  ·obtain⟨j,hj,e⟩:=List.getElem_of_mem hx
   obtain⟨z,hz,ez⟩:=M.all j (by rw [List.size_toArray,hlen];exact hj)
   refine⟨z,hz,?_⟩
   rw [ez, <-e]
   simp [List.getD,hj]
  ·have:=M.len
   rw [List.size_toArray,hlen]at this
   exact this
theorem call_sortedP (hu:X.A.units+40<cLine) (hc:X.calm=true):CallR X (.builtin "sorted") (rSortedP X.prog X.w):=by
 intro pins s σ H xs us Q I r h
 obtain⟨p,ps,rfl,hp,hk,h64,q⟩:=h
 obtain⟨u,rfl,ru⟩:=vals1 r
 cases ru
 obtain⟨so,_,_⟩:=(show ObjOk X.prog X.w H s.heap p (.ext (SObjP X.prog X.w p ps))from I.hok p _ hp)
 refine sorted_set (pairOrd fun k v hv=>by obtain⟨t,rfl⟩:=Value.isInt_shape hv;exact⟨_,_,rfl⟩) (by omega) (I.ok.hd hc) (so.is fun x hx=>pkey_of I.hok (hk x hx)) (fun _ _=>trivial) h64 fun h' tk l e ys py hy hl hg kp=>?_
 refine⟨.ref l,_,I.laid (t':=tk) (o:= .lst (ys.map fun x=>V.ref x.2)) kp hl ⟨?_,_,e,trefs_vals,hg⟩,rfl,q l ys (I.hok.fresh hl) py hy⟩
 rw [List.length_map,py.length_eq,sizeLine_eq]
 omega
end
def SObj3 (w:World) (a:Addr) (zs:List Nat) (h:Heap):Prop:=∃o ep tk,h.get? a=some o/\o.ExactSet/\o.data= .set (ents3 zs tk) ep (tab3 (!w.params.followText "set-order") zs)/\zs∈subs3
def natVs (l:List Nat):List V:=l.map fun k:Nat=> .int (k:Int)
def rSet3 (w:World) (K:PySem.W.Frag):List V->Hp->VK->Prop:=fun xs H Q=>∃(p:Addr) (ns:List Nat),xs=[.ref p]/\SqL K H p (natVs ns)/\(∀n∈ns,n∈[1,2,3])/\
 ∀(l:Addr) (zs:List Nat),H l=none->zs∈subs3->(∀z,z∈zs↔z∈ns)->Q (.ref l) (upd H l (.ext (SObj3 w l zs)))
def rSorted3 (w:World):List V->Hp->VK->Prop:=fun xs H Q=>∃(p:Addr) (zs:List Nat),xs=[.ref p]/\H p=some (.ext (SObj3 w p zs))/\∀l,H l=none->Q (.ref l) (upd H l (.lst (natVs zs)))
theorem vals_nats:∀{ns:List Nat} {us:List Value},Vals (natVs ns) us->∀(i:Nat) (v:Value),us[i]? =some v->∃t,v= .int (ns.getD i 0:Nat) t
 | [],_,.nil,i,v,h=>by simp at h
 |n::ns,u::us,.cons r t,0,v,h=>by
  obtain⟨tk,e⟩:=r
  have:u=v:=by simpa using h
  exact⟨tk,by rw [<-this,e];rfl⟩
 |n::ns,u::us,.cons r t,i+1,v,h=>by
  have:=vals_nats t i v (by simpa using h)
  simpa [List.getD]using this
theorem perm_map_of {α β:Type} {f:α->β} {l:List β} {xs:List α} (hp:l.Perm (xs.map f)):∃zs:List α,zs.Perm xs/\l=zs.map f:=by
 generalize hm:xs.map f=m at hp
 induction hp generalizing xs with
 |nil=>exact⟨xs,List.Perm.refl _,hm.symm⟩
 |cons a p ih=>
  match xs,hm with
  |x::xs,hm=>
   obtain⟨e1,e2⟩:=List.cons.inj hm
   obtain⟨zs,z1,z2⟩:=ih e2
   exact⟨x::zs,z1.cons x,by rw [z2, <-e1];rfl⟩
 |swap a b l=>
  match xs,hm with
  |x::y::xs,hm=>
   obtain⟨e1,e2⟩:=List.cons.inj hm
   obtain⟨e2,e3⟩:=List.cons.inj e2
   exact⟨y::x::xs,List.Perm.swap _ _ _,by rw [<-e1, <-e2, <-e3];rfl⟩
 |trans p1 p2 ih1 ih2=>
  obtain⟨zs,z1,z2⟩:=ih2 hm
  obtain⟨ys,y1,y2⟩:=ih1 z2.symm
  exact⟨ys,y1.trans z1,y2⟩
theorem sorted_uniq:∀{l m:List Int},l.Perm m->l.Pairwise (·<=·)->m.Pairwise (·<=·)->l=m
 | [],m,h,_,_=>h.nil_eq
 |a::l,[],h,_,_=>absurd h.length_eq (by simp)
 |a::l,b::m,h,h1,h2=>by
  have ha:=(List.pairwise_cons.mp h1)
  have hb:=(List.pairwise_cons.mp h2)
  have e:a=b:=by
   have m1:a∈b::m:=h.mem_iff.mp List.mem_cons_self
   have m2:b∈a::l:=h.mem_iff.mpr List.mem_cons_self
   rcases List.mem_cons.mp m1 with z|z
   ·exact z
   ·rcases List.mem_cons.mp m2 with y|y
    ·exact y.symm
    ·have:=ha.1 b y
     have:=hb.1 a z
     omega
  subst e
  rw [sorted_uniq ((List.perm_cons a).mp h) ha.2 hb.2]
section
variable {X:Cx}
theorem call_set3 (hc:X.calm=true):CallR X (.type "set") (rSet3 X.w X.K):=by
 intro pins s σ H xs us Q I r h
 obtain⟨p,ns,rfl,hq,h3,q⟩:=h
 obtain⟨u,rfl,ru⟩:=vals1 r
 cases ru
 obtain⟨its,rv,pl,hz⟩:=I.list hq
 have hlen:its.length=ns.length:=by rw [<-Vals.length rv];unfold natVs;rw [List.length_map]
 have v3:∀j,j<its.toArray.size->ns.getD j 0∈[1,2,3]:=fun j hj=>by
  rw [List.size_toArray,hlen]at hj
  have:ns.getD j 0=ns[j]:=by simp [List.getD,hj]
  rw [this]
  exact h3 _ (List.getElem_mem hj)
 refine call_set_list3 (items:=its.toArray) (val:=fun i=>ns.getD i 0) (I.ok.hd hc) pl.isList (fun i v hv=>vals_nats rv i v (by simpa using hv)) v3 fun h' tk S kp'=>?_
 have kp:∀b o,s.heap.get? b=some o->h'.get? b=some o:=fun b o e=>kp' b o (Heap.lt_size e) e
 have so:SObj3 X.w s.heap.objs.size (met3 (fun i=>ns.getD i 0) its.toArray.size) h':=S
 refine⟨.ref s.heap.objs.size,_,I.laid (t':=tk) (o:= .ext (SObj3 X.w s.heap.objs.size _)) kp (Nat.le_refl _) ⟨so,?_,fun h1 h2 p k=>?_⟩,rfl,q _ _ (I.hok.fresh (Nat.le_refl _)) (met3_sub _ _) fun z=>?_⟩
 ·obtain⟨o,_,_,e,_⟩:=so
  exact⟨o,e⟩
 ·obtain⟨o,ep,tk,e,c⟩:=p
  exact⟨o,ep,tk,k _ e,c⟩
 ·rw [met3_mem v3 _ (Nat.le_refl _) z,List.size_toArray,hlen]
  constructor
  ·rintro⟨j,hj,rfl⟩
   have:ns.getD j 0=ns[j]:=by simp [List.getD,hj]
   show ns.getD j 0∈ns
   rw [this]
   exact List.getElem_mem hj
  ·intro hz
   obtain⟨j,hj,e⟩:=List.getElem_of_mem hz
   exact⟨j,hj,by show ns.getD j 0=z;rw [<-e];simp [List.getD,hj]⟩
theorem call_sorted3 (hc:X.calm=true):CallR X (.builtin "sorted") (rSorted3 X.w):=by
 intro pins s σ H xs us Q I r h
 obtain⟨p,zs,rfl,hp,q⟩:=h
 obtain⟨u,rfl,ru⟩:=vals1 r
 cases ru
 obtain⟨so,_,_⟩:=(show ObjOk X.prog X.w H s.heap p (.ext (SObj3 X.w p zs))from I.hok p _ hp)
 obtain⟨o,ep,tk,ho,hex,hd,hz⟩:=so
 have l3:=len3 zs hz
 refine Calls.call_function_entry kind_sorted plain_sorted entry_sorted (args_sorted1 _) ?_
 unfold Builtin.«sorted»
 refine wpAny_bind (m:=checkCount "sorted" 1 1 _) (wpAny_pure ?_)
 have rise:SetTable.Rise (tab3 (!X.w.params.followText "set-order") zs).place:=by
  simp only [subs3,List.mem_cons,List.not_mem_nil,or_false]at hz
  rcases hz with rfl|rfl|rfl|rfl|rfl|rfl|rfl|rfl<;>intro i j h1 h2<;>simp [tab3]at h1 h2<;>(obtain rfl|rfl|rfl:j=0∨j=1∨j=2:=by omega)<;>(obtain rfl|rfl|rfl:i=0∨i=1∨i=2:=by omega)<;>first|(exfalso;omega)|(show(_:Nat)<_;simp [tab3])
 refine wpAny_bind (wpAny_collect_set (by simpa using I.ok.hd hc) ho hex hd (fits3 hz) rise rfl rfl (by rw [size3,sizeLine_eq];omega) fun h' tk' s1 hk=>?_)
 obtain⟨ys,py,ey⟩:=perm_map_of (f:=fun z:Nat=>Value.int (z:Int) (tk z)) (l:=setOrd X.w p (ents3 zs tk) ep) (xs:=zs) (by
  have:=setOrd_perm X.w p (ents3 zs tk) ep
  have e:(ents3 zs tk).toList.map (·.2)=zs.map fun z:Nat=>Value.int (z:Int) (tk z):=by simp [ents3]
  rw [e]at this
  exact this)
 rw [ey]
 have hi:IntsAre (ys.map fun z:Nat=>Value.int (z:Int) (tk z)) (ys.map fun z:Nat=>(z:Int)):=by
  clear py ey
  induction ys with
  |nil=>exact .nil
  |cons a l ih=>exact .cons _ _ ih
 generalize (ys.map fun z:Nat=>Value.int (z:Int) (tk z))=vs at hi
 have hal:vs.length=ys.length:=by rw [hi.length,List.length_map]
 have yl:=py.length_eq
 refine wpAny_bind (wpAny_newList ?_ (by rw [sizeLine_eq];omega))
 have hoL:(h'.push (seqObj "list" vs.toArray 0)).get? h'.objs.size=some (seqObj "list" vs.toArray 0):=Heap.get?_push_size _ rfl
 refine wpAny_bind (wpAny_holding (wpAny_call_entry slot_list_sort ⟨_,hoL,rfl⟩ entry_list_sort (list_sort_tree hoL hi (by omega) fun out ms a1 a2 a3=>⟨_,rfl,?_⟩) (args_list_sort _)))
 refine wpAny_pure ⟨_,rfl,?_⟩
 obtain⟨e,he⟩:=sortedHeap_at (vs:=vs) (out:=out) hoL
 have hsz:h'.objs.size<(h'.push (seqObj "list" vs.toArray 0)).objs.size:=by rw [Heap.size_push];exact Nat.lt_succ_self _
 have keep:∀b o,s.heap.get? b=some o->(sortedHeap (h'.push (seqObj "list" vs.toArray 0)) h'.objs.size vs out).get? b=some o:=fun b o eb=>by
  have e1:=hk b o eb
  have hlt:=Heap.lt_size e1
  rw [sortedHeap_old (Nat.ne_of_lt hlt) (Nat.lt_trans hlt hsz)]
  exact Heap.get?_push_of_some _ e1
 have hge:s.heap.objs.size<=h'.objs.size:=Nat.le_of_lt s1
 have es:ms=zs.map fun z:Nat=>(z:Int):=sorted_uniq (a2.trans (py.map _)) a3 (by
  simp only [subs3,List.mem_cons,List.not_mem_nil,or_false]at hz
  rcases hz with rfl|rfl|rfl|rfl|rfl|rfl|rfl|rfl<;>decide)
 have en:ms.map V.int=natVs zs:=by rw [es,List.map_map];rfl
 refine⟨.ref h'.objs.size,_,I.laid (t':=tk') (o:= .lst (ms.map V.int)) keep hge ⟨?_,out.toList,e,valsOfInts a1,by simpa using he⟩,rfl,by rw [en];exact q _ (I.hok.fresh hge)⟩
 rw [List.length_map,a2.length_eq,List.length_map,sizeLine_eq]
 omega
end
structure Dis (P:Program) (w:World) (K:PySem.W.Frag) (mg:Str->Option Value) (base:Heap) (CX:CXT) (k:Nat) (Cs:Addr->Prop) (m:Str) (ps:List Str) (sp:Addr->Sp):Prop where
 ex:∀C,Cs C->Cls K C/\∃f fd,Meth K C m f/\FnOk P w K mg base CX k f fd ps (sp C)/\Binds K fd ps []
def tMethD (Cs:Addr->Prop) (m:Str) (sp:Addr->Sp) (E:XK) (ta:TE) (t:TA):TE:=fun σ H Q=>ta σ H fun x H1=>∃a C dx fs,x= .ref a/\H1 a=some (.ins C dx fs)/\Cs C/\fs.lookup m=none/\t σ H1 fun vs H2=>sp C (.ref a::vs) H2 Q E
section
variable {X:Cx} {CX:CXT} {k:Nat} {Cs:Addr->Prop} {m:Str} {ps:List Str} {sp:Addr->Sp} {E:XK} {o e:Expr} {es:List Expr} {ta:TE} {t:TA} {apos pos:Pos}
theorem pe_methD {pl:Sem Bool} (he:PE X o ta) (D:Dis X.prog X.w X.K X.mg X.base CX k Cs m ps sp) (hr:Room k X.A) (hx:Passes CX X E) (ha:PA X (e::es) t)
  (hst:starEach (e::es) X.env=(false,eval e X.env)::starEach es X.env:=by rfl) (hpl:(backTo pos (starEach es X.env)).any (·.1)=false:=by rfl)
  (ht:eval (.Call (.Attribute o m apos) (e::es) [] pos) X.env=(do
   let ov<-eval o X.env
   standAt apos.atName
   let(f,first)<-holding [ov] (getMethod ov m pl)
   callWith pos f first (backTo pos (starEach (e::es) X.env)) (backToKw pos (keywordEach [] X.env))):=by rfl):
  PE X (.Call (.Attribute o m apos) (e::es) [] pos) (tMethD Cs m sp E ta t):=by
 intro pins s σ H Q I h
 refine PySem.W.methodCall_KW (pl:=pl) (thn (he pins s σ H _ I h) fun u s1 ⟨x,H1,I1,rx,a,C,dx,fs,ex,ea,hC,l,q⟩=>?_) ht
 subst ex
 obtain rfl:u=Value.ref a:=rx
 obtain⟨c,f,fd,hm,F,hb⟩:=D.ex C hC
 refine getmeth_ok I1 ea c hm l ?_
 refine PySem.W.callWith_K (first:=[.ref a]) (h₀:=X.base) I.ok.mod.kin hm.kp (thn (ha pos pins s1 σ H1 _ I1 q) fun us s2 ⟨vs,H2,I2,r,q2⟩=>⟨I2.kIn,?_⟩) hst hpl
 exact run_fn (us:= .ref a::us) (vs:= .ref a::vs) F hr hb .nil hx I2 (.cons rfl r) (by rw [List.append_nil];exact q2)
theorem pe_methD0 {pl:Sem Bool} (he:PE X o ta) (D:Dis X.prog X.w X.K X.mg X.base CX k Cs m ps sp) (hr:Room k X.A) (hx:Passes CX X E)
  (ht:eval (.Call (.Attribute o m apos) [] [] pos) X.env=(do
   let ov<-eval o X.env
   standAt apos.atName
   let(f,first)<-holding [ov] (getMethod ov m pl)
   callWith pos f first (backTo pos (starEach [] X.env)) (backToKw pos (keywordEach [] X.env))):=by rfl):
  PE X (.Call (.Attribute o m apos) [] [] pos) (tMethD Cs m sp E ta tNil):=by
 intro pins s σ H Q I h
 refine PySem.W.methodCall_KW (pl:=pl) (thn (he pins s σ H _ I h) fun u s1 ⟨x,H1,I1,rx,a,C,dx,fs,ex,ea,hC,l,q⟩=>?_) ht
 subst ex
 obtain rfl:u=Value.ref a:=rx
 obtain⟨c,f,fd,hm,F,hb⟩:=D.ex C hC
 refine getmeth_ok I1 ea c hm l ?_
 exact PySem.W.callWith_K0 (first:=[.ref a]) I1.kIn hm.kp (run_fn (us:=[.ref a]) (vs:=[.ref a]) F hr hb .nil hx I1 (.cons rfl .nil) q)
end
def constV:Expr->Option V
 | .Constant (.int i) _ _=>some (.int i)
 | .Constant (.bool b) _ _=>some (.bl b)
 | .Constant (.str x) _ _=>some (.str x)
 | .Constant .none _ _=>some .non
 | .UnaryOp .USub (.Constant (.int i) _ _) _=>some (.int (-i))
 |_=>none
def constVs:List Expr->Option (List V)
 | []=>some []
 |e::es=>match constV e with
  |none=>none
  |some v=>match constVs es with
   |none=>none
   |some vs=>some (v::vs)
def tKL (vs:List V):TE:=fun _ H Q=>vs.length<=sizeLine/\∀p,H p=none->Q (.ref p) (upd H p (.lst vs))
section
variable {X:Cx}
theorem const_ok {e:Expr} {v:V} (h:constV e=some v):PE X e (tC v)/\∀es,starEach (e::es) X.env=(false,eval e X.env)::starEach es X.env:=by
 unfold constV at h
 split at h
 ·cases h;exact⟨pe_int,fun _=>rfl⟩
 ·cases h;exact⟨pe_bl,fun _=>rfl⟩
 ·cases h;exact⟨pe_str,fun _=>rfl⟩
 ·cases h;exact⟨pe_non,fun _=>rfl⟩
 ·cases h
  refine⟨fun pins s σ H Q I q=>pe_un un_neg pe_int pins s σ H Q I ⟨_,rfl,q⟩,fun _=>rfl⟩
 ·cases h
theorem pa_consts:∀{es:List Expr} {vs:List V},constVs es=some vs->PA X es (fun _ H Q=>Q vs H)
 | [],vs,h=>by
  cases h
  exact pa_nil
 |e::es,vs,h=>by
  unfold constVs at h
  cases g:constV e with
  |none=>rw [g]at h;cases h
  |some v=>
   cases g2:constVs es with
   |none=>rw [g,g2]at h;cases h
   |some us=>
    rw [g,g2]at h
    cases h
    obtain⟨h1,h2⟩:=const_ok (X:=X) g
    exact pa_cons h1 (pa_consts g2) (h2 es)
theorem pe_clst {es:List Expr} {vs:List V} {pos:Pos} (h:constVs es=some vs):PE X (.List es pos) (tKL vs):=pe_lst (pa_consts h)
end
def rIsC (K:PySem.W.Frag):List V->Hp->VK->Prop:=fun xs H Q=>∃x C t b,xs=[x,.ref C]/\TyOf K H x t/\PySem.W.kitOne K t (.ref C)=some b/\Q (.bl b) H
theorem call_isC {X:Cx} {K:PySem.W.Frag} (h:X.K=K):CallR X (.builtin "isinstance") (rIsC K):=by
 subst h
 intro pins s σ H xs us Q I r h
 obtain⟨x,C,t,b,rfl,ty,e,q⟩:=h
 obtain⟨u,w',rfl,ru,rw'⟩:=vals2 r
 cases rw'
 exact isinst_ok I ru ty e fun tk=>⟨.bl b,H,I.tok tk,rfl,q⟩
abbrev PKey:=Key×List Key
def PKd (H:Hp) (x:PKey) (b:Addr):Prop:=∃c,H b=some (.tup [kV x.1,.ref c])/\H c=some (.tup (x.2.map kV))
def PObj (P:Program) (w:World) (a:Addr) (xs:List (PKey×Addr×Value)) (h:Heap):Prop:=(a==sysModules)=false/\∃o es ep,h.get? a=some o/\o.ExactDict/\o.data= .dict es ep/\es.toList=xs.map (entryOfKey (pairKind (mixKind P w)))/\(xs.map (·.1)).Nodup
abbrev KP (H:Hp):List (PKey×V)->List (PKey×Addr×Value)->Prop:=Paired fun p q=>p.1=q.1/\PKd H p.1 q.2.1/\RelV p.2 q.2.2
def PDict (P:Program) (w:World) (H:Hp) (a:Addr) (kvs:List (PKey×V)):Prop:=kvs.length<=sizeLine/\∃xs,H a=some (.ext (PObj P w a xs))/\KP H kvs xs
theorem PKd.mono {H H':Hp} {x:PKey} {b:Addr} (k:∀c ys,H c=some (.tup ys)->H' c=some (.tup ys)) (h:PKd H x b):PKd H' x b:=let⟨c,h1,h2⟩:=h;⟨c,k _ _ h1,k _ _ h2⟩
theorem KP.mono {H H':Hp} {kvs:List (PKey×V)} {xs:List (PKey×Addr×Value)} (k:∀c ys,H c=some (.tup ys)->H' c=some (.tup ys)) (r:KP H kvs xs):KP H' kvs xs:=Paired.mapP r fun _ _ z=>⟨z.1,z.2.1.mono k,z.2.2⟩
theorem KP.val {H:Hp} {kvs:List (PKey×V)} {xs:List (PKey×Addr×Value)} (r:KP H kvs xs) (k:PKey):RelO (valV kvs k) ((atKey xs k).map (·.2)):=by
 induction r with
 |nil=>exact True.intro
 |@cons p q ps qs h t ih=>
  obtain⟨h1,_,h2⟩:=h
  by_cases e:p.1=k
  ·have e':q.1=k:=h1.symm.trans e
   have b:atKey (q::qs) k=some q.2:=by simp [atKey,List.find?_cons,e']
   rw [valV_pos e,b];exact h2
  ·have e':¬q.1=k:=fun z=>e (h1.trans z)
   have b:atKey (q::qs) k=atKey qs k:=by simp [atKey,List.find?_cons,e']
   rw [valV_neg e,b];exact ih
theorem KP.repl {H:Hp} {kvs:List (PKey×V)} {xs:List (PKey×Addr×Value)} (r:KP H kvs xs) (k:PKey) {y:V} {u:Value} (ry:RelV y u):KP H (kvs.map fun kv=>if kv.1=k then(kv.1,y)else kv) (xs.map (putAt k u)):=by
 induction r with
 |nil=>exact .nil
 |@cons p q ps qs h t ih=>
  rw [List.map_cons,List.map_cons]
  refine .cons ?_ ih
  obtain⟨h1,h2,h3⟩:=h
  unfold putAt
  by_cases e:p.1=k
  ·rw [if_pos e,if_pos (h1.symm.trans e)];exact⟨h1,h2,ry⟩
  ·rw [if_neg e,if_neg (fun z=>e (h1.trans z))];exact⟨h1,h2,h3⟩
theorem KP.put {H:Hp} {kvs:List (PKey×V)} {xs:List (PKey×Addr×Value)} (r:KP H kvs xs) (k:PKey) {b:Addr} {y:V} {u:Value} (hb:PKd H k b) (ry:RelV y u):KP H (putK kvs k y) (storedH xs k b u):=by
 have e:(kvs.any fun kv=>decide (kv.1=k))=(atKey xs k).isSome:=by
  rw [valV_any,(r.val k).isSome_eq,Option.isSome_map]
 unfold putK storedH
 rw [e]
 by_cases q:(atKey xs k).isSome=true
 ·rw [if_pos q,if_pos q];exact r.repl k ry
 ·rw [if_neg q,if_neg q];exact Paired.snoc r ⟨rfl,hb,ry⟩
section
variable {P:Program} {w:World} {H:Hp} {h:Heap} {a:Addr}
theorem pkd_of {x:PKey} (ok:HOk P w H h) (e:PKd H x a):(pairKind (mixKind P w)).is h x a:=by
 obtain⟨c,e1,e2⟩:=e
 obtain⟨_,its,r,o,h1,h2,n,h3⟩:=(show ObjOk P w H h a (.tup [kV x.1,.ref c])from ok a _ e1)
 cases r with
 |@cons _ v _ _ r1 t=>
  cases t with
  |@cons _ v2 _ _ r2 t2=>
   cases t2
   cases (show v2=Value.ref c from r2)
   exact⟨o,v,c,n,h1,h2,h3,kV_is r1,key_of ok e2⟩
theorem pd_of {kvs:List (PKey×V)} (ok:HOk P w H h) (e:PDict P w H a kvs):kvs.length<=sizeLine/\(a==sysModules)=false/\∃xs,H a=some (.ext (PObj P w a xs))/\KP H kvs xs/\h.DictOfH (pairKind (mixKind P w)) a xs:=by
 obtain⟨z,xs,ea,r⟩:=e
 obtain⟨⟨y,o,es,ep,h1,h2,h3,h4,h5⟩,_,_⟩:=(show ObjOk P w H h a (.ext (PObj P w a xs))from ok a _ ea)
 refine⟨z,y,xs,ea,r,o,es,ep,h1,h2,h3,h4,fun x hx=>?_,h5⟩
 have all:∀{l:List (PKey×V)} {m:List (PKey×Addr×Value)},KP H l m->∀x∈m,(pairKind (mixKind P w)).is h x.1 x.2.1:=by
  intro l m q
  induction q with
  |nil=>intro x hx;exact nomatch hx
  |@cons p q ps qs hq t ih=>
   intro x hx
   rcases List.mem_cons.mp hx with e|hx
   ·subst e
    exact pkd_of ok (by rw [<-hq.1];exact hq.2.1)
   ·exact ih x hx
 exact all r x hx
end
theorem PObj.stay {P:Program} {w:World} {a:Addr} {xs:List (PKey×Addr×Value)} (h1 h2:Heap) (p:PObj P w a xs h1) (k:∀o,h1.get? a=some o->h2.get? a=some o):PObj P w a xs h2:=let⟨y,o,es,ep,e,c⟩:=p;⟨y,o,es,ep,k _ e,c⟩
section
variable {X:Cx} {pins:List (Addr×Obj)} {σ:St} {H:Hp} {s:Shared} {a b:Addr} {v:V} {r:Value} {kvs:List (PKey×V)} {k:PKey} {A:Around} {E:Value->Shared->Prop}
theorem p_getItem {Q:Value->Shared->Prop} (hu:A.units+2<cLine) (I:Inv X pins σ H s) (e:PDict X.prog X.w H a kvs) (eb:PKd H k b) (l:valV kvs k=some v) (h:∀w' s',Inv X pins σ H s'->RelV v w'->Q w' s'):wpAny (model X.prog X.w) A (getItem (.ref a) (.ref b)) Q E s:=by
 obtain⟨z,hd,xs,ea,rel,dd⟩:=pd_of I.hok e
 obtain⟨w',hw,rw'⟩:=RelO.some_of (v:=v) (o:=(atKey xs k).map (·.2)) (by rw [<-l];exact rel.val k)
 obtain⟨p,hp,hp2⟩:=Option.map_eq_some_iff.mp hw
 refine wpAny_getItem_heap (show A.in1.units+1<cLine from hu) (pkd_of I.hok eb) dd hp ?_
 rw [hp2]
 exact h w' _ (I.tok _) rw'
end
section
variable {X:Cx} {pins:List (Addr×Obj)} {σ:St} {H:Hp} {s:Shared} {a b:Addr} {kvs:List (PKey×V)} {k:PKey} {A:Around} {E:Value->Shared->Prop}
theorem pd_typeIs (I:Inv X pins σ H s) (e:PDict X.prog X.w H a kvs):s.TypeIs (.ref a) "dict":=by
 obtain⟨_,_,xs,_,_,o,es,ep,h1,h2,_⟩:=pd_of I.hok e
 exact⟨o,h1,h2.1⟩
end
def tPGet (P:Program) (w:World) (td ty:TE):TE:=fun σ H Q=>td σ H fun x H1=>ty σ H1 fun y H2=>∃a b kvs k v,x= .ref a/\y= .ref b/\PDict P w H2 a kvs/\PKd H2 k b/\valV kvs k=some v/\Q v H2
section
variable {X:Cx} {o i value:Expr} {pos pos':Pos} {td ty tv:TE}
theorem pe_pget (hu:X.A.units+2<cLine) (ho:PE X o td) (hi:PE X i ty) (hs:NoSl i):PE X (.Subscript o i pos) (tPGet X.prog X.w td ty):=by
 intro pins s σ H Q I h
 refine subD_of PySem.F.slot_dict_getitem.lookup hs (thn (ho pins s σ H _ I h) fun u s1 ⟨x,H1,I1,rx,q1⟩=>thn (hi pins s1 σ H1 _ I1 q1) fun iv s2 ⟨y,H2,I2,ry,a,b,kvs,k,v,ex,ey,e,eb,l,q2⟩=>?_)
 subst ex ey
 obtain rfl:u=Value.ref a:=rx
 obtain rfl:iv=Value.ref b:=ry
 exact⟨pd_typeIs I2 e,p_getItem hu I2 e eb l fun w' s3 I3 rw'=>⟨v,H2,I3,rw',q2⟩⟩
end
section
variable {X:Cx} {o e:Expr} {apos cpos:Pos} {td ty:TE}
def CMulB (i j:Int):Prop:=i.natAbs<2 ^ 2000/\j.natAbs<2 ^ 2000
theorem bits_B {i:Int} (h:i.natAbs<2 ^ 2000):Builtin.Int.intBits i<=2000:=by
 unfold Builtin.Int.intBits
 split
 ·exact Nat.zero_le _
 ·rename_i hn
  have h0:i.natAbs≠0:=fun z=>hn (by rw [Int.natAbs_eq_zero.mp z];rfl)
  exact(Nat.log2_lt h0).mpr h
theorem CMulB.ok {i j:Int} (h:CMulB i j):IntMulOk i j:=by
 have h1:=bits_B h.1
 have h2:=bits_B h.2
 unfold IntMulOk
 intro z
 rw [Bool.and_eq_true]at z
 have z2:=z.2
 unfold Builtin.Int.intTooBig at z2
 have z3:=of_decide_eq_true z2
 have:(4000:Int)<=bitsLine:=by decide
 omega
theorem op_mulB:OpR X (binaryOp .Mult) (rI CMulB fun i j=> .int (i*j)):=opI fun _ _ _ _ _ _ _ hc q=>mul_int q hc.ok
end
section
variable {X:Cx}
theorem call_any:CallR X (.builtin "any") (fun xs H Q=>∃(p:Addr) (bs:List Bool),xs=[.ref p]/\SqL X.K H p (bs.map V.bl)/\X.calm=true/\Q (.bl (bs.any id)) H):=by
 intro pins s σ H xs us Q I r h
 obtain⟨p,bs,rfl,hq,hc,q⟩:=h
 obtain⟨u,rfl,ru⟩:=vals1 r
 cases ru
 obtain⟨its,rv,pl,hz⟩:=I.list hq
 have hl:=rv.length
 rw [List.length_map]at hl
 refine call_any_walk (wpAny_pyIter_list pl.isList ?_)
 have hlt:p<s.heap.objs.size:=by obtain⟨o,e,_⟩:=pl.isList;exact Heap.lt_size e
 have hne:p≠s.heap.objs.size:=Nat.ne_of_lt hlt
 have hd:X.A.in1.handled=none:=I.ok.hd hc
 refine⟨s.heap.objs.size,_,_,_,_,_,fun i=>bs.getD i false,rfl,Walks.list hd s.heap.objs.size p hne its.toArray,⟨⟨_,Heap.get?_push_size _ rfl,rfl,rfl⟩,pl.isList.push _⟩,fun i v s' Q' E' hv hQ=>?_,fun h' tk hk=>?_⟩
 ·have hv':its[i]? =some v:=by simpa using hv
  have hi:i<its.length:=(List.getElem?_eq_some_iff.mp hv').1
  have hi':i<bs.length:=by omega
  have e1:(bs.map V.bl)[i]? =some (V.bl bs[i]):=by simp [hi']
  obtain⟨u,hu,ru⟩:=rv.get e1
  rw [hv']at hu
  cases hu
  have ru':v=Value.bool bs[i]:=ru
  subst ru'
  have e2:bs.getD i false=bs[i]:=by simp [hi']
  have hQ':Q' (bs.getD i false) s':=hQ
  rw [e2]at hQ'
  exact wpAny_truthy_bool hQ'
 ·refine⟨.bl (bs.any id),H,?_,?_,q⟩
  ·exact I.kept (t':=tk) fun b o e=>hk b o (by simp;exact Nat.ne_of_lt (Heap.lt_size e)) (Heap.get?_push_of_some _ e)
  ·show Value.bool _=Value.bool _
   congr 1
   have e:its.toArray.size=bs.length:=by rw [List.size_toArray];omega
   rw [e]
   have:∀l:List Bool,(List.range l.length).any (fun i=>l.getD i false)=l.any id:=by
    intro l
    induction l with
    |nil=>rfl
    |cons b l ih=>
     rw [List.length_cons,List.range_succ_eq_map,List.any_cons,List.any_cons,List.any_map, <-ih]
     congr 1
   exact this bs
end
def tx (l:List Nat):Str:=⟨l.toArray⟩
theorem tx_cps (l:List Nat):(tx l).cps.toList=l:=List.toList_toArray
theorem tx_len (l:List Nat):(tx l).length=l.length:=by show l.toArray.size=_;rw [List.size_toArray]
theorem tx_inj {l m:List Nat} (h:tx l=tx m):l=m:=by rw [<-tx_cps l,h,tx_cps]
theorem tx_of (z:Str):z=tx z.cps.toList:=by cases z;unfold tx;rw [Array.toArray_toList]
theorem tx_app (l m:List Nat):tx l++tx m=tx (l++m):=by
 rw [tx_of (tx l++tx m)]
 congr 1
 show((tx l).cps++(tx m).cps).toList=_
 rw [Array.toList_append,tx_cps,tx_cps]
section
variable {X:Cx}
def rSlS:V->Option Int->Option Int->Hp->VK->Prop:=fun x lo hi H Q=>∃(z:List Nat) (a b:Nat),x= .str (tx z)/\lo=some (a:Int)/\hi=some (b:Int)/\a<=b/\z.length<=sizeLine/\Q (.str (tx ((z.drop a).take (b-a)))) H
theorem idx_clip (a b n:Nat):Builtin.Str.strSliceIndices (some (a:Int)) (some (b:Int)) 1 n=Builtin.Str.strSliceIndices (some ((min a n:Nat):Int)) (some ((min b n:Nat):Int)) 1 n:=by
 have h1:¬((a:Int)<0):=by omega
 have h2:¬((b:Int)<0):=by omega
 have h3:¬(((min a n:Nat):Int)<0):=by omega
 have h4:¬(((min b n:Nat):Int)<0):=by omega
 have e1:max (0:Int) (min (a:Int) (n:Int))=max (0:Int) (min ((min a n:Nat):Int) (n:Int)):=by omega
 have e2:max (0:Int) (min (b:Int) (n:Int))=max (0:Int) (min ((min b n:Nat):Int) (n:Int)):=by omega
 simp only [Builtin.Str.strSliceIndices,h1,h2,h3,h4,if_false,e1,e2,show((1:Int)>0)=True from by simp,if_true]
theorem sl_str:SlR X rSlS:=by
 intro pins s σ H x v vl vu lo hi sl Q I rx hs pl pu h
 obtain⟨z,a,b,rfl,rfl,rfl,hab,hz,q⟩:=h
 obtain⟨t,rfl⟩:=rx
 cases pl with
 |int i ti=>
  cases pu with
  |int j tj=>
   obtain⟨o,ho,hc,hd⟩:=hs
   refine⟨"str",_,F.slot_str_getitem.lookup,typeIs_str _ _ _,wpAny_getItem_str_slice (l:=some ((a:Int),ti)) (u:=some ((b:Int),tj)) (st:=none) ⟨o,ho,hc,hd⟩ rfl ?_⟩
   have hl:=tx_len z
   have pk:(slicePicked (tx z) (some ((a:Int),ti)) (some ((b:Int),tj)) none).filterMap ((tx z).cps[·]?)=(z.drop a).take (b-a):=by
    show(Builtin.Str.strSliceIndices (some (a:Int)) (some (b:Int)) 1 (tx z).length).filterMap _=_
    rw [idx_clip,StrLaws.sliced_plain (tx z) (by omega) (by omega),tx_cps,hl]
    rcases Nat.lt_or_ge a z.length with g|g
    ·rw [Nat.min_eq_left (Nat.le_of_lt g)]
     rcases Nat.lt_or_ge b z.length with g2|g2
     ·rw [Nat.min_eq_left (Nat.le_of_lt g2)]
     ·rw [Nat.min_eq_right g2,List.take_of_length_le (by rw [List.length_drop];omega),List.take_of_length_le (by rw [List.length_drop];omega)]
    ·rw [Nat.min_eq_right g,List.drop_of_length_le (Nat.le_refl _),List.drop_of_length_le g,List.take_nil,List.take_nil]
   unfold sliceMade
   split
   ·rename_i hw
    simp only [Option.map_none,Option.getD_none,beq_self_eq_true,Bool.true_and,beq_iff_eq]at hw
    have e:(z.drop a).take (b-a)=z:=by
     have hl2:((z.drop a).take (b-a)).length=z.length:=by
      rw [<-pk]
      have:(slicePicked (tx z) (some ((a:Int),ti)) (some ((b:Int),tj)) none).length=z.length:=by rw [hw,hl]
      have key:=this
      have all:∀i∈slicePicked (tx z) (some ((a:Int),ti)) (some ((b:Int),tj)) none,((tx z).cps[i]?).isSome=true:=by
       intro i hi
       have:slicePicked (tx z) (some ((a:Int),ti)) (some ((b:Int),tj)) none=(List.range (min b z.length-min a z.length)).map (fun k=>min a z.length+k):=by
        show Builtin.Str.strSliceIndices (some (a:Int)) (some (b:Int)) 1 (tx z).length=_
        rw [idx_clip,hl,StrLaws.strSliceIndices_plain (by omega) (by omega)]
       rw [this]at hi
       obtain⟨k,hk,rfl⟩:=List.mem_map.mp hi
       have hk:=List.mem_range.mp hk
       have:min a z.length+k<(tx z).cps.size:=by show _<(tx z).length;rw [hl];omega
       simp [this]
      rw [List.length_filterMap_eq_countP,List.countP_eq_length.mpr all]
      exact key
     have:((z.drop a).take (b-a)).length<=(z.drop a).length:=by rw [List.length_take];omega
     rw [List.length_drop]at this
     rcases Nat.eq_zero_or_pos z.length with g|g
     ·rw [List.length_eq_zero_iff.mp g];simp
     ·have:a=0:=by omega
      subst this
      rw [List.drop_zero]at hl2⊢
      exact List.take_of_length_le (by rw [List.length_take]at hl2;omega)
    rw [e]at q
    exact⟨.str (tx z),H,I,⟨t,rfl⟩,q⟩
   ·rw [pk]
    exact⟨by show(tx ((z.drop a).take (b-a))).length<=sizeLine;rw [tx_len,List.length_take,List.length_drop];omega,.str (tx ((z.drop a).take (b-a))),H,I.tok _,⟨_,rfl⟩,q⟩
end
def Its (z:List Nat):It:=⟨fun i _=>i<z.length,fun i H x H'=>H'=H/\∃c,z[i]? =some c/\x= .str (tx [c]),fun i _=>z.length<=i⟩
theorem turn_str {P:Program} {w:World} {K:PySem.W.Frag} {tg:Expr} (it:Addr) (z:List Nat) (t:Tok):Turn P w K tg (Its z) [it] it (fun i h=>h.IsStrIter it "str_ascii_iterator" (tx z) t i) where
 mem:=by simp
 obj:=fun i h st b hb=>by
  have e:b=it:=by simpa using hb
  subst e
  obtain⟨o,e,c,d⟩:=st
  exact⟨o,e,fun v z=>by rw [d]at z;cases z⟩
 keep:=fun i h h' st k=>let⟨o,ho,r⟩:=st;⟨o,k it (by simp) o ho,r⟩
 item:=by
  intro X hP hw hK hc i pins s σ H E I hf st hg
  subst hP hw hK
  obtain⟨f0,f1,f2,f3,f4,f5⟩:=hf it (by simp)
  have hx:(tx z).cps[i]? =some (z[i]'hg):=by
   show z.toArray[i]? =_
   rw [List.getElem?_toArray,List.getElem?_eq_getElem hg]
  refine wpAny_pyNext_ascii_item st hx fun h' st' sb=>?_
  have I1:Inv X pins σ H {s with heap:=h',toks:=s.toks+1}:=I.turned (fun b o hb e=>(sb.2 b hb).trans e) f0 f1 f3 f4 f5
  obtain⟨o,e,c,d⟩:=id st'
  exact⟨_,rfl,go_of (s:={s with heap:=h',toks:=s.toks+1}) e c d (by decide) ⟨.str (tx [z[i]'hg]),H,I1,⟨_,rfl⟩,⟨rfl,_,List.getElem?_eq_getElem hg,rfl⟩,st',fun b hb=>(hf b hb).1⟩⟩
 done:=by
  intro X hP hw hK hc i pins s σ H E I hf st hg
  subst hP hw hK
  obtain⟨f0,f1,f2,f3,f4,f5⟩:=hf it (by simp)
  have hx:(tx z).cps[i]? =none:=by
   show z.toArray[i]? =_
   rw [List.getElem?_toArray,List.getElem?_eq_none hg]
  exact wpAny_pyNext_ascii_end (I.ok.hd hc) st hx fun h' eb=>⟨rfl,I.turned (t':=s.toks) (fun b o hb e=>eb b o hb e) f0 f1 f3 f4 f5⟩
 self:=fun _ _ _ _ _ st h=>wpAny_pyIter_striter_ascii st h
section
variable {X:Cx} {tg:Expr}
def iStr (te:TE):TI:=fun σ H R=>te σ H fun x H1=>∃z:List Nat,x= .str (tx z)/\(∀c∈z,c<128)/\R (Its z) H1
theorem pi_str {l:Expr} {tl:TE} (hl:PE X l tl):PI X tg l (iStr tl):=by
 intro pins s σ H R I h
 refine thn (hl pins s σ H _ I h) fun v s1 ⟨x,H1,I1,r1,q1⟩=>?_
 obtain⟨z,rfl,ha,q⟩:=q1
 obtain⟨t,rfl⟩:=r1
 refine wpAny_pyIter_ascii (by
  show z.toArray.all (·<128)=true
  rw [List.all_toArray,List.all_eq_true]
  exact fun c hc=>decide_eq_true (ha c hc)) ?_
 refine⟨s1.heap.objs.size,[s1.heap.objs.size],_,_,H1,rfl,I1.kept (t':=s1.toks) fun b o e=>Heap.get?_push_of_some _ e,turn_str _ z t,⟨_,Heap.get?_push_size _ rfl,rfl,rfl⟩,fun b hb=>?_,q⟩
 have e:b=s1.heap.objs.size:=by simpa using hb
 subst e
 exact I1.fpOk (Nat.le_refl _) (I1.hok.fresh (Nat.le_refl _))
theorem for_str {z:List Nat} {g:TG} {tb:TS} {D:Ends} {σ:St} {H:Hp} (Pv:Nat->St->Hp->Prop) (h0:Pv 0 σ H)
  (hs:∀i c σ H,z[i]? =some c->Pv i σ H->g (.str (tx [c])) σ H fun σ2 H2=>tb {D with nx:=Pv (i+1),ct:=Pv (i+1),bk:=D.nx} σ2 H2) (hd:∀σ H,Pv z.length σ H->D.nx σ H):
  ∃W:Nat->Nat->St->Hp->Prop,(∃m,W 0 m σ H)/\∀i m σ H,W i m σ H->
   ((Its z).stop i H/\D.nx σ H)∨((Its z).go i H/\∃N:St->Hp->Prop,(∀σ' H',N σ' H'->∃m',m'<m/\W (i+1) m' σ' H')/\∀x H',(Its z).yld i H x H'->g x σ H' fun σ2 H2=>tb {D with nx:=N,ct:=N,bk:=D.nx} σ2 H2):=by
 refine⟨fun i m σ H=>m=z.length-i/\i<=z.length/\Pv i σ H,⟨z.length,by simp,Nat.zero_le _,h0⟩,?_⟩
 rintro i m σ H ⟨rfl,hi,p⟩
 by_cases hlt:i<z.length
 ·refine .inr ⟨hlt,Pv (i+1),fun σ' H' p'=>⟨z.length-(i+1),by omega,rfl,hlt,p'⟩,fun x H' y=>?_⟩
  obtain⟨e,c,hc,ex⟩:=y
  subst e ex
  exact hs i c σ _ hc p
 ·have e:i=z.length:=by omega
  subst e
  exact .inl ⟨Nat.le_refl _,hd σ H p⟩
def glu (sep:List Nat):List (List Nat)->List Nat
 | []=>[]
 | [x]=>x
 |x::y::r=>x++(sep++glu sep (y::r))
theorem glu_join (sep:List Nat):∀ls:List (List Nat),Str.join (tx sep) (ls.map tx)=tx (glu sep ls)
 | []=>rfl
 | [x]=>rfl
 |x::y::r=>by
  show tx x++tx sep++Str.join (tx sep) ((y::r).map tx)=_
  rw [glu_join sep (y::r),tx_app,tx_app,glu,List.append_assoc]
theorem fold_len (n:Nat):∀(ls:List (List Nat)) (a:Nat),(ls.map tx).foldl (fun acc s=>acc+s.length+n) a=a+((ls.map List.length).sum+ls.length*n)
 | [],a=>by simp
 |x::r,a=>by
  rw [List.map_cons,List.foldl_cons,fold_len n r,tx_len,List.map_cons,List.sum_cons,List.length_cons,Nat.succ_mul]
  omega
theorem vals_strs:∀{ls:List (List Nat)} {us:List Value},Vals (ls.map fun l=>V.str (tx l)) us->∃l:List (Str×Tok),strValues l=us/\l.map (·.1)=ls.map tx
 | [],_,.nil=>⟨[],rfl,rfl⟩
 |x::ls,_,.cons r1 t=>by
  obtain⟨l,e1,e2⟩:=vals_strs t
  obtain⟨tk,rfl⟩:=r1
  exact⟨(tx x,tk)::l,by rw [<-e1];rfl,by rw [List.map_cons,e2];rfl⟩
def rJoin:V->List V->Hp->VK->Prop:=fun x xs H Q=>∃(sep:List Nat) (p:Addr) (ls:List (List Nat)),x= .str (tx sep)/\xs=[.ref p]/\H p=some (.lst (ls.map fun l=>V.str (tx l)))/\(ls.map List.length).sum+ls.length*sep.length<=100000/\Q (.str (tx (glu sep ls))) H
theorem mt_join:MtR X "str.join" rJoin:=by
 intro pins s σ H x xs v us Q I rx rv h
 obtain⟨sep,p,ls,rfl,rfl,hp,hz,q⟩:=h
 obtain⟨t,rfl⟩:=rx
 obtain⟨u,rfl,ru⟩:=vals1 rv
 cases ru
 obtain⟨its,r,pl,_⟩:=I.list (SqL.of hp)
 obtain⟨l,e1,e2⟩:=vals_strs r
 have ok:JoinOk (tx sep) (ls.map tx)=true:=by
  have:Builtin.Str.tooLong ((ls.map tx).toArray.foldl (fun acc s=>acc+s.length+(tx sep).length) 0)=false:=by
   rw [List.foldl_toArray,fold_len,tx_len]
   unfold Builtin.Str.tooLong
   rw [decide_eq_false_iff_not,sizeLine_eq]
   omega
  unfold JoinOk
  rw [this]
  rfl
 refine SC.join (l:=l) (texts:=ls.map tx) (by rw [e1];exact pl.isList) e2 ok fun t' k=>⟨.str (tx (glu sep ls)),H,I.tok k,⟨t',?_⟩,q⟩
 show Value.str (Builtin.Str.glued (tx sep) (ls.map tx)) t'=_
 rw [StrLaws.glued_eq_join,glu_join]
def rStarts:V->List V->Hp->VK->Prop:=fun x xs H Q=>∃(z y:List Nat),x= .str (tx z)/\xs=[.str (tx y)]/\Q (.bl (decide (z.take y.length=y))) H
theorem mt_starts:MtR X "str.startswith" rStarts:=by
 intro pins s σ H x xs v us Q I rx rv h
 obtain⟨z,y,rfl,rfl,q⟩:=h
 obtain⟨t,rfl⟩:=rx
 obtain⟨u,rfl,tk,rfl⟩:=vals1 rv
 have e:Txt.startswith (tx z) (tx y)=decide (z.take y.length=y):=by
  unfold Txt.startswith
  rw [StrLaws.subAt_eq,tx_len,tx_len,tx_cps,tx_cps,List.drop_zero,Bool.eq_iff_iff,Bool.and_eq_true,decide_eq_true_iff,beq_iff_eq,decide_eq_true_iff]
  constructor
  ·exact fun h=>h.2
  ·intro h
   refine⟨?_,h⟩
   have:=congrArg List.length h
   rw [List.length_take]at this
   omega
 refine SC.startswith ⟨.bl _,H,I,rfl,?_⟩
 rw [e]
 exact q
def rIntS:List V->Hp->VK->Prop:=fun xs H Q=>∃z:List Nat,xs=[.str (tx z)]/\z≠[]/\NumText.AllDigits z/\z.length<=640/\Q (.int ((NumText.digitsVal z:Nat):Int)) H
theorem call_intS:CallR X (.type "int") rIntS:=by
 intro pins s σ H xs us Q I r h
 obtain⟨z,rfl,h1,h2,h3,q⟩:=h
 obtain⟨u,rfl,tk,rfl⟩:=vals1 r
 have e:intText? (tx z)=some ((NumText.digitsVal z:Nat):Int):=by
  have:=intText_digits (x:=tx z) (by rw [tx_cps];exact h2) (by rw [tx_cps];exact h1) (by rw [tx_len];omega)
  rw [tx_cps]at this
  exact this
 exact W.KIN.call_text e (by rw [tx_len];exact h3) ⟨.int _,H,I.tok _,⟨_,rfl⟩,q⟩
end
def itx (i:Int):List Nat:=(Str.ofString (toString i)).cps.toList
theorem itx_of (i:Int):Str.ofString (toString i)=tx (itx i):=tx_of _
abbrev TF1:=St->Hp->(List Nat->Hp->Prop)->Prop
abbrev TFp:=St->Hp->List Nat->(List Nat->Hp->Prop)->Prop
def tpC (z:List Nat):TF1:=fun _ H Q=>Q z H
def tpV (te:TE):TF1:=fun σ H Q=>te σ H fun x H1=>(∃z,x= .str (tx z)/\z.length<=sizeLine/\Q z H1)∨∃i:Int,x= .int i/\i.natAbs.log2<1920/\Q (itx i) H1
def tpNil:TFp:=fun _ H acc Q=>Q acc H
def tpCons (tp:TF1) (ts:TFp):TFp:=fun σ H acc Q=>tp σ H fun z H1=>acc.length+z.length<=sizeLine/\ts σ H1 (acc++z) Q
def PF1 (X:Cx) (e:Expr) (t:TF1):Prop:=∀(pins:List (Addr×Obj)) (s:Shared) (σ:St) (H:Hp) (Q:List Nat->Hp->Prop),Inv X pins σ H s->t σ H Q->wpAny (model X.prog X.w) X.A (eval e X.env) (fun v s1=>∃z tk H1,v= .str (tx z) tk/\Inv X pins σ H1 s1/\Q z H1) X.xe s
def PFs (X:Cx) (es:List Expr) (t:TFp):Prop:=∀(pins:List (Addr×Obj)) (s:Shared) (σ:St) (H:Hp) (acc:List Nat) (Q:List Nat->Hp->Prop) (R:Str->Shared->Prop),Inv X pins σ H s->acc.length<=sizeLine->t σ H acc Q->(∀z H1 s1,z.length<=sizeLine->Inv X pins σ H1 s1->Q z H1->R (tx z) s1)->Joins (model X.prog X.w) X.A X.xe (evalEach es X.env) (tx acc) R s
section
variable {X:Cx}
theorem pp_c {x:Str} {j:Nat} {pos:Pos}:PF1 X (.Constant (.str x) j pos) (tpC x.cps.toList):=fun pins s σ H Q I h=>Calls.Constant_str ⟨x.cps.toList,_,H,by rw [<-tx_of],I.tok _,h⟩
theorem pp_v {e:Expr} {te:TE} {pos:Pos} (he:PE X e te):PF1 X (.FormattedValue e (-1) none pos) (tpV te):=by
 intro pins s σ H Q I h
 refine wpAny_FormattedValue_plain (thn (he pins s σ H _ I h) fun v s1 ⟨x,H1,I1,r1,q1⟩=>?_)
 rcases q1 with ⟨z,rfl,hz,q⟩|⟨i,rfl,hi,q⟩
 ·obtain⟨t,rfl⟩:=r1
  exact wpAny_formatField_str ⟨z,_,H1,rfl,I1,q⟩ ⟨z,_,H1,rfl,I1.tok _,q⟩ (by rw [tx_len];exact hz)
 ·obtain⟨t,rfl⟩:=r1
  exact wpAny_formatField_int hi ⟨itx i,_,H1,by rw [<-itx_of],I1.tok _,q⟩
theorem pf_nil':PFs X [] tpNil:=fun pins s σ H acc Q R I ha h k=>k acc H s ha I h
theorem pf_cons' {e:Expr} {es:List Expr} {t:TF1} {ts:TFp} (h1:PF1 X e t) (h2:PFs X es ts) (he:evalEach (e::es) X.env=eval e X.env::evalEach es X.env:=by rfl):PFs X (e::es) (tpCons t ts):=by
 intro pins s σ H acc Q R I ha h k
 rw [he]
 refine wpAny_mono (h1 pins s σ H _ I h) (fun v s1 ⟨z,tk,H1,ev,I1,hz,q⟩=>?_) fun _ _ x=>x
 refine⟨tx z,tk,ev,?_,?_⟩
 ·rw [tx_app,tx_len,List.length_append];exact hz
 ·rw [tx_app]
  exact h2 pins s1 σ H1 (acc++z) Q R I1 (by rw [List.length_append];exact hz) q k
def tFst (ts:TFp):TE:=fun σ H Q=>ts σ H [] fun z H1=>Q (.str (tx z)) H1
theorem pe_fst {a b:Expr} {es:List Expr} {ts:TFp} {pos:Pos} (h:PFs X (a::b::es) ts):PE X (.JoinedStr (a::b::es) pos) (tFst ts):=by
 intro pins s σ H Q I hq
 refine wpAny_JoinedStr (h pins s σ H [] _ _ I (Nat.zero_le _) hq fun z H1 s1 hz I1 q=>?_)
 exact⟨by rw [tx_len];exact hz,.str (tx z),H1,I1.tok _,⟨_,rfl⟩,q⟩
def rStrI:List V->Hp->VK->Prop:=fun xs H Q=>∃i:Int,xs=[.int i]/\i.natAbs.log2<1920/\Q (.str (tx (itx i))) H
theorem call_strI:CallR X (.type "str") rStrI:=by
 intro pins s σ H xs us Q I r h
 obtain⟨i,rfl,hi,q⟩:=h
 exact call_str_int pins s σ H _ us Q I r ⟨i,rfl,hi,by show Q (.str (Str.ofString (toString i))) H;rw [itx_of];exact q⟩
end
def rAddS:R2:=fun x y H Q=>∃i j,x= .str i/\y= .str j/\i.length+j.length<=sizeLine/\Q (.str (i++j)) H
theorem op_addS {X:Cx}:OpR X (binaryOp .Add) rAddS:=op_add_str
end L2
namespace PySem
open Sem (wp)
namespace F
theorem entry_dict_update_loop:entryFor table "dict.update.loop"=some Builtin.«dict.update.loop»:=entryFor_of_tree (by kernel_rfl)
theorem plain_dict_update_loop:plainId "dict.update.loop"=true:=by decide+kernel
theorem miss_list_keys:typeLookup (.type "list") "keys"=pure none:=by rw [typeLookup_type,builtinLookup_eq_fast];kernel_rfl
end F
section
variable {prog:Program} {w:World} {K:Type} [DecidableEq K] {knd:HeapKind prog w K}
theorem storedH_len (xs:List (K×Addr×Value)) (k:K) (a:Addr) (v:Value):(storedH xs k a v).length<=xs.length+1:=by
 unfold storedH
 split
 ·rw [List.length_map];omega
 ·rw [List.length_append];exact Nat.le_refl _
theorem storedH_mem {xs:List (K×Addr×Value)} {k:K} {a:Addr} {v:Value} {x:K×Addr×Value} (h:x∈storedH xs k a v):(∃y∈xs,x.1=y.1/\x.2.1=y.2.1)∨(x.1=k/\x.2.1=a):=by
 unfold storedH at h
 split at h
 ·obtain⟨y,hy,rfl⟩:=List.mem_map.mp h
  refine .inl ⟨y,hy,?_⟩
  unfold putAt
  split<;>exact⟨rfl,rfl⟩
 ·rcases List.mem_append.mp h with h|h
  ·exact .inl ⟨x,h,rfl,rfl⟩
  ·simp only [List.mem_singleton]at h
   subst h
   exact .inr ⟨rfl,rfl⟩
def stAll (L:List (K×Addr×Value)):List (K×Addr×Value):=L.foldl (fun xs x=>storedH xs x.1 x.2.1 x.2.2) []
theorem stAll_snoc (L:List (K×Addr×Value)) (x:K×Addr×Value):stAll (L++[x])=storedH (stAll L) x.1 x.2.1 x.2.2:=by unfold stAll;rw [List.foldl_append];rfl
theorem stAll_len:∀(n:Nat) (L:List (K×Addr×Value)),L.length=n->(stAll L).length<=n
 |0,L,h=>by rw [List.length_eq_zero_iff.mp h];exact Nat.le_refl _
 |n+1,L,h=>by
  obtain⟨M,x,rfl⟩:∃M x,L=M++[x]:=⟨L.dropLast,L.getLast (by intro z;rw [z]at h;cases h),(List.dropLast_concat_getLast _).symm⟩
  rw [List.length_append,List.length_singleton]at h
  rw [stAll_snoc]
  have:=stAll_len n M (by omega)
  have:=storedH_len (stAll M) x.1 x.2.1 x.2.2
  omega
theorem stAll_is {h:Heap}:∀(n:Nat) (L:List (K×Addr×Value)),L.length=n->(∀x∈L,knd.is h x.1 x.2.1)->∀x∈stAll L,knd.is h x.1 x.2.1
 |0,L,e,_,x,hx=>by rw [List.length_eq_zero_iff.mp e]at hx;exact nomatch hx
 |n+1,L,e,hL,x,hx=>by
  obtain⟨M,y,rfl⟩:∃M x,L=M++[x]:=⟨L.dropLast,L.getLast (by intro z;rw [z]at e;cases e),(List.dropLast_concat_getLast _).symm⟩
  rw [List.length_append,List.length_singleton]at e
  rw [stAll_snoc]at hx
  rcases storedH_mem hx with ⟨z,hz,e1,e2⟩|⟨e1,e2⟩
  ·rw [e1,e2]
   exact stAll_is n M (by omega) (fun u hu=>hL u (List.mem_append_left _ hu)) z hz
  ·rw [e1,e2]
   exact hL y (List.mem_append_right _ (List.mem_singleton.mpr rfl))
def Heap.DObj (h:Heap) (knd:HeapKind prog w K) (d:Addr) (xs:List (K×Addr×Value)):Prop:=∃o es ep,h.get? d=some o/\o.ExactDict/\o.data= .dict es ep/\es.toList=xs.map (entryOfKey knd)/\(xs.map (·.1)).Nodup
def Heap.TwoAt (h:Heap) (p:Addr) (x y:Value):Prop:=∃o n,h.get? p=some o/\o.cls= .type "tuple"/\o.data= .seq #[x,y] n
variable {A:Around} {R:Result->Shared->Prop} {I:Addr} {fp wr:List Addr} {G:Array GenState->Array GenState->Prop} {n:Nat} {P:Nat->Value->Prop} {St:Nat->Shared->Prop}
theorem codeAny_dict_update_loopH (W:WalksS prog w A.in1 I fp wr G n P St) (d:Addr) (hSf:d∉fp) {h₀:Heap} (hd₀:h₀.get? d=none) (hw₀:∀b∈wr,h₀.get? b=none) (hro:knd.room A.in1)
  (mono:∀h' x a,knd.is h₀ x a->(∀b o,h₀.get? b=some o->h'.get? b=some o)->knd.is h' x a)
  (L:List (K×Addr×Value)) (hL:L.length=n) (hn:n<=sizeLine) (hk:∀x∈L,knd.is h₀ x.1 x.2.1) (hv:∀i v,P i v->∃x p,L[i]? =some x/\v= .ref p/\h₀.TwoAt p (.ref x.2.1) x.2.2):
  ∀(k i:Nat) (s:Shared) (ti:Tok),n-i=k->i<=n->St i s->(∀b o,h₀.get? b=some o->s.heap.get? b=some o)->s.heap.DObj knd d (stAll (L.take i))->
   (∀s',Moved (d::wr) G s s'->s'.heap.DObj knd d (stAll L)->R (.ok (.ret .none)) s')->
   codeAny (model prog w) A (.builtin "dict.update.loop" ⟨[.ref d,.ref I,.int (i:Int) ti,.none],[]⟩) R s:=by
 have hdw:d∉wr:=fun h=>hSf (W.sub _ h)
 have hsub:∀b∈wr,b∈d::wr:=fun b hb=>List.mem_cons_of_mem _ hb
 intro k
 induction k with
 |zero=>
  intro i s ti hki hi hst hold hS hR
  have hin:i=n:=by omega
  subst hin
  refine codeAny_builtin F.entry_dict_update_loop ?_
  rw [Around.under_plainId F.plain_dict_update_loop _]
  show wpAny _ A.in1 (pyNext (.ref I)>>=_) _ _ s
  refine wpAny_bind (W.done s _ _ hst fun s' hm=>?_)
  show wpAny _ A.in1 (Builtin.Dict.addKeywords d []>>=fun _=>ret Value.none) _ _ s'
  refine wpAny_bind (wpAny_pure (wpAny_pure (hR s' (hm.mono hsub) ?_)))
  obtain⟨o,es,ep,ho,rest⟩:=hS
  rw [List.take_of_length_le (Nat.le_of_eq hL)]at rest
  exact⟨o,es,ep,hm.heap d _ hdw ho,rest⟩
 |succ k ih=>
  intro i s ti hki hi hst hold hS hR
  have hlt:i<n:=by omega
  refine codeAny_builtin F.entry_dict_update_loop ?_
  rw [Around.under_plainId F.plain_dict_update_loop _]
  show wpAny _ A.in1 (pyNext (.ref I)>>=_) _ _ s
  refine wpAny_bind (W.item i s _ _ hlt hst fun v s' hP hst' hm=>?_)
  obtain⟨x,p,hx,rfl,ot,m,hot,hct,hdt⟩:=hv i v hP
  have hold':∀b o,h₀.get? b=some o->s'.heap.get? b=some o:=fun b o e=>hm.heap b o (fun z=>by rw [hw₀ b z]at e;cases e) (hold b o e)
  have hot':=hold' _ _ hot
  have hT:s'.TypeIs (.ref p) "tuple":=⟨ot,hot',hct⟩
  have mx:x∈L:=List.mem_of_getElem? hx
  show wpAny _ A.in1 (holding [Value.ref p] _>>=_) _ _ s'
  refine wpAny_bind (wpAny_holding ?_)
  refine wpAny_bind (wpAny_tryCatch ?_)
  unfold Builtin.Dict.pairItems
  refine wpAny_bind (wpAny_typeOf hT ?_)
  rw [if_pos (by decide)]
  refine wpAny_bind (wpAny_seqItems hot' hdt (wpAny_pure ?_))
  show wpAny _ A.in1 (holding [Value.ref x.2.1,x.2.2] (dictSet d (.ref x.2.1) x.2.2)) _ _ s'
  refine wpAny_holding ?_
  have hi':(L.take i).length=i:=by rw [List.length_take];omega
  have hS':s'.heap.DictOfH knd d (stAll (L.take i)):=by
   obtain⟨o,es,ep,ho,h1,h2,h3,h4⟩:=hS
   refine⟨o,es,ep,hm.heap d _ hdw ho,h1,h2,h3,fun y hy=>mono _ _ _ ?_ hold',h4⟩
   exact stAll_is i (L.take i) hi' (fun u hu=>hk u (List.mem_of_mem_take hu)) y hy
  have ls:=stAll_len i (L.take i) hi'
  refine wpAny_dictSet_heap (hsz:=by omega) hro (mono _ _ _ (hk x mx) hold') hS' fun h' hd' hsb=>?_
  have et:stAll (L.take (i+1))=storedH (stAll (L.take i)) x.1 x.2.1 x.2.2:=by
   rw [List.take_succ,hx]
   exact stAll_snoc _ _
  have nd:∀b o,h₀.get? b=some o->b≠d:=fun b o e z=>by rw [z,hd₀]at e;cases e
  refine wpAny_pure ⟨plainId_quiet F.plain_dict_update_loop _,ih (i+1) _ _ (by omega) hlt (W.frame _ s' _ _ hst' (Nat.le_add_right _ _) fun b hb o e=>?_) (fun b o e=>(hsb.2 b (nd b o e)).trans (hold' b o e)) ?_ fun s'' hm'' hS''=>?_⟩
  ·rw [hsb.2 b (fun h:b=d=>hSf (by rw [<-h];exact hb))];exact e
  ·rw [et]
   obtain⟨o,es,ep,h1,h2,h3,h4,_,h5⟩:=hd'
   exact⟨o,es,ep,h1,h2,h3,h4,h5⟩
  ·refine hR s'' (Moved.trans W.gtrans ((hm.mono hsub).then_heap (Nat.le_add_right _ _) fun b o hb e=>?_) hm'') hS''
   rw [hsb.2 b (fun h:b=d=>hb (by rw [h];exact List.mem_cons_self))];exact e
end
section
variable {prog:Program} {w:World} {K:Type} [DecidableEq K] {knd:HeapKind prog w K} {A:Around} {E:Value->Shared->Prop} {s:Shared}
theorem call_dict_pairs {l:Addr} {items:Array Value} {k:Nat} {Q:Value->Shared->Prop} (hh:A.handled=none) (hl:s.heap.get? l=some {cls:= .type "list",data:= .seq items k}) (hro:knd.room A.in1.in1)
  (mono:∀h' x a,knd.is s.heap x a->(∀b o,s.heap.get? b=some o->h'.get? b=some o)->knd.is h' x a)
  (L:List (K×Addr×Value)) (hL:L.length=items.size) (hn:items.size<=sizeLine) (hk:∀x∈L,knd.is s.heap x.1 x.2.1) (hv:∀(i:Nat) (v:Value),items[i]? =some v->∃x p,L[i]? =some x/\v= .ref p/\s.heap.TwoAt p (.ref x.2.1) x.2.2)
  (h:∀h' tk,h'.DObj knd s.heap.objs.size (stAll L)->(∀b o,s.heap.get? b=some o->h'.get? b=some o)->Q (.ref s.heap.objs.size) {s with heap:=h',toks:=tk}):
  wpAny (model prog w) A (call (.type "dict") [.ref l]) Q E s:=by
 refine callType_codes (Q₁:=fun obj s₁=>obj= .ref s.heap.objs.size/\s₁={s with heap:=s.heap.push {cls:= .type "dict",data:= .dict #[]}}) F.kt_called_dict (F.kt_typeCall_dict_1 _) F.entry_dict_init (kt_code_dict_new _ ⟨rfl,rfl⟩) ?_
 rintro obj s₁ ⟨rfl,rfl⟩
 have hnew:(s.heap.push {cls:= .type "dict",data:= .dict #[]}).DictOfH knd s.heap.objs.size []:=Heap.DictOfH.new s.heap
 have hl':(s.heap.push {cls:= .type "dict",data:= .dict #[]}).get? l=some {cls:= .type "list",data:= .seq items k}:=Heap.get?_push_of_some _ hl
 have hT:Shared.TypeIs {s with heap:=s.heap.push {cls:= .type "dict",data:= .dict #[]}} (.ref l) "list":=⟨_,hl',rfl⟩
 refine⟨hnew.typeIs,F.args_dict_init_2 _ _,?_⟩
 unfold Builtin.«dict.__init__»
 refine wpAny_bind ?_
 unfold Builtin.Dict.selfAndRest
 refine wpAny_bind (wpAny_notOrdered_dict hnew.typeIs ?_)
 show wpAny _ _ (pure (s.heap.objs.size,[Value.ref l])) _ _ _
 refine wpAny_pure ?_
 show wpAny _ _ (Builtin.Dict.updateFrom "dict.__init__" s.heap.objs.size (.ref l) [] .none) _ _ _
 unfold Builtin.Dict.updateFrom
 refine wpAny_bind (wpAny_typeOf hT ?_)
 rw [if_pos (by decide)]
 refine wpAny_bind (getAttrQ_miss_list hl' rfl rfl rfl F.miss_list_keys (by decide) hh fun h1 tk e hx=>?_)
 have k1:∀b o,(s.heap.push {cls:= .type "dict",data:= .dict #[]}).get? b=some o->h1.get? b=some o:=hx.keeps
 simp only [Option.isNone_none,if_true]
 refine wpAny_bind (wpAny_rule ?_)
 have hl1:h1.IsList l items:=⟨_,k1 _ _ hl',rfl,k,rfl⟩
 refine wpAny_bind (wpAny_pyIter_list hl1 ?_)
 have hld:l<s.heap.objs.size:=Heap.lt_size hl
 have hd1:h1.get? s.heap.objs.size=some {cls:= .type "dict",data:= .dict #[]}:=k1 _ _ (Heap.get?_push_size _ rfl)
 have hds:s.heap.objs.size<h1.objs.size:=Heap.lt_size hd1
 have hls:l<h1.objs.size:=Nat.lt_trans hld hds
 refine wpAny_bind (wpAny_pure (wpAny_pure ⟨plainId_quiet F.plain_dict_update_loop _,?_⟩))
 have hh3:A.in1.in1.handled=none:=by simp [hh]
 have hneI:l≠h1.objs.size:=Nat.ne_of_lt hls
 have hSf:s.heap.objs.size∉[h1.objs.size,l]:=by
  simp only [List.mem_cons,List.not_mem_nil,or_false,not_or]
  exact⟨Nat.ne_of_lt hds,Nat.ne_of_gt hld⟩
 refine codeAny_dict_update_loopH (knd:=knd) (h₀:=s.heap) ((Walks.list hh3 _ l hneI items).toS) s.heap.objs.size hSf (Heap.get?_none_of_le (Nat.le_refl _)) (fun b hb=>?_) hro mono L hL hn hk hv (items.size-0) 0 _ _ rfl (Nat.zero_le _)
  ⟨⟨_,Heap.get?_push_size _ rfl,rfl,rfl⟩,(hl1.push _)⟩ (fun b o e=>Heap.get?_push_of_some _ (k1 _ _ (Heap.get?_push_of_some _ e))) ?_ fun s' hm hS'=>?_
 ·rw [List.mem_singleton.mp hb]
  exact Heap.get?_none_of_le (Nat.le_of_lt hds)
 ·exact⟨_, #[],0,Heap.get?_push_of_some _ hd1,⟨rfl,rfl,rfl⟩,rfl,rfl,List.nodup_nil⟩
 ·obtain⟨h',g',d',tk',os'⟩:=s'
  have eg:g'=s.gens:=hm.gens
  have ed:d'=s.drawn:=hm.drawn
  have eo:os'=s.os:=hm.os
  subst eg;subst ed;subst eo
  refine⟨rfl,h h' tk' hS' fun b o e=>?_⟩
  have hb:b<s.heap.objs.size:=Heap.lt_size e
  exact hm.heap b o (by simp only [List.mem_cons,List.not_mem_nil,or_false,not_or];exact⟨Nat.ne_of_lt hb,Nat.ne_of_lt (Nat.lt_trans hb hds)⟩) (Heap.get?_push_of_some _ (k1 _ _ (Heap.get?_push_of_some _ e)))
end
end PySem
namespace L2
open PySem PySem.Spec PyProof.Rows
theorem pair_mono {P:Program} {w:World} {h h':Heap} {x:PKey} {a:Addr} (e:(pairKind (mixKind P w)).is h x a) (k:∀b o,h.get? b=some o->h'.get? b=some o):(pairKind (mixKind P w)).is h' x a:=by
 obtain⟨o,v,b,n,h1,h2,h3,h4,o',its,m,g1,g⟩:=e
 exact⟨o,v,b,n,k _ _ h1,h2,h3,h4,o',its,m,k _ _ g1,g⟩
def dAll (kvs:List (PKey×V)):List (PKey×V):=kvs.foldl (fun d x=>putK d x.1 x.2) []
def PrL (H:Hp):List V->List (PKey×V)->Prop:=Paired fun v x=>∃p b,v= .ref p/\H p=some (.tup [.ref b,x.2])/\PKd H x.1 b
def rDictP (P:Program) (w:World):List V->Hp->VK->Prop:=fun xs H Q=>∃l vs kvs,xs=[.ref l]/\H l=some (.lst vs)/\PrL H vs kvs/\∀d H',H d=none->Same H H'->(∀b,b≠d->H' b=H b)->PDict P w H' d (dAll kvs)->Q (.ref d) H'
theorem prl_objs {P:Program} {w:World} {H:Hp} {h:Heap} (hok:HOk P w H h):∀{vs:List V} {kvs:List (PKey×V)} {its:List Value},PrL H vs kvs->Vals vs its->
  ∃L:List (PKey×Addr×Value),KP H kvs L/\L.length=its.length/\∀(i:Nat) (v:Value),its[i]? =some v->∃x p,L[i]? =some x/\v= .ref p/\h.TwoAt p (.ref x.2.1) x.2.2
 |_,_,_,.nil,.nil=>⟨[],.nil,rfl,fun i v e=>by simp at e⟩
 |_,_,_,.cons (a:=v) (b:=x) hx t,.cons (b:=u) r rs=>by
  obtain⟨L,h1,h2,h3⟩:=prl_objs hok t rs
  obtain⟨p,b,rfl,e1,e2⟩:=hx
  obtain rfl:u=Value.ref p:=r
  obtain⟨_,its,ri,o,g1,g2,n,g3⟩:=(show ObjOk P w H h p (.tup [.ref b,x.2])from hok p _ e1)
  cases ri with
  |@cons _ v1 _ _ r1 ri=>
   cases ri with
   |@cons _ v2 _ _ r2 ri=>
    cases ri
    obtain rfl:v1=Value.ref b:=r1
    refine⟨(x.1,b,v2)::L,.cons ⟨rfl,e2,r2⟩ h1,by rw [List.length_cons,List.length_cons,h2],fun i v e=>?_⟩
    cases i with
    |zero=>
     obtain rfl:Value.ref p=v:=by simpa using e
     exact⟨_,p,rfl,rfl,o,n,g1,g2,g3⟩
    |succ i=>exact h3 i v (by simpa using e)
theorem kp_fold {H:Hp}:∀{kvs:List (PKey×V)} {L:List (PKey×Addr×Value)} {a:List (PKey×V)} {b:List (PKey×Addr×Value)},KP H kvs L->KP H a b->KP H (kvs.foldl (fun d x=>putK d x.1 x.2) a) (L.foldl (fun xs x=>storedH xs x.1 x.2.1 x.2.2) b)
 |_,_,_,_,.nil,h=>h
 |_,_,_,_,.cons (a:=x) (b:=y) hx t,h=>by
  rw [List.foldl_cons,List.foldl_cons]
  obtain⟨e1,e2,e3⟩:=hx
  refine kp_fold t ?_
  rw [<-e1]
  exact h.put x.1 e2 e3
theorem call_dictP {X:Cx} (hc:X.calm=true) (hu:X.A.units+4<cLine):CallR X (.type "dict") (rDictP X.prog X.w):=by
 intro pins s σ H xs us Q I r h
 obtain⟨l,vs,kvs,rfl,hl,hp,q⟩:=h
 obtain⟨u,rfl,ru⟩:=vals1 r
 obtain rfl:u=Value.ref l:=ru
 obtain⟨z,its,n,rv,hg⟩:=(show ObjOk X.prog X.w H s.heap l (.lst vs)from I.hok l _ hl)
 obtain⟨L,h1,h2,h3⟩:=prl_objs I.hok hp rv
 have lz:its.length<=sizeLine:=by rw [<-rv.length];exact z
 have hk:∀x∈L,(pairKind (mixKind X.prog X.w)).is s.heap x.1 x.2.1:=by
  have all:∀{k:List (PKey×V)} {m:List (PKey×Addr×Value)},KP H k m->∀x∈m,(pairKind (mixKind X.prog X.w)).is s.heap x.1 x.2.1:=by
   intro k m g
   induction g with
   |nil=>intro x hx;exact nomatch hx
   |@cons p y ps qs hq t ih=>
    intro x hx
    rcases List.mem_cons.mp hx with e|hx
    ·subst e
     exact pkd_of I.hok (by rw [<-hq.1];exact hq.2.1)
    ·exact ih x hx
  exact all h1
 refine call_dict_pairs (knd:=pairKind (mixKind X.prog X.w)) (I.ok.hd hc) hg (show X.A.in1.in1.units+1<cLine by show X.A.units+1+1+1<cLine;omega) (fun h' x a e k=>pair_mono e k) L (by rw [h2,List.size_toArray]) (by rw [List.size_toArray];exact lz) hk (fun i v e=>h3 i v (by simpa using e)) fun h' tk hd hk'=>?_
 obtain⟨o,es,ep,g1,g2,g3,g4,g5⟩:=hd
 have fr:H s.heap.objs.size=none:=I.hok.fresh (Nat.le_refl _)
 have lk:=kp_fold (a:=[]) (b:=[]) h1 .nil
 have hpo:PObj X.prog X.w s.heap.objs.size (stAll L) h':=⟨beq_eq_false_iff_ne.mpr (Ne.symm (Nat.ne_of_lt I.big)),o,es,ep,g1,g2,g3,g4,g5⟩
 have ok:ObjOk X.prog X.w (upd H s.heap.objs.size (.ext (PObj X.prog X.w s.heap.objs.size (stAll L)))) h' s.heap.objs.size (.ext (PObj X.prog X.w s.heap.objs.size (stAll L))):=⟨hpo,⟨o,g1⟩,fun a b p k=>PObj.stay a b p k⟩
 have J:=I.laid (a:=s.heap.objs.size) (o:= .ext (PObj X.prog X.w s.heap.objs.size (stAll L))) (t':=tk) hk' (Nat.le_refl _) ok
 have sm:Same H (upd H s.heap.objs.size (.ext (PObj X.prog X.w s.heap.objs.size (stAll L)))):=fun b u e=>by rw [upd_ne (ne_of_none e fr)];exact e
 refine⟨.ref s.heap.objs.size,_,J,rfl,q _ _ fr sm (fun b nb=>upd_ne nb) ⟨?_,stAll L,upd_same,KP.mono (fun c ys e=>sm _ _ e) lk⟩⟩
 have e1:(dAll kvs).length=(stAll L).length:=Paired.length lk
 have:=stAll_len L.length L rfl
 omega
end L2
namespace L2
open PySem PySem.Spec PySem.Calls PyProof.Rows
def CodO (c:Addr) (q:Str):HO:= .ext fun h=>h.CodeRec (.ref c) q
def LamO (f:Addr) (o:Obj):HO:= .ext fun h=>h.get? f=some o
theorem codO_ok {P:Program} {w:World} {H:Hp} {h:Heap} {c:Addr} {q:Str} (e:h.CodeRec (.ref c) q):ObjOk P w H h c (CodO c q):=by
 refine⟨e,?_,fun h1 h2 p k=>?_⟩
 ·obtain⟨c',o,vs,t,e1,e2,_⟩:=e
  cases e1
  exact⟨o,e2⟩
 ·obtain⟨c',o,vs,t,e1,e2,r⟩:=p
  cases e1
  exact⟨c,o,vs,t,rfl,k _ e2,r⟩
theorem lamO_ok {P:Program} {w:World} {H:Hp} {h:Heap} {f:Addr} {o:Obj} (e:h.get? f=some o):ObjOk P w H h f (LamO f o):=⟨e,⟨o,e⟩,fun _ _ p k=>k _ p⟩
def KpP (P:Addr) (H H':Hp):Prop:=∀b o,b≠P->H b=some o->H' b=some o
theorem KpP.of {P:Addr} {H H':Hp} (s:Same H H'):KpP P H H':=fun b o _ e=>s b o e
theorem KpP.trans {P:Addr} {H H1 H2:Hp} (a:KpP P H H1) (b:KpP P H1 H2):KpP P H H2:=fun c o n e=>b c o n (a c o n e)
def BltM (mg:Str->Option Value) (h:Heap):Prop:=∃bm ob,mg "__builtins__"=some (.ref bm)/\bm≠builtinsNs/\h.get? bm=some ob/\ob.cls= .type "module"/\ob.dict=some builtinsNs/\ob.data= .plain
section
variable {X:Cx} {params:Arguments} {body:Expr} {scope:Scope} {pos:Pos} {clos:List (Str×Addr)} {c P:Addr}
theorem lam_laid {pins:List (Addr×Obj)} {σ:St} {H:Hp} {s:Shared} {ps more:Array Value} {c':Addr} {qual:Str} {o:Obj} {h':Heap} {tk:Tok} (I:Inv X pins σ H s) (hP:H P=some (.tbl ps)) (hx:Heap.ExtBut P s.heap h') (hge:s.heap.objs.size<=c') (hlt:c'<h'.objs.size)
  (hrec:h'.CodeRec (.ref c') qual) (htb:h'.get? P=some (PySem.W.tabObj (ps++more))) (hof:o.isFreed=false):
  Inv X pins σ (upd (upd (upd H P (.tbl (ps++more))) c' (CodO c' qual)) h'.objs.size (LamO h'.objs.size o)) {s with heap:=h'.push o,toks:=tk}:=by
 have ltP:P<s.heap.objs.size:=I.hok.lt hP
 have neq:∀b u,H b=some u->b≠c'/\b≠h'.objs.size:=fun b u e=>by
  have l:b<s.heap.objs.size:=I.hok.lt e
  constructor
  ·exact Nat.ne_of_lt (Nat.lt_of_lt_of_le l hge)
  ·exact Nat.ne_of_lt (Nat.lt_trans (Nat.lt_of_lt_of_le l hge) hlt)
 have neq2:∀b ob,s.heap.get? b=some ob->b≠c'/\b≠h'.objs.size:=fun b ob e=>by
  have l:b<s.heap.objs.size:=Heap.lt_size e
  constructor
  ·exact Nat.ne_of_lt (Nat.lt_of_lt_of_le l hge)
  ·exact Nat.ne_of_lt (Nat.lt_trans (Nat.lt_of_lt_of_le l hge) hlt)
 have keep:∀b ob,b≠P->s.heap.get? b=some ob->(h'.push o).get? b=some ob:=fun b ob n e=>Heap.get?_push_of_some _ (hx b ob n e)
 have nP:∀b,H b=none->b≠P:=fun b e=>by rintro rfl;rw [hP]at e;cases e
 have atH:∀b u,b≠P->H b=some u->(upd (upd (upd H P (.tbl (ps++more))) c' (CodO c' qual)) h'.objs.size (LamO h'.objs.size o)) b=some u:=fun b u n e=>by
  rw [upd_ne (neq b u e).2,upd_ne (neq b u e).1,upd_ne n];exact e
 have atP:(upd (upd (upd H P (.tbl (ps++more))) c' (CodO c' qual)) h'.objs.size (LamO h'.objs.size o)) P=some (.tbl (ps++more)):=by
  rw [upd_ne (neq P _ hP).2,upd_ne (neq P _ hP).1,upd_same]
 refine I.un ⟨fun b ob e n _ _=>keep b ob (nP b n) e,fun b ob e n _ _=>⟨ob.slots,keep b ob (nP b n) e⟩,fun b ob e n _=>?_,fun b ob e _=>?_,fun b xs e=>?_,fun b ob u e=>?_,fun b qs e=>?_⟩ fun b u e=>?_
 ·rw [upd_ne (neq2 b ob e).2,upd_ne (neq2 b ob e).1,upd_ne (nP b n)];exact n
 ·by_cases hb:b=P
  ·subst hb
   exact⟨_,Heap.get?_push_of_some _ htb⟩
  ·exact⟨ob,keep b ob hb e⟩
 ·exact atH b _ (fun z=>by subst z;rw [hP]at e;cases e) e
 ·exact atH b _ (fun z=>by subst z;rw [hP]at e;cases e) e
 ·by_cases hb:b=P
  ·subst hb
   rw [hP]at e
   cases e
   exact⟨more,atP⟩
  ·exact⟨#[],by rw [atH b _ hb e,Array.append_empty]⟩
 ·by_cases h1:b=h'.objs.size
  ·subst h1
   rw [upd_same]at e
   cases e
   exact lamO_ok (Heap.get?_push_size _ hof)
  ·rw [upd_ne h1]at e
   by_cases h2:b=c'
   ·subst h2
    rw [upd_same]at e
    cases e
    obtain⟨c2,oc,vs,t,e1,e2,r⟩:=hrec
    exact codO_ok ⟨c2,oc,vs,t,e1,Heap.get?_push_of_some _ e2,r⟩
   ·rw [upd_ne h2]at e
    by_cases h3:b=P
    ·subst h3
     rw [upd_same]at e
     cases e
     exact(show(h'.push o).get? b=some _ from Heap.get?_push_of_some _ htb)
    ·rw [upd_ne h3]at e
     refine(I.hok b u e).stay (fun a ob ha q=>?_) (fun a q=>?_) fun a xs q=>?_
     ·refine keep a ob ?_ q
      rcases ha with rfl|ha
      ·exact h3
      ·rintro rfl;rw [hP]at ha;cases ha
     ·exact atH a _ (fun z=>by subst z;rw [hP]at q;cases q) q
     ·exact atH a _ (fun z=>by subst z;rw [hP]at q;cases q) q
end
def cxLam (P:Program) (w:World) (K:PySem.W.Frag) (mg:Str->Option Value) (base:Heap) (x y:Str) (qual:Str) (scope:Scope) (f c:Addr) (cd:Value) (A:Around) (outer:List Env) (s:Shared) (H:Hp):Cx where
 prog:=P
 w:=w
 K:=K
 mg:=mg
 base:=base
 A:=A.deeper (PySem.W.envX qual scope s.heap.objs.size f cd [(y,c)])
 N:=[x,y]
 s₀:=s
 H₀:=H
 env:=PySem.W.envX qual scope s.heap.objs.size f cd [(y,c)]
 outer:=outer
 stack:=PySem.W.envX qual scope s.heap.objs.size f cd [(y,c)]::outer
 ex:=[]
 calm:=true
 fn:=fun _=>false
 pn:=[]
 xe:=fun _ _=>False
theorem lam_of {P:Program} {w:World} {K:PySem.W.Frag} {mg:Str->Option Value} {base:Heap} {k:Nat} {f c c':Addr} {qual x y:Str} {params:Arguments} {body:Expr} {scope:Scope} {pm ctv:Value} {sp:Sp} {v:V} {u:Value}
  (hk:scope.kind= .function) (hco:scope.isCoroutine=false) (hgen:scope.isGenerator=false) (hx:scope.names.lookup x=some .local) (hy:scope.names.lookup y=some .free) (hfr:∀z,scope.names.lookup z=some .free->z=y) (hcell:∀z∈scope.names,z.2≠ .cell)
  (hb:base.IsCell c (some u)) (ru:RelV v u) (len:∀vs H Q E,sp vs H Q E->vs.length=1)
  (ob:∀vs H Q E,sp vs H Q E->H f=some (LamO f (PySem.W.kla_obj "<lambda>" qual params body scope [(y,c)] pm c' ctv))/\H c'=some (CodO c' qual))
  (hbody:∀(A:Around) (outer:List Env) (s:Shared) (H:Hp) (a:V) (Q:VK) (E:XK),Room k (A.deeper (PySem.W.envX qual scope s.heap.objs.size f (.ref c') [(y,c)]))->sp [a] H Q E->
   ∃t,PE (cxLam P w K mg base x y qual scope f c (.ref c') A outer s H) body t/\t [some a,some v] H Q):
  FnOk P w K mg base CX0 (k+1) f (PySem.W.kla_fn "<lambda>" qual params body scope [(y,c)] pm (.ref c') ctv) [x] sp:=by
 refine⟨fun vs H Q E h=>len vs H Q E h,fun A outer s H args us vs Q E hr e0 hbd r hsp=>?_⟩
 obtain⟨o1,o2⟩:=ob _ _ _ _ hsp
 have hl:=len _ _ _ _ hsp
 obtain⟨a,rfl⟩:∃a,vs=[a]:=by
  match vs,hl with
  | [a],_=>exact⟨a,rfl⟩
 obtain⟨ua,rfl,ra⟩:=vals1 r
 have hf:s.heap.get? f=some (PySem.W.kla_obj "<lambda>" qual params body scope [(y,c)] pm c' ctv):=(show ObjOk P w H s.heap f (LamO f _)from e0.hok f _ o1).1
 have hcr:s.heap.CodeRec (.ref c') qual:=(show ObjOk P w H s.heap c' (CodO c' qual)from e0.hok c' _ o2).1
 have lim:s.heap.NoLimit:=e0.mod.nolimit.keeps fun b o e=>(e0.bs b o e).1
 refine PySem.W.kla_callFunE hr.depth hf rfl hco hgen rfl hcr (hbd _ _ _ _ ?_)
 refine wpAny_newFunctionEnv hcell (fun z hz=>by rw [List.mem_singleton.mp hz];exact hx) (fun h₁ hns hsb=>⟨lim.fresh _ hsb,?_⟩) hk
 show codeAny _ _ (.expr body (PySem.W.envX qual scope s.heap.objs.size f (.ref c') [(y,c)])) _ _
 have hk₁:∀b o,s.heap.get? b=some o->h₁.get? b=some o:=fun b o e=>hsb.extBut b o (Nat.ne_of_lt (Heap.lt_size e)) (Heap.get?_push_of_some _ e)
 obtain⟨t,ht,hq⟩:=hbody A outer s H a Q E (hr.deeper _) hsp
 have cl1:∀z c₁,([(y,c)]:List (Str×Addr)).lookup z=some c₁->z=y/\c₁=c:=fun z c₁ e=>by
  rw [List.lookup_cons]at e
  cases hz:z==y with
  |true=>rw [hz]at e;cases e;exact⟨eq_of_beq hz,rfl⟩
  |false=>rw [hz]at e;cases e
 have cl2:([(y,c)]:List (Str×Addr)).lookup y=some c:=by rw [List.lookup_cons,beq_self_eq_true]
 have hne:x≠y:=by rintro rfl;rw [hx]at hy;cases hy
 have noA:∀b:Addr,b∉(cxLam P w K mg base x y qual scope f c (.ref c') A outer s H).ex:=fun b z=>absurd (show b∈([]:List Addr)from z) (by simp)
 have I:Inv (cxLam P w K mg base x y qual scope f c (.ref c') A outer s H) [] [some a,some v] H {s with heap:=h₁,toks:=s.toks+1}:=by
  refine⟨⟨e0.mod,hk,rfl,rfl,Nat.le_refl _,fun z z' c₁ h1 h2=>?_,fun z hz=>?_,fun z c₁ h1 _=>?_,fun _=>hr.hd,Around.frames_deeper e0.frames,.inr ⟨rfl,rfl⟩,fun b z=>absurd z (noA b),e0.bs,e0.bsz,fun b _ _=>noA b,fun b z=>absurd z (noA b),e0.funs,e0.frf⟩,
   rfl,e0.bare,Un.kept hk₁,⟨_,hns,fun i z v' h1 h2 h3=>?_⟩,fun z c₁ h=>?_,e0.hok.fresh (Nat.le_refl _),fun z c₁ h=>?_,fun p hp=>absurd (show p∈([]:List (Addr×Obj))from hp) (by simp),e0.hok.kept hk₁,rfl⟩
  ·exact(cl1 z c₁ h1).1.trans (cl1 z' c₁ h2).1.symm
  ·have hz:scope.names.lookup z=some .cell∨scope.names.lookup z=some .free:=hz
   rcases hz with hz|hz
   ·exact absurd rfl (hcell _ (PySem.mem_of_lookup hz))
   ·rw [hfr z hz];exact⟨c,cl2⟩
  ·cases h1
  ·match i with
   |0=>
    obtain rfl:x=z:=Option.some.inj h1
    obtain rfl:a=v':=Option.some.inj (Option.some.inj h2)
    refine⟨ua,ra,.inl ⟨hx,?_⟩⟩
    show([(x,ua)]:List (Str×Value)).reverse.lookup x=some ua
    rw [List.reverse_singleton,List.lookup_cons,beq_self_eq_true]
   |1=>
    obtain rfl:y=z:=Option.some.inj h1
    obtain rfl:v=v':=Option.some.inj (Option.some.inj h2)
    exact⟨u,ru,.inr ⟨.inr hy,c,cl2,(hb.keeps fun b o e=>(e0.bs b o e).1).keeps hk₁⟩⟩
   |i+2=>exact absurd (show([x,y]:List Str)[i+2]? =some z from h1) (by simp)
  ·obtain⟨rfl,rfl⟩:=cl1 z c₁ h
   exact⟨_,(hb.keeps fun b o e=>(e0.bs b o e).1).keeps hk₁⟩
  ·obtain⟨rfl,rfl⟩:=cl1 z c₁ h
   obtain⟨o,ho,_⟩:=hb
   exact(e0.bs _ _ ho).2
 refine PySem.W.kla_codeExpr (wpAny_mono (ht [] _ [some a,some v] H Q I hq) (fun v' s' hs=>?_) fun e s' hs=>False.elim hs)
 obtain⟨v₁,H',J,rv,q⟩:=hs
 exact⟨v₁,H',J.os,J.bare,J.base,J.hok,rv,q⟩
def tCallV (i:Nat) (f:Addr) (sp:Sp) (t:TA):TE:=fun σ H Q=>σ[i]? =some (some (.ref f))/\t σ H fun vs H1=>sp vs H1 Q E0
theorem pe_callV {X:Cx} {k i:Nat} {f:Addr} {fd:FuncData} {ps:List Str} {sp:Sp} {x:Str} {p pos:Pos} {e:Expr} {es:List Expr} {t:TA} (F:FnOk X.prog X.w X.K X.mg X.base CX0 k f fd ps sp) (hr:Room k X.A) (hb:Binds X.K fd ps [])
  (ob:∀vs H Q E,sp vs H Q E->∃o d,H f=some (LamO f o)/\o.data= .func d) (ha:PA X (e::es) t) (hN:X.N[i]? =some x:=by rfl) (hv:Vis X.env.scope x:=by first|exact Or.inl rfl|exact Or.inr (Or.inl rfl)) (hdb:(x==("__debug__":Str))=false:=by decide) (hcd:(x==("__classdict__":Str))=false:=by decide)
  (he:starEach (e::es) X.env=(false,eval e X.env)::starEach es X.env:=by rfl) (hpl:(backTo pos (starEach es X.env)).any (·.1)=false:=by rfl):
  PE X (.Call (.Name x p) (e::es) [] pos) (tCallV i f sp t):=by
 intro pins s σ H Q I h
 obtain⟨h1,h2⟩:=h
 refine wpAny_Call_Name_kw (thn (pe_var (pos:=p) hN hv hdb hcd pins s σ H (fun v H1=>v= .ref f/\H1=H) I ⟨_,h1,rfl,rfl⟩) fun u s1 ⟨v,H1,I1,rv,ev,eH⟩=>?_)
 subst ev eH
 obtain rfl:u=Value.ref f:=rv
 have h':wpAny (model X.prog X.w) X.A (spliced (backTo pos (starEach (e::es) X.env))) (fun vs s'=>PySem.W.FnAt f s'.heap/\wpAny (model X.prog X.w) X.A (call (.ref f) ([]++vs)) (EP X pins σ Q) X.xe s') X.xe s1:=by
  refine thn (ha pos pins s1 σ H1 _ I1 h2) fun us s2 ⟨vs,H2,I2,r,q⟩=>⟨?_,?_⟩
  ·obtain⟨o,d,e1,e2⟩:=ob _ _ _ _ q
   have:=(show ObjOk X.prog X.w H2 s2.heap f (LamO f o)from I2.hok f _ e1).1
   obtain⟨oc,od,dt,sl⟩:=o
   cases e2
   exact⟨_,_,_,_,this⟩
  ·exact run_fn F hr hb .nil pass0 I2 r (by rw [List.append_nil];exact q)
 rw [he]at h'
 rw [he]
 exact PySem.W.callWith_of (P:=PySem.W.FnAt f) (by show((false || (backTo pos (starEach es X.env)).any (·.1)) || false)=false;rw [hpl];rfl) PySem.W.keeps_F (evalArgs_plain h')
end L2
namespace L2
open PySem PySem.Spec PySem.Calls PyProof.Rows
theorem funFrames_base {h base base':Heap}:∀{l:List Env},h.FunFrames base l->(∀b∈frs l,base'.get? b=none)->h.FunFrames base' l
 | [],_,_=>trivial
 |env::r,⟨hk,⟨L,o,hf,hn,ho,hd⟩,hr⟩,hb=>⟨hk,⟨L,o,hf,hb L (by unfold frs;rw [List.filterMap_cons,hf];exact List.mem_cons_self),ho,hd⟩,funFrames_base hr fun b z=>hb b (by
   unfold frs at z⊢
   rw [List.filterMap_cons,hf]
   exact List.mem_cons_of_mem _ z)⟩
section
variable {X:Cx} {pins:List (Addr×Obj)} {σ:St} {H:Hp} {s:Shared}
def bigB (l:List Env) (H:Hp) (h:Heap):Heap:=PySem.W.hideAll (hidT h H) (frs l)
theorem bigB_get {l:List Env} {h:Heap} {b:Addr} {o:Obj} (e:h.get? b=some o) (n:H b=none) (hb:b∉frs l):(bigB l H h).get? b=some o:=PySem.W.hideAll_get _ (hidT_get e n) hb
theorem Inv.baseIn (I:Inv X pins σ H s):∀b o,X.base.get? b=some o->(bigB X.stack H s.heap).get? b=some o:=fun b o e=>by
 obtain⟨h1,h2⟩:=I.bs b o e
 refine bigB_get h1 h2 fun z=>?_
 rcases List.mem_cons.mp (I.stkSub b z)with rfl|z
 ·exact absurd (Heap.lt_size e) (Nat.not_lt.mpr (Nat.le_trans I.ok.bsz I.ok.above))
 ·exact I.ok.nofr e z
theorem Inv.env0B (I:Inv X pins σ H s):Env0 X.prog X.w X.K X.mg (bigB X.stack H s.heap) X.A X.stack s H:=by
 have M:=I.ok.mod
 refine⟨I.ok.frames,⟨M.kin.keeps I.baseIn,M.glob.keeps I.baseIn,let⟨mb,h1,h2⟩:=M.blt;⟨mb,h1.keeps I.baseIn,h2⟩,M.nolimit.keeps I.baseIn⟩,fun b o e=>of_hidT (PySem.W.of_hideAll _ e),?_,funFrames_base I.stack fun b hb=>PySem.W.hideAll_none _ hb,I.stkFree,I.hok,I.bare⟩
 unfold bigB
 rw [PySem.W.hideAll_size,hidT_size]
 exact Nat.le_refl _
theorem Inv.cellB {y:Str} {c:Addr} {i:Nat} {v:V} (I:Inv X pins σ H s) (hc:X.env.cells.lookup y=some c) (hi:X.N[i]? =some y) (hy:X.env.scope.names.lookup y=some .cell) (hf:X.fn y=true) (hs:σ[i]? =some (some v)):∃u,RelV v u/\(bigB X.stack H s.heap).IsCell c (some u):=by
 obtain⟨m,hn,hl⟩:=I.loc
 obtain⟨u,r,l⟩:=hl i y v hi hs (.inr (.inl hy))
 refine⟨u,r,?_⟩
 rcases l with ⟨k,_⟩|⟨_,c',e,o,ho,hd⟩
 ·have k':X.env.scope.names.lookup y=some .local:=k
  rw [hy]at k'
  cases k'
 ·rw [hc]at e
  cases e
  refine⟨o,bigB_get ho (I.freeC y c hc) fun z=>?_,hd⟩
  rcases List.mem_cons.mp (I.stkSub c z)with z|z
  ·exact I.cne y c hc z
  ·obtain⟨_,o',ho',_⟩:=I.ok.funs.mem z
   exact absurd (Heap.lt_size ho') (Nat.not_lt.mpr (I.ok.cab y c hf hc))
end
theorem law_callT {P:Program} {w:World} {K:PySem.W.Frag} {mg mb:Str->Option Value} {CX:CXT} {k:Nat} {fa a c Pt:Addr} {fd:FuncData} {x:Str} {sp:Sp} {s₁:Shared} {vs:List Value} {ns:List Int}
  (KX:K.In s₁.heap) (hns:s₁.heap.Ns mainGlobals mg) (hb:s₁.heap.Ns builtinsNs mb) (hbb:∀x:Str,x≠"__name__"->mb x=bootBuiltins x) (hlim:s₁.heap.NoLimit) (hg:s₁.gens= #[]) (hBm:BltM mg s₁.heap)
  (hcd:PySem.W.CodeHd s₁.heap c Pt) (hPt:s₁.heap.get? Pt=some (PySem.W.tabObj #[])) (hKP:K.lookup Pt=none)
  (ha:s₁.heap.get? a=some {cls:= .type "list",data:= .seq vs.toArray}) (hi:IntsAre vs ns) (hl:ns.length<=sizeLine) (hr:Room k callerA)
  (F:∀base:Heap,K.In base->base.Ns mainGlobals mg->BltM mg base->FnOk P w K mg base CX k fa fd [x] sp) (hbind:∀(s:Shared) (u:Value),BindsTo s fd ⟨[u],[]⟩ [(x,u)])
  (hsp:∀H:Hp,H Pt=some (.tbl #[])->SqL K H a (ns.map V.int)->sp [.ref a] H (fun v _=>v= .bl true) fun _ _ _=>False)
  (hCX:∀H e s',CX [] H s₁ (fun _ _ _=>False) e s'->False):
  codeAny (model P w) callerA (.call (.ref fa) ⟨[.ref a],[]⟩) (fun r s'=>r= .ok (.ret (.bool true))/\OldK s₁.heap s'.heap/\s'.os=s₁.os/\AllBare s'.gens) s₁:=by
 have rv:=vals_ints hi
 have lenV:=hi.length
 have naP:a≠Pt:=fun z=>by rw [z,hPt]at ha;cases ha
 have core:∀H:Hp,(∀b,b≠Pt->H b=none∨∃o xs,H b=some (.frz o (.lst xs)))->H Pt=some (.tbl #[])->SqL K H a (ns.map V.int)->HOk P w H s₁.heap->(∀b,H b≠none->b=a∨b=Pt)->(H a≠none->K.lookup a=none)->
   codeAny (model P w) callerA (.call (.ref fa) ⟨[.ref a],[]⟩) (fun r s'=>r= .ok (.ret (.bool true))/\OldK s₁.heap s'.heap/\s'.os=s₁.os/\AllBare s'.gens) s₁:=by
  intro H hO hP hS hok hA hK
  have base_of:∀{b:Addr} {o:Obj},s₁.heap.get? b=some o->H b=none->(hidT s₁.heap H).get? b=some o:=fun e n=>hidT_get e n
  have noD:∀{b:Addr} {o:Obj},s₁.heap.get? b=some o->(∀xs n,o.data≠ .seq xs n)->(∀xs,o.data≠ .fields xs)->H b=none:=fun{b o} e d1 d2=>by
   cases q:H b with
   |none=>rfl
   |some u=>
    rcases hA b (by rw [q];simp)with rfl|rfl
    ·rw [ha]at e;cases e;exact absurd rfl (d1 _ _)
    ·rw [hPt]at e;cases e;exact absurd rfl (d2 _)
  have noA:∀{b:Addr} {o:Obj} {es:Array DictEntry} {ep:Nat},s₁.heap.get? b=some o->o.data= .dict es ep->H b=none:=fun{b o es ep} e d=>noD e (fun xs n z=>by rw [d]at z;cases z) fun xs z=>by rw [d]at z;cases z
  have nsK:∀{b:Addr} {m:Str->Option Value},s₁.heap.Ns b m->(hidT s₁.heap H).Ns b m:=fun{b m} ⟨o,es,ep,e,d,r⟩=>⟨o,es,ep,base_of e (noA e d),d,r⟩
  have hKb:K.In (hidT s₁.heap H):=fun b o e=>base_of (KX b o e) (by
   cases q:H b with
   |none=>rfl
   |some u=>
    rcases hA b (by rw [q];simp)with rfl|rfl
    ·rw [hK (by rw [q];simp)]at e;cases e
    ·rw [hKP]at e;cases e)
  have hM:Mod K mg (hidT s₁.heap H):=⟨hKb,nsK hns,⟨mb,nsK hb,hbb⟩,let⟨mc,h1,h2⟩:=hlim;⟨mc,nsK h1,h2⟩⟩
  have hBb:BltM mg (hidT s₁.heap H):=let⟨bm,ob,b1,b2,b3,b4,b5,b6⟩:=hBm;⟨bm,ob,b1,b2,base_of b3 (noD b3 (fun xs n z=>by rw [b6]at z;cases z) fun xs z=>by rw [b6]at z;cases z),b4,b5,b6⟩
  have e0:Env0 P w K mg (hidT s₁.heap H) callerA [] s₁ H:=⟨rfl,hM,fun b o e=>of_hidT e,Nat.le_of_eq (hidT_size _ _),trivial,fun b hb=>absurd (show b∈([]:List Addr)from hb) (by simp),hok,.of_eq hg⟩
  refine codeAny_mono ((F _ hKb (nsK hns) hBb).run callerA [] s₁ H ⟨[.ref a],[]⟩ [.ref a] [.ref a] _ _ hr e0 (hbind s₁ (.ref a)) (.cons rfl .nil) (hsp H hP hS)) fun r s' h=>?_
  cases r with
  |error e=>exact(hCX H e s' h).elim
  |ok fl=>
   cases fl with
   |next=>exact False.elim h
   |brk=>exact False.elim h
   |cont=>exact False.elim h
   |ret u=>
    obtain⟨v,H',os,bare,un,hok',r',q⟩:=h
    have q':v= .bl true:=q
    subst q'
    obtain rfl:u=Value.bool true:=r'
    have keep:∀b o,b≠Pt->s₁.heap.get? b=some o->s'.heap.get? b=some o:=fun b o nb e=>by
     cases q:H b with
     |none=>exact un.keep b o e q (by intro z;exact absurd (show b∈([]:List Addr)from z) (by simp)) (by simp)
     |some u=>
      rcases hO b nb with z|⟨ob,xs,z⟩
      ·rw [q]at z;cases z
      ·have z2:=un.frzs b ob _ z
       obtain⟨e1,_⟩:=hok b _ z
       obtain⟨e2,_⟩:=hok' b _ z2
       rw [e]at e1;cases e1
       exact e2
    obtain⟨more,z3⟩:=un.tbls Pt _ hP
    have z4:s'.heap.get? Pt=some (PySem.W.tabObj (#[]++more)):=(show ObjOk P w H' s'.heap Pt (.tbl _)from hok' Pt _ z3)
    refine⟨rfl,⟨fun b o e=>?_,fun b o e=>?_⟩,os,bare⟩
    ·by_cases hb:b=Pt
     ·subst hb
      rw [hPt]at e
      cases e
      exact .inr (.inl ⟨(hcd.tab hPt).isCodeTable,rfl, #[],more,rfl,z4⟩)
     ·exact .inl (keep b o hb e)
    ·by_cases hb:b=Pt
     ·subst hb
      exact⟨_,z4⟩
     ·exact⟨o,keep b o hb e⟩
 cases hk:K.lookup a with
 |some o=>
  have e:=KX a o hk
  rw [ha]at e
  cases e
  refine core (fun b=>if b=Pt then some (.tbl #[])else none) (fun b hb=> .inl (if_neg hb)) (if_pos rfl) (.inr ⟨_,vs.toArray,_,hk,rfl,rfl,rfl,by rw [List.size_toArray,lenV];exact hl,by simpa using rv⟩) (fun b u z=>?_) (fun b z=>?_) fun z=>?_
  ·by_cases hb:b=Pt
   ·have z':=(if_pos hb).symm.trans z
    cases z'
    subst hb
    exact hPt
   ·have z':=(if_neg hb).symm.trans z
    cases z'
  ·by_cases hb:b=Pt
   ·exact .inr hb
   ·exact absurd (if_neg hb) z
  ·exact absurd (if_neg naP) z
 |none=>
  refine core (fun b=>if b=Pt then some (.tbl #[])else if b=a then some (.frz {cls:= .type "list",data:= .seq vs.toArray} (.lst (ns.map V.int)))else none) (fun b hb=>?_) (if_pos rfl) (.inl (.inr ⟨{cls:= .type "list",data:= .seq vs.toArray},(if_neg naP).trans (if_pos rfl)⟩)) (fun b u z=>?_) (fun b z=>?_) fun _=>hk
  ·by_cases h2:b=a
   ·exact .inr ⟨_,_,(if_neg hb).trans (if_pos h2)⟩
   ·exact .inl ((if_neg hb).trans (if_neg h2))
  ·by_cases hb:b=Pt
   ·have z':=(if_pos hb).symm.trans z
    cases z'
    subst hb
    exact hPt
   ·have z:=(if_neg hb).symm.trans z
    by_cases h2:b=a
    ·have z':=(if_pos h2).symm.trans z
     cases z'
     subst h2
     exact⟨ha,by rw [List.length_map];exact hl,vs,_,rv,ha⟩
    ·have z':=(if_neg h2).symm.trans z
     cases z'
  ·by_cases hb:b=Pt
   ·exact .inr hb
   ·by_cases h2:b=a
    ·exact .inl h2
    ·exact absurd ((if_neg hb).trans (if_neg h2)) z
theorem walk_ofT {l:PySem.W.OpenLaw} {n k:Nat} {q:Program} {loose:List Str} {XP:(Str->Option Value)->Heap->Prop} {YP:World->Heap->Prop} {d:DefRec} {K:Params->PySem.W.Frag} {CX:CXT} {sp:PySem.W.Frag->Sp} {x:Str} {Pt:Addr}
  (hn:l.most=some n) (hn2:n<=sizeLine) (hdf:d.params.defaults=[]) (hr:Room k callerA)
  (hY:∀(w:World) (h:Heap),YP w h->(K w.params).In h) (hT:∀(w:World) (h:Heap),YP w h->∀P∈[Pt],h.get? P=some (PySem.W.tabObj #[]))
  (F:∀(w:World) (mg:Str->Option Value) (fa:Addr) (h:Heap),(K w.params).In h->h.Ns mainGlobals mg->mg d.name=some (.ref fa)->
   ∃fd:FuncData,(∀(s:Shared) (u:Value),BindsTo s fd ⟨[u],[]⟩ [(x,u)])/\(K w.params).lookup Pt=none/\(∃c,PySem.W.codeHdIn (K w.params) c Pt=true)/\
    ∀base:Heap,(K w.params).In base->base.Ns mainGlobals mg->BltM mg base->FnOk l.prog w (K w.params) mg base CX k fa fd [x] (sp (K w.params)))
  (hsp:∀(K:PySem.W.Frag) (H:Hp) (a:Addr) (ns:List Int),ns.length<=n->H Pt=some (.tbl #[])->SqL K H a (ns.map V.int)->sp K [.ref a] H (fun v _=>v= .bl true) fun _ _ _=>False)
  (hCX:∀(H:Hp) (s:Shared) (e:Value) (s':Shared),CX [] H s (fun _ _ _=>False) e s'->False):
  PySem.W.WalkO q loose XP YP l.row.toRowW d [] (fun f vs=>PySem.call f vs):=by
 refine Att.attach_call hn hdf fun w s₀ s₁ mg mb fa o pm cd doc a vs ns G Y ho hd hcd hmg hobj hints hlen hg=>?_
 have KX:=hY w _ Y
 obtain⟨fd,hb,h1,⟨c,h2⟩,hF⟩:=F w mg fa _ KX G.T.g hmg
 exact law_callT KX G.T.g G.T.b G.T.builtins G.T.nolimit hg G.T.bmain (PySem.W.codeHd_of_K KX h2) (hT w _ Y Pt List.mem_cons_self) h1 hobj hints (Nat.le_trans hlen hn2) hr hF hb (fun H hO hS=>hsp (K w.params) H a ns hlen hO hS) fun H e s'=>hCX H s₁ e s'
end L2
namespace L2
open PySem PySem.Spec PySem.Calls PyProof.Rows
theorem codeAmong_other {pos p2:Pos} {c:Value} (l:List Value) (h:TriplesOk l) (ne:¬(p2.line=pos.line/\p2.col=pos.col)):codeAmong p2 (l++[rawInt pos.line,rawInt pos.col,c])=codeAmong p2 l:=by
 fun_induction TriplesOk l with
 |case1=>
  simp only [List.nil_append,codeAmong,rawInt]
  rw [if_neg]
  intro z
  apply ne
  simp at z
  omega
 |case2 a t b u x rest ih=>
  simp only [List.cons_append,codeAmong]
  rw [ih h]
 |case3 l h1 h2=>exact h.elim
def TabS (H:Hp) (P:Addr) (L:List Pos) (q:Str):Prop:=∃ps,H P=some (.tbl ps)/\TriplesOk ps.toList/\∀pos∈L,codeAmong pos ps.toList=none∨∃c,codeAmong pos ps.toList=some (.ref c)/\H c=some (CodO c q)
theorem TabS.same {H H':Hp} {P:Addr} {L:List Pos} {q:Str} (s:Same H H') (t:TabS H P L q):TabS H' P L q:=by
 obtain⟨ps,e,ok,c⟩:=t
 refine⟨ps,s _ _ e,ok,fun p hp=>?_⟩
 rcases c p hp with c|⟨c',e1,e2⟩
 ·exact .inl c
 ·exact .inr ⟨c',e1,s _ _ e2⟩
theorem TabS.ne {H:Hp} {P:Addr} {L:List Pos} {q:Str} (t:TabS H P L q) {b:Addr} {o:HO} (e:H b=some o) (n:∀ps,o≠ .tbl ps):b≠P:=by
 rintro rfl
 obtain⟨ps,z,_⟩:=t
 rw [e]at z
 exact n ps (Option.some.inj z)
def tLamS (P:Addr) (L:List Pos) (q:Str) (o:Addr->Value->Obj):TE:=fun _ H Q=>TabS H P L q/\∀c' f ctv H',KpP P H H'->TabS H' P L q->H' c'=some (CodO c' q)->H' f=some (LamO f (o c' ctv))->H f=none->Q (.ref f) H'
section
variable {X:Cx} {params:Arguments} {body:Expr} {scope:Scope} {pos:Pos} {clos:List (Str×Addr)} {c P:Addr}
theorem pe_lamS {L:List Pos} (hm:pos∈L) (hL:∀p∈L,p=pos∨¬(p.line=pos.line/\p.col=pos.col)) (hC:PySem.W.CodeHd X.base c P) (hcode:X.env.code= .ref c) (hB:BltM X.mg X.base) (hdef:defaultsOf params X.env=([],[]):=by rfl) (hcl:closureFor scope X.env=pure clos:=by rfl):
  PE X (.Lambda params body scope pos) (tLamS P L (X.env.qual++"<lambda>") fun c' ctv=>PySem.W.kla_obj "<lambda>" (X.env.qual++"<lambda>") params body scope clos ((X.mg "__name__").getD .none) c' ctv):=by
 intro pins s σ H Q I h
 obtain⟨⟨ps,hP,ht,hcs⟩,q⟩:=h
 have hc:=hcs pos hm
 have ha:s.heap.get? P=some (PySem.W.tabObj ps):=(show ObjOk X.prog X.w H s.heap P (.tbl ps)from I.hok P _ hP)
 have hgs:=I.ok.mod.glob.keeps I.bk
 have nP:∀b ob,X.base.get? b=some ob->b≠P:=fun b ob e=>by
  rintro rfl
  have:=(I.bs _ _ e).2
  rw [hP]at this
  cases this
 obtain⟨bm,ob,b1,b2,b3,b4,b5,b6⟩:=hB
 have hbG:bm≠mainGlobals:=fun z=>by
  obtain⟨o,es,ep,e,hd,_⟩:=I.ok.mod.glob
  rw [<-z,b3]at e;cases e;rw [hd]at b6;cases b6
 have hgP:mainGlobals≠P:=by
  obtain⟨o,es,ep,e,hd,_⟩:=I.ok.mod.glob
  exact nP _ _ e
 have hb:s.heap.BuiltinsAt X.mg P:=⟨bm,ob,b1,b2,hbG,nP _ _ b3,I.bk _ _ b3,b4,b5,b6⟩
 refine PySem.W.kla_eval hdef ?_
 rcases hc with hc|⟨c',hc,hH⟩
 ·refine PySem.W.kla_makeFunction hcl I.ok.glob hgs hcode (hC.keeps I.bk) ha ht hc hgP hb fun c' ctv h' tk hx hge hlt hrec htb=>?_
  have J:=lam_laid (tk:=tk) (o:=PySem.W.kla_obj "<lambda>" (X.env.qual++"<lambda>") params body scope clos ((X.mg "__name__").getD .none) c' ctv) I hP hx hge hlt hrec htb rfl
  have fresh:∀b,s.heap.objs.size<=b->H b=none:=fun b hb=>I.hok.fresh hb
  have neP:∀b,s.heap.objs.size<=b->b≠P:=fun b hz e=>by rw [<-e,fresh _ hz]at hP;cases hP
  have hsz:s.heap.objs.size<=h'.objs.size:=Nat.le_of_lt (Nat.lt_of_le_of_lt hge hlt)
  refine⟨.ref h'.objs.size,_,J,rfl,q c' h'.objs.size ctv _ (fun b u n e=>?_) ⟨ps++ #[rawInt pos.line,rawInt pos.col,.ref c'],?_,?_,fun p hp=>?_⟩ ?_ upd_same (fresh _ hsz)⟩
  ·have l:b<s.heap.objs.size:=I.hok.lt e
   rw [upd_ne (Nat.ne_of_lt (Nat.lt_of_lt_of_le l hsz)),upd_ne (Nat.ne_of_lt (Nat.lt_of_lt_of_le l hge)),upd_ne n]
   exact e
  ·rw [upd_ne (Ne.symm (neP _ hsz)),upd_ne (Ne.symm (neP _ hge)),upd_same]
  ·rw [Array.toList_append]
   exact TriplesOk_snoc _ _ _ _ ht
  ·rw [Array.toList_append]
   rcases hL p hp with rfl|ne
   ·exact .inr ⟨c',codeAmong_snoc _ ht hc,by rw [upd_ne (Nat.ne_of_lt hlt),upd_same]⟩
   ·rw [codeAmong_other _ ht ne]
    rcases hcs p hp with z|⟨c2,z1,z2⟩
    ·exact .inl z
    ·have l:c2<s.heap.objs.size:=I.hok.lt z2
     refine .inr ⟨c2,z1,?_⟩
     rw [upd_ne (Nat.ne_of_lt (Nat.lt_of_lt_of_le l hsz)),upd_ne (Nat.ne_of_lt (Nat.lt_of_lt_of_le l hge)),upd_ne fun e=>by rw [e,hP]at z2;cases z2]
     exact z2
  ·rw [upd_ne (Nat.ne_of_lt hlt),upd_same]
 ·refine PySem.W.kla_makeFunctionHit hcl I.ok.glob hgs hcode (hC.keeps I.bk) ha ht hc hb fun ctv h' tk hk hsz=>?_
  have hf:H h'.objs.size=none:=I.hok.fresh hsz
  have J:=I.laid (a:=h'.objs.size) (o:=LamO h'.objs.size (PySem.W.kla_obj "<lambda>" (X.env.qual++"<lambda>") params body scope clos ((X.mg "__name__").getD .none) c' ctv)) (t':=tk) (fun b u e=>Heap.get?_push_of_some _ (hk b u e)) hsz (lamO_ok (Heap.get?_push_size _ rfl))
  have sm:Same H (upd H h'.objs.size (LamO h'.objs.size (PySem.W.kla_obj "<lambda>" (X.env.qual++"<lambda>") params body scope clos ((X.mg "__name__").getD .none) c' ctv))):=fun b u e=>by rw [upd_ne (ne_of_none e hf)];exact e
  exact⟨.ref h'.objs.size,_,J,rfl,q c' h'.objs.size ctv _ (KpP.of sm) (TabS.same sm ⟨ps,hP,ht,hcs⟩) (sm _ _ hH) upd_same hf⟩
end
theorem pe_methDBv {X:Cx} {k i:Nat} {c:Addr} {y:Str} {Cs:Addr->Prop} {m:Str} {ps:List Str} {sp:V->Addr->Sp} {o e:Expr} {es:List Expr} {ta:TE} {t:TA} {apos pos:Pos} {pl:Sem Bool} (he:PE X o ta)
  (D:∀v base u,RelV v u->base.IsCell c (some u)->Dis X.prog X.w X.K X.mg base CX0 k Cs m ps (sp v)) (hr:Room k X.A) (ha:PA X (e::es) t) (hc:X.env.cells.lookup y=some c) (hi:X.N[i]? =some y) (hy:X.env.scope.names.lookup y=some .cell) (hf:X.fn y=true)
  (hst:starEach (e::es) X.env=(false,eval e X.env)::starEach es X.env:=by rfl) (hpl:(backTo pos (starEach es X.env)).any (·.1)=false:=by rfl)
  (ht:eval (.Call (.Attribute o m apos) (e::es) [] pos) X.env=(do
   let ov<-eval o X.env
   standAt apos.atName
   let(f,first)<-holding [ov] (getMethod ov m pl)
   callWith pos f first (backTo pos (starEach (e::es) X.env)) (backToKw pos (keywordEach [] X.env))):=by rfl):
  PE X (.Call (.Attribute o m apos) (e::es) [] pos) (fun σ H Q=>∃v,σ[i]? =some (some v)/\tMethD Cs m (sp v) E0 ta t σ H Q):=by
 intro pins s σ H Q I h
 obtain⟨v,hs,h⟩:=h
 refine PySem.W.methodCall_KW (pl:=pl) (thn (he pins s σ H _ I h) fun u s1 ⟨x,H1,I1,rx,a,C,dx,fs,ex,ea,hC,l,q⟩=>?_) ht
 subst ex
 obtain rfl:u=Value.ref a:=rx
 obtain⟨u1,r1,c1⟩:=I1.cellB hc hi hy hf hs
 obtain⟨cl,f,_,hm,_,_⟩:=(D v _ u1 r1 c1).ex C hC
 refine getmeth_ok I1 ea cl hm l ?_
 refine PySem.W.callWith_K (first:=[.ref a]) (h₀:=X.base) I.ok.mod.kin hm.kp (thn (ha pos pins s1 σ H1 _ I1 q) fun us s2 ⟨vs,H2,I2,r,q2⟩=>⟨I2.kIn,?_⟩) hst hpl
 obtain⟨u2,r2,c2⟩:=I2.cellB hc hi hy hf hs
 obtain⟨_,f',fd,hm',F,hb⟩:=(D v _ u2 r2 c2).ex C hC
 have ef:f'=f:=by
  have:=hm'.at_.symm.trans hm.at_
  cases this
  rfl
 subst ef
 have r':Vals (.ref a::vs) (.ref a::us):= .cons rfl r
 refine wpAny_call (codeAny_mono (F.run X.A X.stack s2 H2 ⟨.ref a::us,[]⟩ (.ref a::us) (.ref a::vs) Q E0 hr I2.env0B (by
  have:=hb s2 (.ref a::us) I2.kIn (by rw [List.append_nil, <-r'.length];exact F.len _ _ _ _ q2)
  rw [List.append_nil]at this
  exact this) r' q2) fun r s' hq=>?_)
 cases r with
 |error e=>exact False.elim hq
 |ok fl=>
  cases fl with
  |ret u=>exact I2.after hq
  |next=>exact False.elim hq
  |brk=>exact False.elim hq
  |cont=>exact False.elim hq
end L2
namespace KY
open PySem PyProof.Rows L2
def top (i:Nat):Stmt:=PySem.Challenge.pw_slanttiles_k14_terms_written_and_read.main.body.getD i (.Pass ⟨0,0,0,0⟩)
abbrev sWhole:Stmt:=top 5
abbrev sWithin:Stmt:=top 6
abbrev sAreSteps:Stmt:=top 27
abbrev sLinesOf:Stmt:=top 28
abbrev sFirst:Stmt:=top 29
abbrev sCheckT:Stmt:=top 30
abbrev sPair:Stmt:=top 38
abbrev sWritten:Stmt:=top 39
abbrev sRead:Stmt:=top 40
abbrev sCell:Stmt:=top 42
abbrev sWell:Stmt:=top 43
abbrev sDraw:Stmt:=top 44
abbrev sSteps:Stmt:=top 45
abbrev sSome:Stmt:=top 46
abbrev sNumber:Stmt:=top 47
abbrev sTold:Stmt:=top 48
abbrev sMade:Stmt:=top 49
abbrev sText:Stmt:=top 50
abbrev sAlike:Stmt:=top 51
abbrev sKind:Stmt:=top 52
abbrev sLaw:Stmt:=top 53
abbrev sTInner:Stmt:=inClass (top 16) 0
abbrev sTFault:Stmt:=inClass (top 16) 1
abbrev sTTakes:Stmt:=inClass (top 16) 4
abbrev sTDepth:Stmt:=inClass (top 16) 5
abbrev sTParts:Stmt:=inClass (top 16) 6
abbrev sNInit:Stmt:=inClass (top 17) 0
abbrev sNFault:Stmt:=inClass (top 17) 1
abbrev sKInit:Stmt:=inClass (top 18) 0
abbrev sKFault:Stmt:=inClass (top 18) 1
abbrev sKTakes:Stmt:=inClass (top 18) 4
abbrev sPInit:Stmt:=inClass (top 19) 0
abbrev sPInner:Stmt:=inClass (top 19) 1
abbrev sRInit:Stmt:=inClass (top 25) 0
abbrev sRInner:Stmt:=inClass (top 25) 1
abbrev sRFault:Stmt:=inClass (top 25) 2
abbrev sCInit:Stmt:=inClass (top 26) 0
abbrev sCInner:Stmt:=inClass (top 26) 1
abbrev sShownW:Stmt:=inClass (top 19) 2
abbrev sNValue:Stmt:=inClass (top 17) 2
abbrev sNShown:Stmt:=inClass (top 17) 3
abbrev sKValue:Stmt:=inClass (top 18) 2
abbrev sKShown:Stmt:=inClass (top 18) 3
abbrev sAValue:Stmt:=inClass (top 20) 0
abbrev sAShown:Stmt:=inClass (top 20) 1
abbrev sLValue:Stmt:=inClass (top 21) 0
abbrev sLShown:Stmt:=inClass (top 21) 1
abbrev sMValue:Stmt:=inClass (top 22) 0
abbrev sMShown:Stmt:=inClass (top 22) 1
abbrev sIValue:Stmt:=inClass (top 23) 0
abbrev sIShown:Stmt:=inClass (top 23) 1
abbrev sXValue:Stmt:=inClass (top 24) 0
abbrev sXShown:Stmt:=inClass (top 24) 1
abbrev sRValue:Stmt:=inClass (top 25) 3
abbrev sRShown:Stmt:=inClass (top 25) 4
abbrev sCValue:Stmt:=inClass (top 26) 2
abbrev sCShown:Stmt:=inClass (top 26) 3
abbrev sRInit_:Stmt:=inClass (top 37) 0
abbrev sRAhead_:Stmt:=inClass (top 37) 1
abbrev sRPass_:Stmt:=inClass (top 37) 2
abbrev sRFig_:Stmt:=inClass (top 37) 3
abbrev sRFigs_:Stmt:=inClass (top 37) 4
abbrev sRNum_:Stmt:=inClass (top 37) 5
abbrev sRTake_:Stmt:=inClass (top 37) 6
abbrev sRWord_:Stmt:=inClass (top 37) 7
abbrev sRBrack_:Stmt:=inClass (top 37) 8
abbrev sRBehind_:Stmt:=inClass (top 37) 9
abbrev sRPart_:Stmt:=inClass (top 37) 10
theorem Paired.snoc' {α β:Type} {F:α->β->Prop}:∀{l₁:List α} {l₂:List β} {x:α} {y:β},Paired F l₁ l₂->F x y->Paired F (l₁++[x]) (l₂++[y])
 |_,_,_,_,.nil,h=> .cons h .nil
 |_,_,_,_,.cons a t,h=> .cons a (Paired.snoc' t h)
abbrev natV (n:Nat):V:=V.int (n:Int)
def WellAt (H:Hp) (a:Addr):Prop:=∃x y z:Int,H a=some (.lst [.int x,.int y,.int z])
def Kp (a:Addr) (H H':Hp):Prop:=∀b o,H b=some o->b≠a->H' b=some o
theorem Kp.trans {a:Addr} {H H1 H2:Hp} (x:Kp a H H1) (y:Kp a H1 H2):Kp a H H2:=fun b o h n=>y b o (x b o h n) n
theorem Kp.same {a:Addr} {H H1 H2:Hp} (x:Kp a H H1) (y:Same H1 H2):Kp a H H2:=fun b o h n=>y b o (x b o h n)
theorem Kp.of {a:Addr} {H H':Hp} (x:Same H H'):Kp a H H':=fun b o h _=>x b o h
theorem sameNew {H:Hp} {p:Addr} {o:HO} (h:H p=none):Same H (upd H p o):=fun b u e=>by
 rw [upd_ne (ne_of_none e h)]
 exact e
theorem sameUpd {H H1:Hp} {p:Addr} {o:HO} (h:H p=none) (s:Same H H1):Same H (upd H1 p o):=fun b u e=>by
 rw [upd_ne (ne_of_none e h)]
 exact s b u e
theorem kpUpd {H:Hp} {p:Addr} {o:HO}:Kp p H (upd H p o):=fun b u e n=>by
 rw [upd_ne n]
 exact e
theorem Kp.tup {a b:Addr} {H H':Hp} {xs:List V} (k:Kp a H H') (w:WellAt H a) (h:H b=some (.tup xs)):H' b=some (.tup xs):=by
 obtain⟨x,y,z,e⟩:=w
 exact k b _ h (ne_of h e (by intro q;cases q))
theorem WellAt.new {H:Hp} {a p:Addr} {o:HO} (h:WellAt H a) (hp:H p=none):WellAt (upd H p o) a:=by
 obtain⟨x,y,z,e⟩:=h
 exact⟨x,y,z,by rw [upd_ne (ne_of_none e hp)];exact e⟩
theorem WellAt.ne {H:Hp} {a p:Addr} (h:WellAt H a) (hp:H p=none):p≠a:=by
 obtain⟨x,y,z,e⟩:=h
 exact Ne.symm (ne_of_none e hp)
theorem small {n:Nat} (h:n<=10000):n<sizeLine:=by
 have:(10000:Nat)<sizeLine:=by decide
 omega
theorem pe_ty {X:Cx} {x:Str} {n:String} {pos:Pos} (hg:Gl X x) (hm:X.mg x=none) (hv:bootBuiltins x=some (.type n)) (hn:x≠"__name__":=by decide) (hd:(x==("__debug__":Str))=false:=by decide):PE X (.Name x pos) (tC (.ty n)):=pe_bltn (v:= .ty n) hg hm hv rfl hn hd
structure Txt (K:PySem.W.Frag) (mg:Str->Option Value):Prop where
 isinstance:mg "isinstance"=none
 int:mg "int"=none
 list:mg "list"=none
 tuple:mg "tuple"=none
 len:mg "len"=none
 range:mg "range"=none
 max:mg "max"=none
 min:mg "min"=none
 sorted:mg "sorted"=none
 sum:mg "sum"=none
 set:mg "set"=none
 bool:mg "bool"=none
 all:mg "all"=none
 any:mg "any"=none
 str:mg "str"=none
 dict:mg "dict"=none
 gn:∃t,mg "GREATEST_NUMBER"=some (.int 1000000000000 t)
 gd:∃t,mg "GREATEST_DIVISOR"=some (.int 1000000000 t)
 gb:∃t,mg "GREATEST_BACK"=some (.int 3 t)
 gst:∃t,mg "GREATEST_STEP"=some (.int 9 t)
 mst:∃t,mg "MOST_STEPS_terms"=some (.int 3 t)
 mdp:∃t,mg "MOST_DEPTH"=some (.int 12 t)
 mpa:∃t,mg "MOST_PARTS"=some (.int 60 t)
 mtk:∃t,mg "MOST_TAKES"=some (.int 6 t)
 mfi:∃t,mg "MOST_FIGURES"=some (.int 13 t)
 mst2:∃t,mg "MOST_STEPS_term_texts"=some (.int 3 t)
 mwi:∃t,mg "MOST_WITHIN"=some (.int 12 t)
def loopBody (s:Stmt):List Stmt:=match s with
 | .For _ _ b _ _=>b
 | .While _ b _ _=>b
 | .If _ b _ _=>b
 |_=>[]
end KY
namespace KY
open PySem PyProof.Rows L2
inductive Tm where
 |num (n:Int)
 |take (b:Int) (ss:List Int)
 |rest (t:Tm) (y:Int)
 |cho (a b c:Tm)
 |bin (k:Fin 5) (a b:Tm)
abbrev Tk:Type:=Int×List Int
def opn (k:Fin 5):Str:=match k with|0=>"+"|1=>"-"|2=>"*"|3=>"min"|4=>"max"
def TupAt (H:Hp):Tm->V->Prop
 | .num n,v=>∃p,v= .ref p/\H p=some (.tup [.str "number",.int n])
 | .take b ss,v=>∃p q,v= .ref p/\H p=some (.tup [.str "take",.int b,.ref q])/\H q=some (.tup (ss.map V.int))
 | .rest t y,v=>∃p u,v= .ref p/\H p=some (.tup [.str "rest",u,.int y])/\TupAt H t u
 | .cho a b c,v=>∃p x y z,v= .ref p/\H p=some (.tup [.str "?",x,y,z])/\TupAt H a x/\TupAt H b y/\TupAt H c z
 | .bin k a b,v=>∃p x y,v= .ref p/\H p=some (.tup [.str (opn k),x,y])/\TupAt H a x/\TupAt H b y
theorem TupAt.mono {H H':Hp} (k:∀c zs,H c=some (.tup zs)->H' c=some (.tup zs)):∀{t:Tm} {v:V},TupAt H t v->TupAt H' t v
 | .num _,_,⟨p,e,h⟩=>⟨p,e,k _ _ h⟩
 | .take _ _,_,⟨p,q,e,h,h2⟩=>⟨p,q,e,k _ _ h,k _ _ h2⟩
 | .rest _ _,_,⟨p,u,e,h,h2⟩=>⟨p,u,e,k _ _ h,h2.mono k⟩
 | .cho _ _ _,_,⟨p,x,y,z,e,h,h1,h2,h3⟩=>⟨p,x,y,z,e,k _ _ h,h1.mono k,h2.mono k,h3.mono k⟩
 | .bin _ _ _,_,⟨p,x,y,e,h,h1,h2⟩=>⟨p,x,y,e,k _ _ h,h1.mono k,h2.mono k⟩
theorem TupAt.same {H H':Hp} (s:Same H H') {t:Tm} {v:V} (h:TupAt H t v):TupAt H' t v:=h.mono fun c _ e=>s c _ e
structure Cn where
 num:Addr
 take:Addr
 rest:Addr
 cho:Addr
 bin:Fin 5->Addr
def cls (N:Cn):Tm->Addr
 | .num _=>N.num
 | .take _ _=>N.take
 | .rest _ _=>N.rest
 | .cho _ _ _=>N.cho
 | .bin k _ _=>N.bin k
def IsC (N:Cn) (C:Addr):Prop:=C=N.num∨C=N.take∨C=N.rest∨C=N.cho∨∃k,C=N.bin k
theorem isC (N:Cn):∀t:Tm,IsC N (cls N t)
 | .num _=> .inl rfl
 | .take _ _=> .inr (.inl rfl)
 | .rest _ _=> .inr (.inr (.inl rfl))
 | .cho _ _ _=> .inr (.inr (.inr (.inl rfl)))
 | .bin k _ _=> .inr (.inr (.inr (.inr ⟨k,rfl⟩)))
def FldAt (N:Cn) (H:Hp) (fs:List (Str×V)):Tm->Prop
 | .num n=>fs=[(("value":Str),V.int n)]
 | .take b ss=>∃q,fs=[(("back":Str),V.int b),(("steps":Str),V.ref q)]/\H q=some (.tup (ss.map V.int))
 | .rest t y=>∃p dx gs,fs=[(("one":Str),V.ref p),(("by":Str),V.int y)]/\H p=some (.ins (cls N t) dx gs)/\FldAt N H gs t
 | .cho a b c=>∃p dp ps q dq qs r dr rs,fs=[(("test":Str),V.ref p),(("one":Str),V.ref q),(("other":Str),V.ref r)]/\(H p=some (.ins (cls N a) dp ps)/\FldAt N H ps a)/\(H q=some (.ins (cls N b) dq qs)/\FldAt N H qs b)/\H r=some (.ins (cls N c) dr rs)/\FldAt N H rs c
 | .bin _ a b=>∃p dp ps q dq qs,fs=[(("one":Str),V.ref p),(("other":Str),V.ref q)]/\(H p=some (.ins (cls N a) dp ps)/\FldAt N H ps a)/\H q=some (.ins (cls N b) dq qs)/\FldAt N H qs b
def KpN (H H':Hp):Prop:=∀c o,H c=some o->(∀xs,o≠ .lst xs)->H' c=some o
theorem KpN.of {H H':Hp} (s:Same H H'):KpN H H':=fun c o e _=>s c o e
theorem FldAt.keep {N:Cn} {H H':Hp} (s:KpN H H'):∀{t:Tm} {fs:List (Str×V)},FldAt N H fs t->FldAt N H' fs t
 | .num _,_,h=>h
 | .take _ _,_,⟨q,e,h⟩=>⟨q,e,s _ _ h (by intro _ z;cases z)⟩
 | .rest _ _,_,⟨p,dx,gs,e,h,h2⟩=>⟨p,dx,gs,e,s _ _ h (by intro _ z;cases z),h2.keep s⟩
 | .cho _ _ _,_,⟨p,dp,ps,q,dq,qs,r,dr,rs,e,⟨h1,g1⟩,⟨h2,g2⟩,h3,g3⟩=>⟨p,dp,ps,q,dq,qs,r,dr,rs,e,⟨s _ _ h1 (by intro _ z;cases z),g1.keep s⟩,⟨s _ _ h2 (by intro _ z;cases z),g2.keep s⟩,s _ _ h3 (by intro _ z;cases z),g3.keep s⟩
 | .bin _ _ _,_,⟨p,dp,ps,q,dq,qs,e,⟨h1,g1⟩,h2,g2⟩=>⟨p,dp,ps,q,dq,qs,e,⟨s _ _ h1 (by intro _ z;cases z),g1.keep s⟩,s _ _ h2 (by intro _ z;cases z),g2.keep s⟩
theorem FldAt.same {N:Cn} {H H':Hp} (s:Same H H') {t:Tm} {fs:List (Str×V)} (h:FldAt N H fs t):FldAt N H' fs t:=h.keep (KpN.of s)
def TrmAt (N:Cn) (H:Hp) (t:Tm) (v:V):Prop:=∃p dx fs,v= .ref p/\H p=some (.ins (cls N t) dx fs)/\FldAt N H fs t
theorem TrmAt.same {N:Cn} {H H':Hp} (s:Same H H') {t:Tm} {v:V} (h:TrmAt N H t v):TrmAt N H' t v:=let⟨p,dx,fs,e,h1,h2⟩:=h;⟨p,dx,fs,e,s _ _ h1,h2.same s⟩
theorem TrmAt.keep {N:Cn} {H H':Hp} (s:KpN H H') {t:Tm} {v:V} (h:TrmAt N H t v):TrmAt N H' t v:=let⟨p,dx,fs,e,h1,h2⟩:=h;⟨p,dx,fs,e,s _ _ h1 (by intro _ z;cases z),h2.keep s⟩
def kids:Tm->List Tm
 | .num _=>[]
 | .take _ _=>[]
 | .rest t _=>[t]
 | .cho a b c=>[a,b,c]
 | .bin _ a b=>[a,b]
def ht:Tm->Nat
 | .num _=>1
 | .take _ _=>1
 | .rest t _=>ht t+1
 | .cho a b c=>max (ht a) (max (ht b) (ht c))+1
 | .bin _ a b=>max (ht a) (ht b)+1
def prts:Tm->Nat
 | .num _=>1
 | .take _ _=>1
 | .rest t _=>1+prts t
 | .cho a b c=>1+(prts a+(prts b+prts c))
 | .bin _ a b=>1+(prts a+prts b)
def raw:Tm->List Tk
 | .num _=>[]
 | .take b ss=>[(b,ss)]
 | .rest t _=>raw t
 | .cho a b c=>raw a++(raw b++raw c)
 | .bin _ a b=>raw a++raw b
theorem ht_pos:∀t,0<ht t
 | .num _=>Nat.one_pos
 | .take _ _=>Nat.one_pos
 | .rest _ _=>Nat.succ_pos _
 | .cho _ _ _=>Nat.succ_pos _
 | .bin _ _ _=>Nat.succ_pos _
theorem kid_ht:∀{t k:Tm},k∈kids t->ht k<ht t
 | .rest t _,k,h=>by rw [List.mem_singleton.mp h,ht];omega
 | .cho a b c,k,h=>by
  simp only [kids,List.mem_cons,List.not_mem_nil,or_false]at h
  rw [ht]
  rcases h with rfl|rfl|rfl<;>omega
 | .bin _ a b,k,h=>by
  simp only [kids,List.mem_cons,List.not_mem_nil,or_false]at h
  rw [ht]
  rcases h with rfl|rfl<;>omega
theorem kid_len (t:Tm):(kids t).length<=3:=by cases t<;>simp [kids]
theorem kid_raw:∀{t k:Tm},k∈kids t->∀x∈raw k,x∈raw t
 | .rest t _,k,h,x,hx=>by rw [List.mem_singleton.mp h]at hx;exact hx
 | .cho a b c,k,h,x,hx=>by
  simp only [kids,List.mem_cons,List.not_mem_nil,or_false]at h
  simp only [raw,List.mem_append]
  rcases h with rfl|rfl|rfl
  ·exact .inl hx
  ·exact .inr (.inl hx)
  ·exact .inr (.inr hx)
 | .bin _ a b,k,h,x,hx=>by
  simp only [kids,List.mem_cons,List.not_mem_nil,or_false]at h
  simp only [raw,List.mem_append]
  rcases h with rfl|rfl
  ·exact .inl hx
  ·exact .inr hx
def IsTks (t:Tm) (l:List Tk):Prop:=l.Pairwise (fun x y=>lexP x y=true)/\∀x,x∈l↔x∈raw t
theorem lexP_asym {x y:Tk} (h:lexP x y=true):lexP y x=false:=by
 unfold lexP at h⊢
 by_cases e:x.1=y.1
 ·rw [if_pos e]at h
  rw [if_pos e.symm]
  exact lexB_asym _ _ h
 ·rw [if_neg e,decide_eq_true_iff]at h
  rw [if_neg (Ne.symm e),decide_eq_false_iff_not]
  omega
theorem srt_uniq:∀{l m:List Tk},l.Pairwise (fun x y=>lexP x y=true)->m.Pairwise (fun x y=>lexP x y=true)->(∀x,x∈l↔x∈m)->l=m
 | [],[],_,_,_=>rfl
 | [],b::m,_,_,h=>absurd ((h b).mpr List.mem_cons_self) (by simp)
 |a::l,[],_,_,h=>absurd ((h a).mp List.mem_cons_self) (by simp)
 |a::l,b::m,h1,h2,h=>by
  have ha:=List.pairwise_cons.mp h1
  have hb:=List.pairwise_cons.mp h2
  have O:∀x y:Tk,lexP x y=true->lexP y x=false:=fun x y=>lexP_asym
  have irr:∀x:Tk,lexP x x=true->False:=fun x hx=>by have:=O x x hx;rw [hx]at this;cases this
  have e:a=b:=by
   rcases List.mem_cons.mp ((h a).mp List.mem_cons_self)with z|z
   ·exact z
   ·rcases List.mem_cons.mp ((h b).mpr List.mem_cons_self)with y|y
    ·exact y.symm
    ·have:=O _ _ (ha.1 b y)
     rw [hb.1 a z]at this
     cases this
  subst e
  rw [srt_uniq ha.2 hb.2 fun x=>⟨fun hx=>?_,fun hx=>?_⟩]
  ·rcases List.mem_cons.mp ((h x).mp (List.mem_cons_of_mem _ hx))with z|z
   ·exact(irr a (by have:=ha.1 x hx;rw [z]at this;exact this)).elim
   ·exact z
  ·rcases List.mem_cons.mp ((h x).mpr (List.mem_cons_of_mem _ hx))with z|z
   ·exact(irr a (by have:=hb.1 x hx;rw [z]at this;exact this)).elim
   ·exact z
theorem IsTks.uniq {t:Tm} {l m:List Tk} (h1:IsTks t l) (h2:IsTks t m):l=m:=srt_uniq h1.1 h2.1 fun x=>(h1.2 x).trans (h2.2 x).symm
def GoodT (x:Tk):Prop:=1<=x.1/\x.1<=3/\∀s∈x.2, -9<=s/\s<=9
def Wf:Tm->Prop
 | .num n=> -1000000000000<=n/\n<=1000000000000
 | .take _ _=>True
 | .rest t y=>1<=y/\y<=1000000000/\Wf t
 | .cho a b c=>Wf a/\Wf b/\Wf c
 | .bin _ a b=>Wf a/\Wf b
theorem hu_of2 {A:Around} {k:Nat} (hr:Room k A):A.units+101<cLine:=by have:=hr.un;omega
end KY
namespace KY
open PySem PyProof.Rows L2
theorem iteTe {c:Bool} {a b:Prop} (h:c=true) (x:a):if c=true then a else b:=by rw [if_pos h];exact x
theorem iteFe {c:Bool} {a b:Prop} (h:c=false) (x:b):if c=true then a else b:=by rw [if_neg (by rw [h];exact Bool.false_ne_true)];exact x
theorem WellAt.same {a:Addr} {H H':Hp} (s:Same H H') (h:WellAt H a):WellAt H' a:=by
 obtain⟨x,y,z,e⟩:=h
 exact⟨x,y,z,s _ _ e⟩
def spCell (K:PySem.W.Frag):Sp:=fun vs H Q _=>∃(a:Addr) (ns:List Int) (k:Nat),vs=[.ref a,natV k]/\SqL K H a (ns.map V.int)/\∀c:Int,Q (.int c) H
def spWell (K:PySem.W.Frag):Sp:=fun vs H Q _=>∃(a:Addr) (ns:List Int) (k:Nat),vs=[.ref a,natV k]/\SqL K H a (ns.map V.int)/\∀(p:Addr) (H':Hp),Same H H'->H p=none->WellAt H' p->Q (.ref p) H'
def spDraw:Sp:=fun vs H Q _=>∃(a:Addr) (m:Int),vs=[.ref a,.int m]/\WellAt H a/\0<m/\m<2 ^ 62/\∀(n:Nat) (H':Hp),(n:Int)<m->Kp a H H'->WellAt H' a->Q (natV n) H'
theorem modb (x:Int): -(2 ^ 64)<x % 2147483647/\x % 2147483647<2 ^ 64:=by
 have h1:=Int.emod_nonneg x (show(2147483647:Int)≠0 by decide)
 have h2:=Int.emod_lt_of_pos x (show(0:Int)<2147483647 by decide)
 omega
theorem modc (x:Int): -(2 ^ 64)<x % 2147483399/\x % 2147483399<2 ^ 64:=by
 have h1:=Int.emod_nonneg x (show(2147483399:Int)≠0 by decide)
 have h2:=Int.emod_lt_of_pos x (show(0:Int)<2147483399 by decide)
 omega
section
variable {P:Program} {w:World} {K:PySem.W.Frag} {mg:Str->Option Value} {base:Heap}
theorem scCell:FnScope ["_law_script","_law_k"] ["_law_script","_law_k"] (defScope sCell):=⟨rfl,rfl,rfl,by decide+kernel,rfl,by decide+kernel,by decide+kernel⟩
theorem ok_cell {f:Addr} {fd:FuncData} (F:Fun K "_law_cell_at" "_law_cell_at" sCell f fd) (T:Txt K mg):FnOk P w K mg base CX0 1 f fd ["_law_script","_law_k"] (spCell K):=by
 refine F.ok scCell (fun vs H Q E h=>?_) (fun cdv A outer s H vs Q E hr h=>?_)
 ·obtain⟨a,ns,k,rfl,_⟩:=h
  rfl
 ·obtain⟨a,ns,k,rfl,hS,q⟩:=h
  refine⟨_,(pss_cons (ps_if (pt_cmpR op_lt (pv 1) (pe_callB call_len_seq (by rfl) T.len PySem.boot_len (pa_cons (pv 0) pa_nil)) (nomark _)) (pss_one (ps_ret (pe_ix ix_list (pv 0) (pv 1) (fun _ _=>rfl)))) pss_nil) (pss_one (ps_ret pe_int))),?_⟩
  refine⟨_,rfl,_,rfl,a,_,rfl,.inl hS,_,_,rfl,rfl,_,rfl,?_⟩
  by_cases h:k<ns.length
  ·refine iteTe (decide_eq_true (by rw [List.length_map];omega)) ?_
   exact⟨_,rfl,_,rfl,a,_,_,_,rfl,rfl,hS,atI_nat (show(ns.map V.int)[k]? =some (.int ns[k]) by rw [List.getElem?_map,List.getElem?_eq_getElem h];rfl),q _⟩
  ·exact iteFe (decide_eq_false (by rw [List.length_map];omega)) (q 0)
theorem scWell:FnScope ["_law_script","_law_k","_law_cell"] ["_law_script","_law_k"] (defScope sWell):=⟨rfl,rfl,rfl,by decide+kernel,rfl,by decide+kernel,by decide+kernel⟩
theorem ok_well {f:Addr} {fd:FuncData} (F:Fun K "_law_well" "_law_well" sWell f fd) (c_cell:Cal P w K mg base CX0 1 "_law_cell_at" ["_law_script","_law_k"] (spCell K)) (T:Txt K mg):FnOk P w K mg base CX0 2 f fd ["_law_script","_law_k"] (spWell K):=by
 refine F.ok scWell (fun vs H Q E h=>?_) (fun cdv A outer s H vs Q E hr h=>?_)
 ·obtain⟨a,ns,k,rfl,_⟩:=h
  rfl
 ·obtain⟨a,ns,k,rfl,hS,q⟩:=h
  refine⟨_,(pss_cons (ps_set (i:=2) scWell.nd rfl (Or.inl rfl) (pe_c c_cell (hr.mono (by omega)) rfl pass0 (pa_cons (pv 0) (pa_cons (pv 1) pa_nil)))) (pss_one (ps_ret (pe_lst (pa_cons (pe_op op_add (pe_op op_mod (pv 2) pe_int) (pv 1)) (pa_cons (pe_ix ix_list (pe_lst (pa_cons pe_int (pa_cons (pv 2) pa_nil))) (pe_callTy call_int1 rfl T.int boot_int (pa_cons (pe_cmpR op_ge (pv 2) (pe_op op_pow pe_int pe_int) (nomark _)) pa_nil)) (fun _ _=>rfl)) (pa_cons pe_int pa_nil))))))),?_⟩
  refine⟨_,rfl,_,rfl,a,ns,k,rfl,hS,fun c=>?_⟩
  refine⟨_,rfl,_,_,rfl,rfl,(by show(0:Int)<2147483647;decide),_,rfl,_,_,rfl,rfl,?_⟩
  refine⟨_,rfl,by show 2<=sizeLine;decide,fun l hl=>?_⟩
  generalize g:upd H l _=H1
  obtain⟨s1,e1⟩:=new_of hl g
  refine⟨_,rfl,_,_,rfl,rfl,⟨by decide,by decide,by decide⟩,_,_,rfl,rfl,.inr ⟨_,rfl,?_⟩⟩
  obtain⟨y,hy⟩:∃y:Int,atI [V.int 0,V.int c] (if decide (10 ^ 18<=c)=true then 1 else 0)=some (.int y):=by
   by_cases h:(10:Int) ^ 18<=c
   ·rw [decide_eq_true h];exact⟨c,rfl⟩
   ·rw [decide_eq_false h];exact⟨0,rfl⟩
  refine⟨l,_,_,_,rfl,rfl,SqL.of e1,hy,?_⟩
  refine⟨by show 3<=sizeLine;decide,fun p hp=>q p _ (s1.trans (sameNew hp)) (s1.free hp) ⟨_,_,_,upd_same⟩⟩
theorem scDraw:FnScope ["_law_well_here","_law_most","_law_number_here"] ["_law_well_here","_law_most"] (defScope sDraw):=⟨rfl,rfl,rfl,by decide+kernel,rfl,by decide+kernel,by decide+kernel⟩
theorem ok_draw {f:Addr} {fd:FuncData} (F:Fun K "_law_draw" "_law_draw" sDraw f fd):FnOk P w K mg base CX0 1 f fd ["_law_well_here","_law_most"] spDraw:=by
 refine F.ok scDraw (fun vs H Q E h=>?_) (fun cdv A outer s H vs Q E hr h=>?_)
 ·obtain⟨a,m,rfl,_⟩:=h
  rfl
 ·obtain⟨a,m,rfl,⟨x,y,z,ha⟩,hm,hm2,k⟩:=h
  have fin:∀(t:Int) (H':Hp),Kp a H H'->WellAt H' a->Q (.int (t % m)) H':=fun t H' kp w'=>by
   have h1:=Int.emod_nonneg t (show m≠0 by omega)
   have h2:=Int.emod_lt_of_pos t hm
   have:=k (t % m).toNat H' (by omega) kp w'
   rw [show natV (t % m).toNat=V.int (t % m) by show V.int _=_;congr 1;omega]at this
   exact this
  refine⟨_,(pss_cons (ps_if (pt_cmpR op_gt (pe_ix ix_list (pv 0) pe_int (fun _ _=>rfl)) pe_int (nomark _)) (pss_cons (ps_set (i:=2) scDraw.nd rfl (Or.inl rfl) (pe_op op_mod (pe_ix ix_list (pv 0) pe_int (fun _ _=>rfl)) (pv 1))) (pss_cons (ps_asg (pe_op op_fdivM (pe_ix ix_list (pv 0) pe_int (fun _ _=>rfl)) (pv 1)) (pg_sub (pv 0) pe_int set_list)) (pss_one (ps_ret (pv 2))))) pss_nil) (pss_cons (ps_asg (pe_op op_add (pe_ix ix_list (pv 0) pe_int (fun _ _=>rfl)) pe_int) (pg_sub (pv 0) pe_int set_list)) (pss_cons (ps_set (i:=2) scDraw.nd rfl (Or.inl rfl) (pe_op op_mod (pe_op op_mul (pe_op op_add (pe_op op_add (pe_ix ix_list (pv 0) pe_int (fun _ _=>rfl)) (pe_op op_mul pe_int (pe_ix ix_list (pv 0) pe_int (fun _ _=>rfl)))) pe_int) pe_int) pe_int)) (pss_cons (ps_set (i:=2) scDraw.nd rfl (Or.inl rfl) (pe_op op_mod (pe_op op_mul (pv 2) (pe_op op_add (pe_op op_fdivM (pv 2) pe_int) pe_int)) pe_int)) (pss_cons (ps_set (i:=2) scDraw.nd rfl (Or.inl rfl) (pe_op op_mod (pe_op op_mul (pv 2) (pe_op op_add (pe_op op_fdivM (pv 2) pe_int) pe_int)) pe_int)) (pss_one (ps_ret (pe_op op_mod (pe_op op_add (pe_op op_mul (pv 2) pe_int) (pe_op op_fdivM (pv 2) pe_int)) (pv 1))))))))),?_⟩
  refine⟨_,rfl,a,_,_,_,rfl,rfl,SqL.of ha,rfl,_,_,rfl,rfl,_,rfl,?_⟩
  refine ite2 (fun _=>?_) (fun _=>?_)
  ·refine⟨_,rfl,a,_,_,_,rfl,rfl,SqL.of ha,rfl,_,rfl,_,_,rfl,rfl,hm,?_⟩
   refine⟨_,rfl,a,_,_,_,rfl,rfl,SqL.of ha,rfl,_,rfl,_,_,rfl,rfl,⟨hm,hm2⟩,?_⟩
   refine⟨_,rfl,a,_,_,1,rfl,rfl,ha,rfl,?_⟩
   exact⟨_,rfl,fin _ _ kpUpd ⟨_,_,_,upd_same⟩⟩
  ·refine⟨_,rfl,a,_,_,_,rfl,rfl,SqL.of ha,rfl,_,_,rfl,rfl,?_⟩
   refine⟨_,rfl,a,_,_,2,rfl,rfl,ha,rfl,?_⟩
   have hb:(upd H a (.lst ([V.int x,V.int y,V.int z].set 2 (.int (z+1))))) a=some (.lst [.int x,.int y,.int (z+1)]):=upd_same
   refine⟨_,rfl,a,_,_,_,rfl,rfl,SqL.of hb,rfl,_,rfl,a,_,_,_,rfl,rfl,SqL.of hb,rfl,_,_,rfl,rfl,.inl ⟨by decide,by decide⟩,_,_,rfl,rfl,_,_,rfl,rfl,_,_,rfl,rfl,.inr ⟨by decide,by decide⟩,_,_,rfl,rfl,(by show(0:Int)<2147483647;decide),?_⟩
   refine⟨_,rfl,_,rfl,_,_,rfl,rfl,⟨by decide,by decide⟩,_,_,rfl,rfl,_,_,rfl,rfl,.inl (modb _),_,_,rfl,rfl,(by show(0:Int)<2147483647;decide),?_⟩
   refine⟨_,rfl,_,rfl,_,_,rfl,rfl,⟨by decide,by decide⟩,_,_,rfl,rfl,_,_,rfl,rfl,.inl (modb _),_,_,rfl,rfl,(by show(0:Int)<2147483399;decide),?_⟩
   refine⟨_,rfl,_,_,rfl,rfl,.inl (modc _),_,rfl,_,_,rfl,rfl,⟨by decide,by decide⟩,_,_,rfl,rfl,_,rfl,_,_,rfl,rfl,hm,?_⟩
   exact fin _ _ kpUpd ⟨_,_,_,upd_same⟩
end
end KY
namespace KY
open PySem PyProof.Rows L2
structure Cf (K:PySem.W.Frag) (C:Addr) (fs:List Str):Prop where
 cl:Cls K C
 na:∀f∈fs,NoAttr K C f
def spI1 (K:PySem.W.Frag) (a:Str):Sp:=fun vs H Q _=>∃(p C dx:Addr) (x:V),vs=[.ref p,x]/\H p=some (.ins C dx [])/\Cf K C [a]/\Q .non (upd H p (.ins C dx [(a,x)]))
def spI2 (K:PySem.W.Frag) (a b:Str):Sp:=fun vs H Q _=>∃(p C dx:Addr) (x y:V),vs=[.ref p,x,y]/\H p=some (.ins C dx [])/\Cf K C [a,b]/\Q .non (upd (upd H p (.ins C dx [(a,x)])) p (.ins C dx [(a,x),(b,y)]))
def spI3 (K:PySem.W.Frag) (a b c:Str):Sp:=fun vs H Q _=>∃(p C dx:Addr) (x y z:V),vs=[.ref p,x,y,z]/\H p=some (.ins C dx [])/\Cf K C [a,b,c]/\Q .non (upd (upd (upd H p (.ins C dx [(a,x)])) p (.ins C dx [(a,x),(b,y)])) p (.ins C dx [(a,x),(b,y),(c,z)]))
section
variable {P:Program} {w:World} {K:PySem.W.Frag} {mg:Str->Option Value} {base:Heap}
theorem scNInit:FnScope ["self","value"] ["self","value"] (defScope sNInit):=⟨rfl,rfl,rfl,by decide+kernel,rfl,by decide+kernel,by decide+kernel⟩
theorem ok_ninit {f:Addr} {fd:FuncData} (F:Fun K "__init__" "Number.__init__" sNInit f fd):FnOk P w K mg base CX0 1 f fd ["self","value"] (spI1 K "value"):=by
 refine F.ok scNInit (fun vs H Q E h=>?_) (fun cdv A outer s H vs Q E hr h=>?_)
 ·obtain⟨p,C,dx,x,rfl,_⟩:=h
  rfl
 ·obtain⟨p,C,dx,x,rfl,hp,c,q⟩:=h
  refine⟨_,(pss_one (ps_fld (pv 0) (pv 1) rfl)),?_⟩
  exact⟨_,rfl,_,rfl,p,C,dx,_,rfl,hp,c.cl,c.na _ (by simp),by decide,q⟩
theorem scKInit:FnScope ["self","back","steps"] ["self","back","steps"] (defScope sKInit):=⟨rfl,rfl,rfl,by decide+kernel,rfl,by decide+kernel,by decide+kernel⟩
theorem ok_kinit {f:Addr} {fd:FuncData} (F:Fun K "__init__" "Take.__init__" sKInit f fd):FnOk P w K mg base CX0 1 f fd ["self","back","steps"] (spI2 K "back" "steps"):=by
 refine F.ok scKInit (fun vs H Q E h=>?_) (fun cdv A outer s H vs Q E hr h=>?_)
 ·obtain⟨p,C,dx,x,y,rfl,_⟩:=h
  rfl
 ·obtain⟨p,C,dx,x,y,rfl,hp,c,q⟩:=h
  refine⟨_,(pss_cons (ps_fld (pv 0) (pv 1) rfl) (pss_one (ps_fld (pv 0) (pv 2) rfl))),?_⟩
  refine⟨_,rfl,_,rfl,p,C,dx,_,rfl,hp,c.cl,c.na _ (by simp),by decide,?_⟩
  exact⟨_,rfl,_,rfl,p,C,dx,_,rfl,upd_same,c.cl,c.na _ (by simp),by show(1:Nat)<1000;decide,q⟩
theorem scPInit:FnScope ["self","one","other"] ["self","one","other"] (defScope sPInit):=⟨rfl,rfl,rfl,by decide+kernel,rfl,by decide+kernel,by decide+kernel⟩
theorem ok_pinit {f:Addr} {fd:FuncData} (F:Fun K "__init__" "Paired.__init__" sPInit f fd):FnOk P w K mg base CX0 1 f fd ["self","one","other"] (spI2 K "one" "other"):=by
 refine F.ok scPInit (fun vs H Q E h=>?_) (fun cdv A outer s H vs Q E hr h=>?_)
 ·obtain⟨p,C,dx,x,y,rfl,_⟩:=h
  rfl
 ·obtain⟨p,C,dx,x,y,rfl,hp,c,q⟩:=h
  refine⟨_,(pss_cons (ps_fld (pv 0) (pv 1) rfl) (pss_one (ps_fld (pv 0) (pv 2) rfl))),?_⟩
  refine⟨_,rfl,_,rfl,p,C,dx,_,rfl,hp,c.cl,c.na _ (by simp),by decide,?_⟩
  exact⟨_,rfl,_,rfl,p,C,dx,_,rfl,upd_same,c.cl,c.na _ (by simp),by show(1:Nat)<1000;decide,q⟩
theorem scRInit:FnScope ["self","one","by"] ["self","one","by"] (defScope sRInit):=⟨rfl,rfl,rfl,by decide+kernel,rfl,by decide+kernel,by decide+kernel⟩
theorem ok_rinit {f:Addr} {fd:FuncData} (F:Fun K "__init__" "Rest.__init__" sRInit f fd):FnOk P w K mg base CX0 1 f fd ["self","one","by"] (spI2 K "one" "by"):=by
 refine F.ok scRInit (fun vs H Q E h=>?_) (fun cdv A outer s H vs Q E hr h=>?_)
 ·obtain⟨p,C,dx,x,y,rfl,_⟩:=h
  rfl
 ·obtain⟨p,C,dx,x,y,rfl,hp,c,q⟩:=h
  refine⟨_,(pss_cons (ps_fld (pv 0) (pv 1) rfl) (pss_one (ps_fld (pv 0) (pv 2) rfl))),?_⟩
  refine⟨_,rfl,_,rfl,p,C,dx,_,rfl,hp,c.cl,c.na _ (by simp),by decide,?_⟩
  exact⟨_,rfl,_,rfl,p,C,dx,_,rfl,upd_same,c.cl,c.na _ (by simp),by show(1:Nat)<1000;decide,q⟩
theorem scCInit:FnScope ["self","test","one","other"] ["self","test","one","other"] (defScope sCInit):=⟨rfl,rfl,rfl,by decide+kernel,rfl,by decide+kernel,by decide+kernel⟩
theorem ok_cinit {f:Addr} {fd:FuncData} (F:Fun K "__init__" "Chosen.__init__" sCInit f fd):FnOk P w K mg base CX0 1 f fd ["self","test","one","other"] (spI3 K "test" "one" "other"):=by
 refine F.ok scCInit (fun vs H Q E h=>?_) (fun cdv A outer s H vs Q E hr h=>?_)
 ·obtain⟨p,C,dx,x,y,z,rfl,_⟩:=h
  rfl
 ·obtain⟨p,C,dx,x,y,z,rfl,hp,c,q⟩:=h
  refine⟨_,(pss_cons (ps_fld (pv 0) (pv 1) rfl) (pss_cons (ps_fld (pv 0) (pv 2) rfl) (pss_one (ps_fld (pv 0) (pv 3) rfl)))),?_⟩
  refine⟨_,rfl,_,rfl,p,C,dx,_,rfl,hp,c.cl,c.na _ (by simp),by decide,?_⟩
  refine⟨_,rfl,_,rfl,p,C,dx,_,rfl,upd_same,c.cl,c.na _ (by simp),by show(1:Nat)<1000;decide,?_⟩
  exact⟨_,rfl,_,rfl,p,C,dx,_,rfl,upd_same,c.cl,c.na _ (by simp),by show(2:Nat)<1000;decide,q⟩
end
end KY
namespace KY
open PySem PyProof.Rows L2
def tag:Tm->Nat
 | .num _=>0
 | .take _ _=>1
 | .rest _ _=>2
 | .cho _ _ _=>3
 | .bin k _ _=>4+k.val
def clsL (N:Cn):List Addr:=[N.num,N.take,N.rest,N.cho,N.bin 0,N.bin 1,N.bin 2,N.bin 3,N.bin 4]
theorem cls_at (N:Cn):∀t:Tm,(clsL N)[tag t]? =some (cls N t)
 | .num _=>rfl
 | .take _ _=>rfl
 | .rest _ _=>rfl
 | .cho _ _ _=>rfl
 | .bin k _ _=>by
  match k with
  |0=>rfl
  |1=>rfl
  |2=>rfl
  |3=>rfl
  |4=>rfl
theorem tag_of {N:Cn} (nd:(clsL N).Nodup) {t u:Tm} (h:cls N t=cls N u):tag t=tag u:=by
 have h1:=cls_at N t
 have h2:=cls_at N u
 rw [h]at h1
 exact(List.getElem?_inj (List.getElem?_eq_some_iff.mp h1).1 nd).mp (h1.trans h2.symm)
theorem is_num {N:Cn} (nd:(clsL N).Nodup) {t:Tm} (h:cls N t=N.num):kids t=[]/\raw t=[]:=by
 have:=tag_of nd (u:= .num 0) h
 cases t<;>simp [tag]at this<;>first|exact⟨rfl,rfl⟩|omega
theorem is_take {N:Cn} (nd:(clsL N).Nodup) {t:Tm} (h:cls N t=N.take):∃b ss,t= .take b ss:=by
 have:=tag_of nd (u:= .take 0 []) h
 cases t<;>simp [tag]at this<;>first|exact⟨_,_,rfl⟩|omega
theorem is_rest {N:Cn} (nd:(clsL N).Nodup) {t:Tm} (h:cls N t=N.rest):∃a y,t= .rest a y:=by
 have:=tag_of nd (u:= .rest (.num 0) 0) h
 cases t<;>simp [tag]at this<;>first|exact⟨_,_,rfl⟩|omega
theorem is_cho {N:Cn} (nd:(clsL N).Nodup) {t:Tm} (h:cls N t=N.cho):∃a b c,t= .cho a b c:=by
 have:=tag_of nd (u:= .cho (.num 0) (.num 0) (.num 0)) h
 cases t<;>simp [tag]at this<;>first|exact⟨_,_,_,rfl⟩|omega
theorem is_bin {N:Cn} (nd:(clsL N).Nodup) {t:Tm} {k:Fin 5} (h:cls N t=N.bin k):∃j a b,t= .bin j a b:=by
 have:=tag_of nd (u:= .bin k (.num 0) (.num 0)) h
 cases t<;>simp [tag]at this<;>first|exact⟨_,_,_,rfl⟩|omega
def spInner (N:Cn) (C:Addr):Sp:=fun vs H Q _=>∃(p dx:Addr) (fs:List (Str×V)) (t:Tm),vs=[.ref p]/\H p=some (.ins (cls N t) dx fs)/\FldAt N H fs t/\cls N t=C/\
 ∀(l:Addr) (xs:List V) (H':Hp),Same H H'->H l=none->H' l=some (.lst xs)->Paired (TrmAt N H) (kids t) xs->Q (.ref l) H'
section
variable {P:Program} {w:World} {K:PySem.W.Frag} {mg:Str->Option Value} {base:Heap} {N:Cn}
theorem scTInner:FnScope ["self"] ["self"] (defScope sTInner):=⟨rfl,rfl,rfl,by decide+kernel,rfl,by decide+kernel,by decide+kernel⟩
theorem ok_tinner {f C:Addr} {fd:FuncData} (F:Fun K "inner" "Term.inner" sTInner f fd) (hC:∀t,cls N t=C->kids t=[]):FnOk P w K mg base CX0 1 f fd ["self"] (spInner N C):=by
 refine F.ok scTInner (fun vs H Q E h=>?_) (fun cdv A outer s H vs Q E hr h=>?_)
 ·obtain⟨p,dx,fs,t,rfl,_⟩:=h
  rfl
 ·obtain⟨p,dx,fs,t,rfl,hp,hf,hc,q⟩:=h
  refine⟨_,(pss_one (ps_ret (pe_lst pa_nil))),?_⟩
  refine⟨by show 0<=sizeLine;decide,fun l hl=>q l [] _ (sameNew hl) hl upd_same ?_⟩
  rw [hC t hc]
  exact .nil
theorem scPInner:FnScope ["self"] ["self"] (defScope sPInner):=⟨rfl,rfl,rfl,by decide+kernel,rfl,by decide+kernel,by decide+kernel⟩
theorem ok_pinner {f C:Addr} {fd:FuncData} (F:Fun K "inner" "Paired.inner" sPInner f fd) (c:Cf K C ["one","other"]) (hC:∀t,cls N t=C->∃k a b,t= .bin k a b):FnOk P w K mg base CX0 1 f fd ["self"] (spInner N C):=by
 refine F.ok scPInner (fun vs H Q E h=>?_) (fun cdv A outer s H vs Q E hr h=>?_)
 ·obtain⟨p,dx,fs,t,rfl,_⟩:=h
  rfl
 ·obtain⟨p,dx,fs,t,rfl,hp,hf,hc,q⟩:=h
  refine⟨_,(pss_one (ps_ret (pe_lst (pa_cons (pe_fld (pv 0) rfl) (pa_cons (pe_fld (pv 0) rfl) pa_nil))))),?_⟩
  obtain⟨k,a,b,rfl⟩:=hC t hc
  rw [hc]at hp
  obtain⟨p1,d1,f1,p2,d2,f2,rfl,⟨h1,g1⟩,h2,g2⟩:=hf
  refine⟨_,rfl,p,C,dx,_,_,rfl,hp,c.cl,c.na _ (by simp),rfl,_,rfl,p,C,dx,_,_,rfl,hp,c.cl,c.na _ (by simp),rfl,by show 2<=sizeLine;decide,fun l hl=>?_⟩
  generalize e:upd H l _=H1
  obtain⟨s1,e1⟩:=new_of hl e
  exact q l _ H1 s1 hl e1 (.cons ⟨p1,d1,f1,rfl,h1,g1⟩ (.cons ⟨p2,d2,f2,rfl,h2,g2⟩ .nil))
theorem scRInner:FnScope ["self"] ["self"] (defScope sRInner):=⟨rfl,rfl,rfl,by decide+kernel,rfl,by decide+kernel,by decide+kernel⟩
theorem ok_rinner {f C:Addr} {fd:FuncData} (F:Fun K "inner" "Rest.inner" sRInner f fd) (c:Cf K C ["one","by"]) (hC:∀t,cls N t=C->∃a y,t= .rest a y):FnOk P w K mg base CX0 1 f fd ["self"] (spInner N C):=by
 refine F.ok scRInner (fun vs H Q E h=>?_) (fun cdv A outer s H vs Q E hr h=>?_)
 ·obtain⟨p,dx,fs,t,rfl,_⟩:=h
  rfl
 ·obtain⟨p,dx,fs,t,rfl,hp,hf,hc,q⟩:=h
  refine⟨_,(pss_one (ps_ret (pe_lst (pa_cons (pe_fld (pv 0) rfl) pa_nil)))),?_⟩
  obtain⟨a,y,rfl⟩:=hC t hc
  rw [hc]at hp
  obtain⟨p1,d1,f1,rfl,h1,g1⟩:=hf
  refine⟨_,rfl,p,C,dx,_,_,rfl,hp,c.cl,c.na _ (by simp),rfl,by show 1<=sizeLine;decide,fun l hl=>?_⟩
  generalize e:upd H l _=H1
  obtain⟨s1,e1⟩:=new_of hl e
  exact q l _ H1 s1 hl e1 (.cons ⟨p1,d1,f1,rfl,h1,g1⟩ .nil)
theorem scCInner:FnScope ["self"] ["self"] (defScope sCInner):=⟨rfl,rfl,rfl,by decide+kernel,rfl,by decide+kernel,by decide+kernel⟩
theorem ok_cinner {f C:Addr} {fd:FuncData} (F:Fun K "inner" "Chosen.inner" sCInner f fd) (c:Cf K C ["test","one","other"]) (hC:∀t,cls N t=C->∃a b d,t= .cho a b d):FnOk P w K mg base CX0 1 f fd ["self"] (spInner N C):=by
 refine F.ok scCInner (fun vs H Q E h=>?_) (fun cdv A outer s H vs Q E hr h=>?_)
 ·obtain⟨p,dx,fs,t,rfl,_⟩:=h
  rfl
 ·obtain⟨p,dx,fs,t,rfl,hp,hf,hc,q⟩:=h
  refine⟨_,(pss_one (ps_ret (pe_lst (pa_cons (pe_fld (pv 0) rfl) (pa_cons (pe_fld (pv 0) rfl) (pa_cons (pe_fld (pv 0) rfl) pa_nil)))))),?_⟩
  obtain⟨a,b,d,rfl⟩:=hC t hc
  rw [hc]at hp
  obtain⟨p1,d1,f1,p2,d2,f2,p3,d3,f3,rfl,⟨h1,g1⟩,⟨h2,g2⟩,h3,g3⟩:=hf
  refine⟨_,rfl,p,C,dx,_,_,rfl,hp,c.cl,c.na _ (by simp),rfl,_,rfl,p,C,dx,_,_,rfl,hp,c.cl,c.na _ (by simp),rfl,_,rfl,p,C,dx,_,_,rfl,hp,c.cl,c.na _ (by simp),rfl,by show 3<=sizeLine;decide,fun l hl=>?_⟩
  generalize e:upd H l _=H1
  obtain⟨s1,e1⟩:=new_of hl e
  exact q l _ H1 s1 hl e1 (.cons ⟨p1,d1,f1,rfl,h1,g1⟩ (.cons ⟨p2,d2,f2,rfl,h2,g2⟩ (.cons ⟨p3,d3,f3,rfl,h3,g3⟩ .nil)))
end
end KY
namespace KY
open PySem PyProof.Rows L2
theorem hu_20 {A:Around} {k:Nat} (hr:Room k A):A.units+20<cLine:=by have:=hr.un;omega
theorem hu_40 {A:Around} {k:Nat} (hr:Room k A):A.units+40<cLine:=by have:=hr.un;omega
theorem raw_kids {t:Tm} (h:∀b ss,t≠ .take b ss) (x:Tk):x∈(kids t).flatMap raw↔x∈raw t:=by
 cases t with
 |take b ss=>exact absurd rfl (h b ss)
 |num n=>simp [kids,raw]
 |rest a y=>simp [kids,raw]
 |cho a b c=>simp [kids,raw]
 |bin k a b=>simp [kids,raw]
theorem ht_kids {t:Tm} {b:Nat} (h1:b=0∨b∈(kids t).map ht) (h2:∀a∈(kids t).map ht,a<=b):1+b=ht t:=by
 cases t with
 |num n=>simp [kids]at h1;rw [h1];rfl
 |take n ss=>simp [kids]at h1;rw [h1];rfl
 |rest a y=>
  simp [kids]at h1 h2
  have:=ht_pos a
  rw [ht];omega
 |cho x y z=>
  simp [kids]at h1 h2
  have:=ht_pos x
  rw [ht];omega
 |bin k x y=>
  simp [kids]at h1 h2
  have:=ht_pos x
  rw [ht];omega
theorem prts_kids (t:Tm):1+((kids t).map prts).sum=prts t:=by
 cases t<;>simp [kids,prts]<;>omega
theorem maxD_nat {K:PySem.W.Frag} {H:Hp} {p:Addr} {l:List Nat} {Q:VK} (hq:SqL K H p (natVs l)) (k:∀b:Nat,(b=0∨b∈l)->(∀a∈l,a<=b)->Q (natV b) H):rMaxD K [.ref p] [.int 0] H Q:=by
 rw [show natVs l=(l.map fun k:Nat=>(k:Int)).map V.int by unfold natVs;rw [List.map_map];rfl]at hq
 refine⟨p,_,.int 0,rfl,rfl,hq,fun e=>?_,fun m hm hx=>?_⟩
 ·have:l=[]:=by simpa using e
  exact k 0 (.inl rfl) fun a ha=>by rw [this]at ha;cases ha
 ·obtain⟨b,hb,rfl⟩:=List.mem_map.mp hm
  exact k b (.inr hb) fun a ha=>by have:=hx _ (List.mem_map.mpr ⟨a,ha,rfl⟩);omega
theorem sum_nats (l:List Nat):(l.map fun k:Nat=>(k:Int)).sum=((l.sum:Nat):Int):=by
 induction l with
 |nil=>rfl
 |cons a l ih=>rw [List.map_cons,List.sum_cons,List.sum_cons,ih];omega
theorem sum_ok {K:PySem.W.Frag} {la:Addr} {ls:List Nat} {H:Hp} {Q:VK} (h:H la=some (.lst (natVs ls))) (hn:ls.length<=1000) (hk:∀k∈ls,k<=1000) (q:Q (natV ls.sum) H):rSum K [.ref la] H Q:=by
 rw [show natVs ls=(ls.map fun k:Nat=>(k:Int)).map V.int by unfold natVs;rw [List.map_map];rfl]at h
 refine⟨la,ls.map fun k:Nat=>(k:Int),rfl,SqL.of h,by rw [List.length_map];exact hn,fun x hx=>?_,by rw [sum_nats];exact q⟩
 obtain⟨k,hm,rfl⟩:=List.mem_map.mp hx
 have:=hk k hm
 exact⟨by omega,by omega⟩
abbrev TkR:Type:=Tk×Addr
def spTakes (N:Cn) (d:Nat) (C:Addr):Sp:=fun vs H Q _=>∃(p dx:Addr) (fs:List (Str×V)) (t:Tm),vs=[.ref p]/\H p=some (.ins (cls N t) dx fs)/\FldAt N H fs t/\cls N t=C/\ht t<=d/\(∃ks:List Tk,ks.length<18/\∀x∈raw t,x∈ks)/\
 ∀(l:Addr) (ps:List TkR) (H':Hp),Same H H'->H l=none->H' l=some (.lst (ps.map fun x=>V.ref x.2))->(∀x∈ps,PKy H' x)->IsTks t (ps.map (·.1))->Q (.ref l) H'
def spNum (N:Cn) (F:Tm->Nat) (d:Nat) (C:Addr):Sp:=fun vs H Q _=>∃(p dx:Addr) (fs:List (Str×V)) (t:Tm),vs=[.ref p]/\H p=some (.ins (cls N t) dx fs)/\FldAt N H fs t/\cls N t=C/\ht t<=d/\∀H',Same H H'->Q (natV (F t)) H'
theorem _root_.L2.PKy.same {H H':Hp} (s:Same H H') {x:TkR} (h:PKy H x):PKy H' x:=let⟨q,h1,h2⟩:=h;⟨q,s _ _ h1,s _ _ h2⟩
theorem nodup_srt {l:List Tk} (h:l.Pairwise (fun x y=>lexP x y=true)):l.Nodup:=h.imp fun{x y} hx e=>by
 subst e
 have:=lexP_asym hx
 rw [hx]at this
 cases this
section
variable {P:Program} {w:World} {K:PySem.W.Frag} {mg:Str->Option Value} {base:Heap} {N:Cn}
theorem scTTakes:FnScope ["self","pairs","part"] ["self"] (defScope sTTakes):=⟨rfl,rfl,rfl,by decide+kernel,rfl,by decide+kernel,by decide+kernel⟩
theorem ok_ttakes {f C:Addr} {fd:FuncData} {d:Nat} (F:Fun K "takes" "Term.takes" sTTakes f fd) (D_inner:Dis P w K mg base CX0 1 (IsC N) "inner" ["self"] (spInner N)) (D_takes:Dis P w K mg base CX0 (d+1) (IsC N) "takes" ["self"] (spTakes N d)) (T:Txt K mg)
  (hC:∀t,cls N t=C->∀b ss,t≠ .take b ss) (nT:∀(t:Tm) (fs:List (Str×V)) H,FldAt N H fs t->fs.lookup ("takes":Str)=none/\fs.lookup ("inner":Str)=none):FnOk P w K mg base CX0 (d+2) f fd ["self"] (spTakes N (d+1) C):=by
 refine F.ok scTTakes (fun vs H Q E h=>?_) (fun cdv A outer s H vs Q E hr h=>?_)
 ·obtain⟨p,dx,fs,t,rfl,_⟩:=h
  rfl
 ·obtain⟨p,dx,fs,t,rfl,hp,hf,hc,hd,⟨ks,kl,km⟩,q⟩:=h
  refine⟨_,(pss_cons (ps_set (i:=1) scTTakes.nd rfl (Or.inl rfl) (pe_lst pa_nil)) (pss_cons (ps_for PassesOwn.never rfl (pi_list (pe_methD0 (pv 0) D_inner (hr.mono (by omega)) pass0)) (pg_name (i:=2) scTTakes.nd rfl (Or.inl rfl)) (pss_one (ps_expr (pe_bm PySem.F.plainAttrs_list PySem.F.slot_list_extend PySem.F.type_list_extend mt_extend (pv 1) (pa_cons (pe_methD0 (pv 2) D_takes (hr.mono (by omega)) pass0) pa_nil))))) (pss_one (ps_ret (pe_callB (call_sortedP (hu_40 hr) rfl) rfl T.sorted boot_sorted (pa_cons (pe_callTy (call_setP (hu_20 hr) rfl) rfl T.set boot_set (pa_cons (pv 1) pa_nil)) pa_nil)))))),?_⟩
  refine⟨by show 0<=sizeLine;decide,fun pl hpl=>?_⟩
  have back:∀c o,upd H pl (.lst []) c=some o->c≠pl->H c=some o:=fun c o z n=>by rw [upd_ne n]at z;exact z
  generalize e:upd H pl _=H1 at back
  obtain⟨s1,e1⟩:=new_of hpl e
  refine⟨_,rfl,p,_,dx,fs,rfl,s1 _ _ hp,isC N t,(nT t fs H hf).2,p,dx,fs,t,rfl,s1 _ _ hp,hf.same s1,rfl,fun l xs H2 s2 hl e2 pk=>?_⟩
  have pl_l:l≠pl:=Ne.symm (ne_of_none e1 hl)
  have s02:=s1.trans s2
  have kl3:=kid_len t
  have xl:=Paired.length pk
  refine⟨l,rfl,⟨_,SqL.of e2⟩,?_⟩
  refine for_list (K:=K) (a:=l) (xs:=xs) (fun i σ H3=>∃(v2:Option V) (ps:List TkR),σ=[some (.ref p),some (.ref pl),v2]/\Same H H3/\H3 l=some (.lst xs)/\H3 pl=some (.lst (ps.map fun x=>V.ref x.2))/\(∀x∈ps,PKy H3 x)/\ps.length<=17*i/\∀x,x∈ps.map (·.1)↔x∈((kids t).take i).flatMap raw)
   ⟨none,[],rfl,s02,e2,s2 _ _ e1,(fun _ h=>nomatch h),Nat.zero_le _,fun x=>by simp⟩ (fun i σ H3 _ ⟨_,_,_,_,h3,_⟩=>SqL.of h3) ?_ ?_
  ·rintro i x σ H3 hx ⟨v2,ps,rfl,s3,hl3,hp3,pk3,len3,mem3⟩
   obtain⟨k,hk,tr⟩:=L2.Paired.get2 pk hx
   have km':=List.mem_of_getElem? hk
   have kn:KpN H1 H3:=fun c o z n=>s3 c o (back c o z fun y=>by rw [y,e1]at z;cases z;exact n _ rfl)
   obtain⟨a,da,fa,rfl,ha,fla⟩:=tr.keep kn
   have hk':=kid_ht km'
   refine⟨_,rfl,.inl ⟨rfl,_,SqL.of hp3⟩,_,rfl,a,_,da,fa,rfl,ha,isC N k,(nT k fa H3 fla).1,a,da,fa,k,rfl,ha,fla,rfl,by omega,⟨ks,kl,fun x hx=>km x (kid_raw km' x hx)⟩,fun l2 ps2 H4 s4 hl2 e4 pk4 tk4=>?_⟩
   have l17:ps2.length<=17:=by
    have:=(nodup_srt tk4.1).length_le_of_subset (l₂:=ks) fun x hx=>km x (kid_raw km' x ((tk4.2 x).mp hx))
    rw [List.length_map]at this
    omega
   have il:i<xs.length:=(List.getElem?_eq_some_iff.mp hx).1
   refine⟨pl,l2,_,_,rfl,rfl,s4 _ _ hp3,e4,by rw [List.length_map,List.length_map,sizeLine_eq];omega,?_⟩
   have up:∀c o,H4 c=some o->(∀xs,o≠ .lst xs)->upd H4 pl (.lst (ps.map (fun x=>V.ref x.2)++ps2.map fun x=>V.ref x.2)) c=some o:=fun c o z n=>by
    rw [upd_ne fun y=>by rw [y,s4 _ _ hp3]at z;cases z;exact n _ rfl];exact z
   have pkU:∀x:TkR,PKy H4 x->PKy (upd H4 pl (.lst (ps.map (fun x=>V.ref x.2)++ps2.map fun x=>V.ref x.2))) x:=fun x ⟨q,h1,h2⟩=>⟨q,up _ _ h1 (by intro _ z;cases z),up _ _ h2 (by intro _ z;cases z)⟩
   refine⟨_,ps++ps2,rfl,sameUpd hpl (s3.trans s4),by rw [upd_ne pl_l];exact s4 _ _ hl3,by rw [upd_same,List.map_append],fun x hx=>?_,by rw [List.length_append];omega,fun x=>?_⟩
   ·rcases List.mem_append.mp hx with m|m
    ·exact pkU x ((pk3 x m).same s4)
    ·exact pkU x (pk4 x m)
   ·rw [List.map_append,List.mem_append,mem3 x,tk4.2 x,List.take_succ,hk,List.flatMap_append,List.mem_append]
    simp
  ·rintro σ H3 ⟨v2,ps,rfl,s3,hl3,hp3,pk3,len3,mem3⟩
   rw [<-xl,List.take_length]at mem3
   refine⟨_,rfl,pl,ps,rfl,SqL.of hp3,pk3,by omega,⟨ks,kl,fun x hx=>km _ ((raw_kids (hC t hc) _).mp ((mem3 _).mp (List.mem_map.mpr ⟨x,hx,rfl⟩)))⟩,fun l2 zs hl2 nd sub cov zl=>?_⟩
   generalize e:upd H3 l2 _=H4
   obtain⟨s4,e4⟩:=new_of hl2 e
   refine⟨l2,zs,rfl,e4,fun x hx=>(pk3 x (sub x hx)).same s4,?_,fun l3 ys hl3' py sy=>?_⟩
   ·have:=nd.length_le_of_subset (l₂:=ks) fun x hx=>by
     obtain⟨z,hz,rfl⟩:=List.mem_map.mp hx
     exact km _ ((raw_kids (hC t hc) _).mp ((mem3 _).mp (List.mem_map.mpr ⟨z,sub z hz,rfl⟩)))
    rw [List.length_map]at this
    omega
   generalize e:upd H4 l3 _=H5
   obtain⟨s5,e5⟩:=new_of hl3' e
   refine q l3 ys H5 (s3.trans (s4.trans s5)) (s3.free (s4.free hl3')) e5 (fun x hx=>((pk3 x (sub x (py.mem_iff.mp hx))).same s4).same s5) ⟨List.pairwise_map.mpr sy,fun x=>?_⟩
   rw [<-raw_kids (hC t hc) x, <-mem3 x,List.mem_map,List.mem_map]
   constructor
   ·rintro⟨y,hy,e⟩
    exact⟨y,sub y (py.mem_iff.mp hy),e⟩
   ·rintro⟨y,hy,e⟩
    obtain⟨z,hz,ez⟩:=cov y hy
    exact⟨z,py.mem_iff.mpr hz,ez.trans e⟩
end
end KY
namespace KY
open PySem PyProof.Rows L2
section
variable {P:Program} {w:World} {K:PySem.W.Frag} {mg:Str->Option Value} {base:Heap} {N:Cn}
theorem scKTakes:FnScope ["self"] ["self"] (defScope sKTakes):=⟨rfl,rfl,rfl,by decide+kernel,rfl,by decide+kernel,by decide+kernel⟩
theorem ok_ktakes {f C:Addr} {fd:FuncData} {d:Nat} (F:Fun K "takes" "Take.takes" sKTakes f fd) (c:Cf K C ["back","steps"]) (hC:∀t,cls N t=C->∃b ss,t= .take b ss):FnOk P w K mg base CX0 (d+1) f fd ["self"] (spTakes N d C):=by
 refine F.ok scKTakes (fun vs H Q E h=>?_) (fun cdv A outer s H vs Q E hr h=>?_)
 ·obtain⟨p,dx,fs,t,rfl,_⟩:=h
  rfl
 ·obtain⟨p,dx,fs,t,rfl,hp,hf,hc,hd,_,q⟩:=h
  refine⟨_,(pss_one (ps_ret (pe_lst (pa_cons (pe_tup (pa_cons (pe_fld (pv 0) rfl) (pa_cons (pe_fld (pv 0) rfl) pa_nil))) pa_nil)))),?_⟩
  obtain⟨b,ss,rfl⟩:=hC t hc
  rw [hc]at hp
  obtain⟨u,rfl,hu⟩:=hf
  refine⟨_,rfl,p,C,dx,_,_,rfl,hp,c.cl,c.na _ (by simp),rfl,_,rfl,p,C,dx,_,_,rfl,hp,c.cl,c.na _ (by simp),rfl,by show 2<=sizeLine;decide,fun t1 n1=>?_⟩
  generalize e:upd H t1 _=H1
  obtain⟨s1,e1⟩:=new_of n1 e
  refine⟨by show 1<=sizeLine;decide,fun l n2=>?_⟩
  generalize e:upd H1 l _=H2
  obtain⟨s2,e2⟩:=new_of n2 e
  refine q l [((b,ss),t1)] H2 (s1.trans s2) (s1.free n2) e2 (fun x hx=>?_) ⟨List.pairwise_singleton ..,fun x=>Iff.rfl⟩
  rw [List.mem_singleton.mp hx]
  exact⟨u,s2 _ _ e1,s2 _ _ (s1 _ _ hu)⟩
abbrev NTDepth:List Str:=["self"]
theorem scTDepth:FnScope ["self"] ["self"] (defScope sTDepth):=⟨rfl,rfl,rfl,by decide+kernel,rfl,by decide+kernel,by decide+kernel⟩
theorem ok_tdepth {f C:Addr} {fd:FuncData} {d:Nat} (F:Fun K "depth" "Term.depth" sTDepth f fd) (D_inner:Dis P w K mg base CX0 1 (IsC N) "inner" ["self"] (spInner N)) (D_depth:Dis P w K mg base CX0 (d+1) (IsC N) "depth" ["self"] (spNum N ht d)) (T:Txt K mg)
  (nI:∀(t:Tm) (fs:List (Str×V)) H,FldAt N H fs t->fs.lookup ("inner":Str)=none) (nD:∀(t:Tm) (fs:List (Str×V)) H,FldAt N H fs t->fs.lookup ("depth":Str)=none):FnOk P w K mg base CX0 (d+2) f fd ["self"] (spNum N ht (d+1) C):=by
 refine F.ok scTDepth (fun vs H Q E h=>?_) (fun cdv A outer s H vs Q E hr h=>?_)
 ·obtain⟨p,dx,fs,t,rfl,_⟩:=h
  rfl
 ·obtain⟨p,dx,fs,t,rfl,hp,hf,hc,hd,q⟩:=h
  refine⟨_,(pss_one (ps_ret (pe_op op_add pe_int (pe_callBK (call_maxD rfl) rfl T.max boot_max (pa_cons (pe_cp (own:=["part"]) (cap:=[]) (g:=gName 0) (defScope sTDepth) NTDepth rfl rfl (fun x h=>cell_has h) (by decide+kernel) rfl (pi_list (pe_methD0 (pv 0) D_inner (hr.mono (by omega)) pass0)) (fun cl C s2 H2 fp=>(pg_name (i:=0) (show(["part"]:List Str).Nodup by decide+kernel) rfl (Or.inl rfl) (Or.inr rfl))) (fun cl C s2 H2 fp=>(pe_methD0 (pv 0) D_depth (hr.mono (by omega)) pass0))) pa_nil) (pk_cons pe_int pk_nil))))),?_⟩
  refine⟨_,rfl,p,_,dx,fs,rfl,hp,isC N t,nI t fs H hf,p,dx,fs,t,rfl,hp,hf,rfl,fun l xs H2 s2 hl e2 pk=>?_⟩
  have kl3:=kid_len t
  have xl:=Paired.length pk
  refine⟨l,rfl,⟨_,SqL.of e2⟩,fun D hD=>?_⟩
  refine comp_list (K:=K) (a:=l) (xs:=xs) (fun i acc σ H3=>(∃v0,σ=[v0])/\Same H2 H3/\H3 D=some (.lst acc)/\acc=natVs (((kids t).take i).map ht)) ⟨⟨_,rfl⟩,sameNew hD,upd_same,rfl⟩ (fun i acc σ H3 _ ⟨_,s3,_⟩=>SqL.of (s3 _ _ e2)) ?_ ?_
  ·rintro i x acc σ H3 hi hx ⟨⟨v0,rfl⟩,s3,hD3,rfl⟩
   obtain⟨k,hk,tr⟩:=L2.Paired.get2 pk hx
   have km':=List.mem_of_getElem? hk
   obtain⟨a,da,fa,rfl,ha,fla⟩:=tr.same (s2.trans s3)
   have hk':=kid_ht km'
   refine⟨_,rfl,a,_,da,fa,rfl,ha,isC N k,nD k fa H3 fla,a,da,fa,k,rfl,ha,fla,rfl,by omega,fun H4 s4=>?_⟩
   refine cturn (s4 _ _ hD3) (small ?_) hi ⟨⟨_,rfl⟩,sameUpd hD (s3.trans s4),upd_same,?_⟩
   ·unfold natVs;rw [List.length_map,List.length_map,List.length_take];omega
   ·unfold natVs;rw [List.take_succ,hk,List.map_append,List.map_append];rfl
  ·rintro acc σ H3 ⟨_,s3,hD3,rfl⟩
   rw [<-xl,List.take_length]at hD3
   dsimp only [tNil,tCons,tC]
   refine maxD_nat (SqL.of hD3) fun b h1 h2=>?_
   refine⟨_,_,rfl,rfl,?_⟩
   have:=q H3 (s2.trans s3)
   rw [<-ht_kids h1 h2]at this
   exact this
abbrev NTParts:List Str:=["self"]
theorem scTParts:FnScope ["self"] ["self"] (defScope sTParts):=⟨rfl,rfl,rfl,by decide+kernel,rfl,by decide+kernel,by decide+kernel⟩
theorem ok_tparts {f C:Addr} {fd:FuncData} {d:Nat} (F:Fun K "parts" "Term.parts" sTParts f fd) (D_inner:Dis P w K mg base CX0 1 (IsC N) "inner" ["self"] (spInner N)) (D_parts:Dis P w K mg base CX0 (d+1) (IsC N) "parts" ["self"] (spNum N prts d)) (T:Txt K mg)
  (nI:∀(t:Tm) (fs:List (Str×V)) H,FldAt N H fs t->fs.lookup ("inner":Str)=none) (nD:∀(t:Tm) (fs:List (Str×V)) H,FldAt N H fs t->fs.lookup ("parts":Str)=none) (small_:∀t,ht t<=d->prts t<=1000):FnOk P w K mg base CX0 (d+2) f fd ["self"] (spNum N prts (d+1) C):=by
 refine F.ok scTParts (fun vs H Q E h=>?_) (fun cdv A outer s H vs Q E hr h=>?_)
 ·obtain⟨p,dx,fs,t,rfl,_⟩:=h
  rfl
 ·obtain⟨p,dx,fs,t,rfl,hp,hf,hc,hd,q⟩:=h
  refine⟨_,(pss_one (ps_ret (pe_op op_add pe_int (pe_callB (call_sum rfl) rfl T.sum boot_sum (pa_cons (pe_cp (own:=["part"]) (cap:=[]) (g:=gName 0) (defScope sTParts) NTParts rfl rfl (fun x h=>cell_has h) (by decide+kernel) rfl (pi_list (pe_methD0 (pv 0) D_inner (hr.mono (by omega)) pass0)) (fun cl C s2 H2 fp=>(pg_name (i:=0) (show(["part"]:List Str).Nodup by decide+kernel) rfl (Or.inl rfl) (Or.inr rfl))) (fun cl C s2 H2 fp=>(pe_methD0 (pv 0) D_parts (hr.mono (by omega)) pass0))) pa_nil))))),?_⟩
  refine⟨_,rfl,p,_,dx,fs,rfl,hp,isC N t,nI t fs H hf,p,dx,fs,t,rfl,hp,hf,rfl,fun l xs H2 s2 hl e2 pk=>?_⟩
  have kl3:=kid_len t
  have xl:=Paired.length pk
  refine⟨l,rfl,⟨_,SqL.of e2⟩,fun D hD=>?_⟩
  refine comp_list (K:=K) (a:=l) (xs:=xs) (fun i acc σ H3=>(∃v0,σ=[v0])/\Same H2 H3/\H3 D=some (.lst acc)/\acc=natVs (((kids t).take i).map prts)) ⟨⟨_,rfl⟩,sameNew hD,upd_same,rfl⟩ (fun i acc σ H3 _ ⟨_,s3,_⟩=>SqL.of (s3 _ _ e2)) ?_ ?_
  ·rintro i x acc σ H3 hi hx ⟨⟨v0,rfl⟩,s3,hD3,rfl⟩
   obtain⟨k,hk,tr⟩:=L2.Paired.get2 pk hx
   have km':=List.mem_of_getElem? hk
   obtain⟨a,da,fa,rfl,ha,fla⟩:=tr.same (s2.trans s3)
   have hk':=kid_ht km'
   refine⟨_,rfl,a,_,da,fa,rfl,ha,isC N k,nD k fa H3 fla,a,da,fa,k,rfl,ha,fla,rfl,by omega,fun H4 s4=>?_⟩
   refine cturn (s4 _ _ hD3) (small ?_) hi ⟨⟨_,rfl⟩,sameUpd hD (s3.trans s4),upd_same,?_⟩
   ·unfold natVs;rw [List.length_map,List.length_map,List.length_take];omega
   ·unfold natVs;rw [List.take_succ,hk,List.map_append,List.map_append];rfl
  ·rintro acc σ H3 ⟨_,s3,hD3,rfl⟩
   rw [<-xl,List.take_length]at hD3
   dsimp only [tNil]
   refine sum_ok hD3 (by rw [List.length_map];omega) (fun k hk=>?_) ?_
   ·obtain⟨u,hu,rfl⟩:=List.mem_map.mp hk
    have:=kid_ht hu
    exact small_ u (by omega)
   refine⟨_,_,rfl,rfl,?_⟩
   have:=q H3 (s2.trans s3)
   rw [<-prts_kids t]at this
   exact this
end
end KY
namespace KY
open PySem PyProof.Rows L2
theorem Kp.new {a q:Addr} {H H':Hp} {o:HO} (k:Kp a H H') (hq:H' q=none):Kp a H (upd H' q o):=fun b u e n=>by
 have:=k b u e n
 rw [upd_ne (ne_of_none this hq)];exact this
theorem Kp.free {a q:Addr} {H H':Hp} (k:Kp a H H') (w:WellAt H' a) (hq:H' q=none):H q=none:=by
 cases g:H q with
 |none=>rfl
 |some o=>
  have n:q≠a:=fun z=>by obtain⟨x,y,z',e⟩:=w;rw [z,e]at hq;cases hq
  rw [k q o g n]at hq;cases hq
theorem Kp.upd {a q:Addr} {H H':Hp} {o:HO} (k:Kp a H H') (hq:H q=none):Kp a H (upd H' q o):=fun b u e n=>by
 rw [upd_ne (ne_of_none e hq)];exact k b u e n
theorem WellAt.upd {a q:Addr} {H:Hp} {o:HO} (h:WellAt H a) (n:q≠a):WellAt (upd H q o) a:=by
 obtain⟨x,y,z,e⟩:=h
 exact⟨x,y,z,by rw [upd_ne (Ne.symm n)];exact e⟩
theorem _root_.L2.PKy.mono {H H':Hp} (k:∀c zs,H c=some (.tup zs)->H' c=some (.tup zs)) {x:TkR} (h:PKy H x):PKy H' x:=let⟨q,h1,h2⟩:=h;⟨q,k _ _ h1,k _ _ h2⟩
def spSteps:Sp:=fun vs H Q _=>∃(a:Addr) (n:Nat),vs=[.ref a,natV n]/\WellAt H a/\n<=3/\∀(q:Addr) (ss:List Int) (H':Hp),Kp a H H'->WellAt H' a->H' q=some (.tup (ss.map V.int))->ss.length=n->(∀s∈ss, -9<=s/\s<=9)->Q (.ref q) H'
def spSome:Sp:=fun vs H Q _=>∃(a:Addr) (n:Nat),vs=[.ref a,natV n]/\WellAt H a/\n<=3/\∀(l:Addr) (ps:List TkR) (H':Hp),Kp a H H'->WellAt H' a->H l=none->H' l=some (.lst (ps.map fun x=>V.ref x.2))->(∀x∈ps,PKy H' x/\x.1.2.length=n/\GoodT x.1)->ps.length<=4->Q (.ref l) H'
def spNumber:Sp:=fun vs H Q _=>∃(a:Addr),vs=[.ref a]/\WellAt H a/\∀(v:V) (n:Int) (H':Hp),Kp a H H'->WellAt H' a->TupAt H' (.num n) v-> -1000000000000<=n->n<=1000000000000->Q v H'
section
variable {P:Program} {w:World} {K:PySem.W.Frag} {mg:Str->Option Value} {base:Heap}
abbrev NSteps:List Str:=["_law_well_here","_law_lines","_law_wide"]
theorem scSteps:FnScope ["_law_well_here","_law_lines","_law_wide"] ["_law_well_here","_law_lines"] (defScope sSteps):=⟨rfl,rfl,rfl,by decide+kernel,rfl,by decide+kernel,by decide+kernel⟩
theorem ok_steps {f:Addr} {fd:FuncData} (F:Fun K "_law_steps" "_law_steps" sSteps f fd) (c_draw:Cal P w K mg base CX0 1 "_law_draw" ["_law_well_here","_law_most"] spDraw) (T:Txt K mg):FnOk P w K mg base CX0 2 f fd ["_law_well_here","_law_lines"] spSteps:=by
 refine F.ok scSteps (fun vs H Q E h=>?_) (fun cdv A outer s H vs Q E hr h=>?_)
 ·obtain⟨a,n,rfl,_⟩:=h
  rfl
 ·obtain⟨a,n,rfl,wa,n3,q⟩:=h
  refine⟨_,(@pss_cons _ _ _ _ _ (ps_set (i:=2) scSteps.nd rfl (Or.inr rfl) (pe_ix ix_list (pe_lst (pa_cons pe_int (pa_cons pe_int (pa_cons pe_int (pa_cons pe_int pa_nil))))) (pe_c c_draw (hr.mono (by omega)) rfl pass0 (pa_cons (pv 0) (pa_cons pe_int pa_nil))) (fun _ _=>rfl))) (@pss_one _ _ _ (ps_ret (pe_callTy call_tuple_of rfl T.tuple boot_tuple (pa_cons (pe_cp (own:=["_law_k"]) (cap:=[("_law_well_here",0),("_law_wide",2)]) (g:=gName 0) (defScope sSteps) NSteps rfl rfl (fun x h=>cell_has h) (by decide+kernel) rfl (pi_range1 rfl T.range (pa_cons (pv 1) pa_nil)) (fun cl C s2 H2 fp=>(pg_name (i:=0) (show(["_law_k","_law_well_here","_law_wide"]:List Str).Nodup by decide+kernel) rfl (Or.inl rfl) (Or.inr rfl))) (fun cl C s2 H2 fp=>(pe_op op_sub (pe_c c_draw (hr.mono (by omega)) rfl pass0 (pa_cons (pv 1) (pa_cons (pv 2) pa_nil))) (pe_op op_fdiv (pv 2) pe_int)))) pa_nil))))),?_⟩
  refine⟨by show 4<=sizeLine;decide,fun l0 hl0=>⟨_,rfl,a,4,rfl,wa.new hl0,by decide,by decide,fun r0 H1 hr0 k1' w1=>?_⟩⟩
  have l0a:l0≠a:=wa.ne hl0
  obtain⟨wide,hv,wp,w19⟩:∃v:Nat,([V.int 3,V.int 3,V.int 5,V.int 19]:List V)[r0]? =some (natV v)/\0<v/\v<=19:=by
   match r0,(show r0<4 by omega)with
   |0,_=>exact⟨3,rfl,by decide,by decide⟩
   |1,_=>exact⟨3,rfl,by decide,by decide⟩
   |2,_=>exact⟨5,rfl,by decide,by decide⟩
   |3,_=>exact⟨19,rfl,by decide,by decide⟩
  refine⟨l0,_,_,_,rfl,rfl,SqL.of (k1' _ _ upd_same l0a),atI_nat hv,?_⟩
  have k1:Kp a H H1:=(Kp.of (sameNew hl0)).trans k1'
  refine⟨_,rfl,(n:Int),rfl,by omega,by omega,fun D hD=>?_⟩
  have hDn:=k1.free w1 hD
  have hDa:D≠a:=w1.ne hD
  refine comp_range (fun i acc σ H2=>∃(v0:Option V) (ss:List Int),σ=[v0,some (.ref a),some (natV wide)]/\Kp a H H2/\WellAt H2 a/\H2 D=some (.lst acc)/\acc=ss.map V.int/\ss.length=i/\∀s∈ss, -9<=s/\s<=9) ⟨_,[],rfl,k1.new hD,w1.new hD,upd_same,rfl,rfl,fun _ h=>nomatch h⟩ ?_ ?_
  ·rintro i acc σ H2 hi ⟨v0,ss,rfl,k2,w2,hD2,rfl,hll,bd⟩
   refine⟨_,rfl,_,rfl,a,(wide:Int),rfl,w2,by omega,by omega,fun r H4 hr4 k4 w4=>?_⟩
   have hD4:H4 D=some (.lst (ss.map V.int)):=k4 _ _ hD2 hDa
   refine⟨_,rfl,_,_,rfl,rfl,⟨by decide,by decide⟩,_,_,rfl,rfl,cturn hD4 (small (by rw [List.length_map];omega)) hi ⟨_,ss++[(r:Int)-(wide:Int) / 2],rfl,(k2.trans k4).upd hDn,w4.upd hDa,upd_same,by rw [List.map_append];rfl,by rw [List.length_append,hll];rfl,fun z hz=>by
    rcases List.mem_append.mp hz with m|m
    ·exact bd z m
    ·rw [List.mem_singleton.mp m];omega⟩⟩
  ·rintro acc σ H2 ⟨v0,ss,rfl,k2,w2,hD2,rfl,hll,bd⟩
   refine⟨D,_,rfl,.inl ⟨SqL.of hD2,fun t ht=>?_⟩⟩
   exact q t ss _ (k2.new ht) (w2.new ht) upd_same (by rw [hll];omega) bd
end
end KY
namespace KY
open PySem PyProof.Rows L2
section
variable {P:Program} {w:World} {K:PySem.W.Frag} {mg:Str->Option Value} {base:Heap}
abbrev NSome:List Str:=["_law_well_here","_law_lines"]
theorem scSome:FnScope ["_law_well_here","_law_lines"] ["_law_well_here","_law_lines"] (defScope sSome):=⟨rfl,rfl,rfl,by decide+kernel,rfl,by decide+kernel,by decide+kernel⟩
theorem ok_some {f:Addr} {fd:FuncData} (F:Fun K "_law_some_takes" "_law_some_takes" sSome f fd) (c_draw:Cal P w K mg base CX0 1 "_law_draw" ["_law_well_here","_law_most"] spDraw) (c_steps:Cal P w K mg base CX0 2 "_law_steps" ["_law_well_here","_law_lines"] spSteps) (T:Txt K mg):FnOk P w K mg base CX0 3 f fd ["_law_well_here","_law_lines"] spSome:=by
 refine F.ok scSome (fun vs H Q E h=>?_) (fun cdv A outer s H vs Q E hr h=>?_)
 ·obtain⟨a,n,rfl,_⟩:=h
  rfl
 ·obtain⟨a,n,rfl,wa,n3,q⟩:=h
  refine⟨_,(pss_one (ps_ret (pe_cp (own:=["_law_k"]) (cap:=[("_law_well_here",0),("_law_lines",1)]) (g:=gName 0) (defScope sSome) NSome rfl rfl (fun x h=>cell_has h) (by decide+kernel) rfl (pi_range1 rfl T.range (pa_cons (pe_c c_draw (hr.mono (by omega)) rfl pass0 (pa_cons (pv 0) (pa_cons pe_int pa_nil))) pa_nil)) (fun cl C s2 H2 fp=>(pg_name (i:=0) (show(["_law_k","_law_well_here","_law_lines"]:List Str).Nodup by decide+kernel) rfl (Or.inl rfl) (Or.inr rfl))) (fun cl C s2 H2 fp=>(pe_tup (pa_cons (pe_op op_add pe_int (pe_c c_draw (hr.mono (by omega)) rfl pass0 (pa_cons (pv 1) (pa_cons pe_int pa_nil)))) (pa_cons (pe_c c_steps (hr.mono (by omega)) rfl pass0 (pa_cons (pv 1) (pa_cons (pv 2) pa_nil))) pa_nil))))))),?_⟩
  refine⟨_,rfl,a,5,rfl,wa,by decide,by decide,fun r0 H1 hr0 k1 w1=>?_⟩
  refine⟨(r0:Int),rfl,by omega,by omega,fun D hD=>?_⟩
  have hDn:=k1.free w1 hD
  have hDa:D≠a:=w1.ne hD
  refine comp_range (fun i acc σ H2=>∃(v0:Option V) (ps:List TkR),σ=[v0,some (.ref a),some (natV n)]/\Kp a H H2/\WellAt H2 a/\H2 D=some (.lst acc)/\acc=(ps.map fun x=>V.ref x.2)/\ps.length=i/\∀x∈ps,PKy H2 x/\x.1.2.length=n/\GoodT x.1) ⟨_,[],rfl,k1.new hD,w1.new hD,upd_same,rfl,rfl,fun _ h=>nomatch h⟩ ?_ ?_
  ·rintro i acc σ H2 hi ⟨v0,ps,rfl,k2,w2,hD2,rfl,hll,pk⟩
   refine⟨_,rfl,a,3,rfl,w2,by decide,by decide,fun r H4 hr4 k4 w4=>⟨_,_,rfl,rfl,?_⟩⟩
   refine⟨_,rfl,_,rfl,a,n,rfl,w4,n3,fun u ss H5 k5 w5 e5 sl sb=>?_⟩
   refine⟨by show 2<=sizeLine;decide,fun t ht=>?_⟩
   have k25:=k4.trans k5
   have hD5:H5 D=some (.lst (ps.map fun x=>V.ref x.2)):=k25 _ _ hD2 hDa
   have tD:t≠D:=Ne.symm (ne_of_none hD5 ht)
   have uD:u≠D:=fun z=>by rw [z,hD5]at e5;cases e5
   refine cturn (by rw [upd_ne (Ne.symm tD)];exact hD5) (small (by rw [List.length_map];omega)) hi ⟨_,ps++[((1+(r:Int),ss),t)],rfl,((k2.trans k25).new ht).upd hDn,(w5.new ht).upd hDa,upd_same,by rw [List.map_append];rfl,by rw [List.length_append,hll];rfl,fun x hx=>?_⟩
   have up:∀c zs,H5 c=some (.tup zs)->upd (upd H5 t (.tup [V.int (1+(r:Int)),V.ref u])) D (.lst (ps.map (fun x=>V.ref x.2)++[V.ref t])) c=some (.tup zs):=fun c zs e=>by
    have cD:c≠D:=fun z=>by rw [z,hD5]at e;cases e
    rw [upd_ne cD,upd_ne (ne_of_none e ht)]
    exact e
   rcases List.mem_append.mp hx with m|m
   ·obtain⟨g1,g2⟩:=pk x m
    exact⟨g1.mono fun c zs e=>up c zs (k25.tup w2 e),g2⟩
   ·rw [List.mem_singleton.mp m]
    exact⟨⟨u,by rw [upd_ne tD,upd_same],up _ _ e5⟩,sl,by show 1<=1+(r:Int);omega,by show 1+(r:Int)<=3;omega,sb⟩
  ·rintro acc σ H2 ⟨v0,ps,rfl,k2,w2,hD2,rfl,hll,pk⟩
   exact q D ps H2 k2 w2 hDn hD2 pk (by omega)
end
end KY
namespace KY
open PySem PyProof.Rows L2
section
variable {P:Program} {w:World} {K:PySem.W.Frag} {mg:Str->Option Value} {base:Heap}
theorem scNumber:FnScope ["_law_well_here","_law_far"] ["_law_well_here"] (defScope sNumber):=⟨rfl,rfl,rfl,by decide+kernel,rfl,by decide+kernel,by decide+kernel⟩
theorem ok_number {f:Addr} {fd:FuncData} (F:Fun K "_law_number" "_law_number" sNumber f fd) (c_draw:Cal P w K mg base CX0 1 "_law_draw" ["_law_well_here","_law_most"] spDraw):FnOk P w K mg base CX0 2 f fd ["_law_well_here"] spNumber:=by
 refine F.ok scNumber (fun vs H Q E h=>?_) (fun cdv A outer s H vs Q E hr h=>?_)
 ·obtain⟨a,rfl,_⟩:=h
  rfl
 ·obtain⟨a,rfl,wa,q⟩:=h
  refine⟨_,(@pss_cons _ _ _ _ _ (ps_set (i:=1) scNumber.nd rfl (Or.inl rfl) (pe_ix ix_list (pe_lst (pa_cons pe_int (pa_cons pe_int (pa_cons (pe_op op_add (pe_op op_mul pe_int (pe_op op_pow pe_int pe_int)) pe_int) pa_nil)))) (pe_c c_draw (hr.mono (by omega)) rfl pass0 (pa_cons (pv 0) (pa_cons pe_int pa_nil))) (fun _ _=>rfl))) (@pss_one _ _ _ (ps_ret (pe_tup (pa_cons pe_str (pa_cons (pe_op op_sub (pe_c c_draw (hr.mono (by omega)) rfl pass0 (pa_cons (pv 0) (pa_cons (pv 1) pa_nil))) (pe_op op_fdiv (pv 1) pe_int)) pa_nil)))))),?_⟩
  refine⟨_,_,rfl,rfl,⟨by decide,by decide,by decide⟩,_,_,rfl,rfl,.inl ⟨by decide,by decide⟩,_,_,rfl,rfl,by show 3<=sizeLine;decide,fun l0 hl0=>⟨_,rfl,a,3,rfl,wa.new hl0,by decide,by decide,fun r0 H1 hr0 k1' w1=>?_⟩⟩
  have l0a:l0≠a:=wa.ne hl0
  obtain⟨far,hv,f0,f1⟩:∃v:Nat,([V.int 7,V.int 201,V.int (2*10 ^ 12+1)]:List V)[r0]? =some (natV v)/\0<v/\v<=2000000000001:=by
   match r0,(show r0<3 by omega)with
   |0,_=>exact⟨7,rfl,by decide,by decide⟩
   |1,_=>exact⟨201,rfl,by decide,by decide⟩
   |2,_=>exact⟨2000000000001,rfl,by decide,by decide⟩
  refine⟨l0,_,_,_,rfl,rfl,SqL.of (k1' _ _ upd_same l0a),atI_nat hv,?_⟩
  have k1:Kp a H H1:=(Kp.of (sameNew hl0)).trans k1'
  refine⟨_,rfl,_,rfl,a,(far:Int),rfl,w1,by omega,by omega,fun r H2 hr2 k2 w2=>?_⟩
  refine⟨_,rfl,_,_,rfl,rfl,⟨by decide,by decide⟩,_,_,rfl,rfl,by show 2<=sizeLine;decide,fun t ht=>?_⟩
  exact q _ _ _ ((k1.trans k2).new ht) (w2.new ht) ⟨t,rfl,upd_same⟩ (by omega) (by omega)
end
end KY
namespace KY
open PySem PyProof.Rows L2
structure SomeAt (H:Hp) (so:Addr) (ps:List TkR):Prop where
 at_:H so=some (.lst (ps.map fun x=>V.ref x.2))
 pk:∀x∈ps,PKy H x
 len:ps.length<=8
theorem SomeAt.kp {a:Addr} {H H':Hp} {so:Addr} {ps:List TkR} (k:Kp a H H') (w:WellAt H a) (n:so≠a) (h:SomeAt H so ps):SomeAt H' so ps:=⟨k _ _ h.at_ n,fun x hx=>(h.pk x hx).mono fun _ _ e=>k.tup w e,h.len⟩
def spTold (d:Nat):Sp:=fun vs H Q _=>∃(a so:Addr) (ps:List TkR) (e:Nat),vs=[.ref a,.ref so,natV e]/\WellAt H a/\so≠a/\SomeAt H so ps/\e<d/\∀(v:V) (t:Tm) (H':Hp),Kp a H H'->WellAt H' a->TupAt H' t v->ht t<=e+1->Wf t->(∀x∈raw t,x∈ps.map (·.1))->Q v H'
abbrev Av0:Addr->Prop:=fun _=>False
def dTk (x:Tk):D:= .tp [.fl (.int x.1),.tp (x.2.map fun k=> .fl (.int k))]
def dTks (l:List Tk):D:= .ls (l.map dTk)
theorem dens_ints {H:Hp}:∀l:List Int,DensN Av0 H (l.map fun k=> .fl (.int k)) (l.map V.int)
 | []=>rfl
 |n::ns=>⟨_,_,rfl,⟨rfl,rfl⟩,dens_ints ns⟩
theorem dens_tks {H:Hp}:∀{ps:List TkR},(∀x∈ps,PKy H x)->DensN Av0 H ((ps.map (·.1)).map dTk) (ps.map fun x=>V.ref x.2)
 | [],_=>rfl
 |x::ps,h=>by
  obtain⟨q,h1,h2⟩:=h x List.mem_cons_self
  exact⟨_,_,rfl,⟨x.2,_,rfl,h1,.cons .fl (.cons ⟨q,_,rfl,h2,dens_ints x.1.2⟩ .nil)⟩,dens_tks fun y hy=>h y (List.mem_cons_of_mem _ hy)⟩
theorem dep_ints:∀l:List Int,D.deps (l.map fun k=>D.fl (.int k))=0
 | []=>by rw [List.map_nil,D.deps]
 |n::ns=>by rw [List.map_cons,D.deps,D.dep,dep_ints ns];rfl
theorem dep_tks:∀l:List Tk,D.deps (l.map dTk)<=2
 | []=>by rw [List.map_nil,D.deps];decide
 |x::l=>by
  rw [List.map_cons,D.deps]
  refine Nat.max_le.mpr ⟨?_,dep_tks l⟩
  simp [dTk,D.dep,D.deps,dep_ints]
theorem fn_none {P:Program} {w:World} {K:PySem.W.Frag} {mg:Str->Option Value} {base:Heap} {CX:CXT} {k:Nat} {f:Addr} {fd:FuncData} {ps:List Str} {sp:Sp} (h:∀vs H Q E,¬sp vs H Q E):FnOk P w K mg base CX k f fd ps sp:=
 ⟨fun vs H Q E z=>absurd z (h vs H Q E),fun _ _ _ H _ _ vs Q E _ _ _ _ z=>absurd z (h vs H Q E)⟩
section
variable {P:Program} {w:World} {K:PySem.W.Frag} {mg:Str->Option Value} {base:Heap}
theorem scTold:FnScope ["_law_well_here","_law_some","_law_deep","_law_way","_law_one","_law_other"] ["_law_well_here","_law_some","_law_deep"] (defScope sTold):=⟨rfl,rfl,rfl,by decide+kernel,rfl,by decide+kernel,by decide+kernel⟩
theorem ok_told {f:Addr} {fd:FuncData} {d:Nat} (F:Fun K "_law_told" "_law_told" sTold f fd) (c_draw:Cal P w K mg base CX0 1 "_law_draw" ["_law_well_here","_law_most"] spDraw) (c_number:Cal P w K mg base CX0 2 "_law_number" ["_law_well_here"] spNumber)
  (c_told:Cal P w K mg base CX0 (d+2) "_law_told" ["_law_well_here","_law_some","_law_deep"] (spTold d)) (T:Txt K mg):FnOk P w K mg base CX0 (d+3) f fd ["_law_well_here","_law_some","_law_deep"] (spTold (d+1)):=by
 refine F.ok scTold (fun vs H Q E h=>?_) (fun cdv A outer s H vs Q E hr h=>?_)
 ·obtain⟨a,so,ps,e,rfl,_⟩:=h
  rfl
 ·obtain⟨a,so,ps,e,rfl,wa,na,S,hd,q⟩:=h
  have hu:=hu_of2 hr
  refine⟨_,(@pss_cons _ _ _ _ _ (ps_set (i:=3) scTold.nd rfl (Or.inl rfl) (pe_c c_draw (hr.mono (by omega)) rfl pass0 (pa_cons (pv 0) (pa_cons pe_int pa_nil)))) (@pss_cons _ _ _ _ _ (ps_if (PW.pt (pw_or (pt_cmpR op_eq (pv 2) pe_int (nomark _)) (pw_or1 (pt_cmpR op_lt (pv 3) pe_int (nomark _))))) (@pss_cons _ _ _ _ _ (ps_if (PW.pt (pw_or (pt_cmpR (op_eqD hu) (pv 1) (pe_lst pa_nil) (nomark _)) (pw_or1 (pt_cmpR op_eq (pe_c c_draw (hr.mono (by omega)) rfl pass0 (pa_cons (pv 0) (pa_cons pe_int pa_nil))) pe_int (nomark _))))) (@pss_one _ _ _ (ps_ret (pe_c c_number (hr.mono (by omega)) rfl pass0 (pa_cons (pv 0) pa_nil)))) pss_nil) (@pss_one _ _ _ (ps_ret (pe_op op_catT (pe_tup (pa_cons pe_str pa_nil)) (pe_ix ix_list (pv 1) (pe_c c_draw (hr.mono (by omega)) rfl pass0 (pa_cons (pv 0) (pa_cons (pe_callB call_len_seq (by rfl) T.len PySem.boot_len (pa_cons (pv 1) pa_nil)) pa_nil))) (fun _ _=>rfl)))))) pss_nil) (@pss_cons _ _ _ _ _ (ps_set (i:=4) scTold.nd rfl (Or.inl rfl) (pe_c c_told (hr.mono (by omega)) rfl pass0 (pa_cons (pv 0) (pa_cons (pv 1) (pa_cons (pe_op op_sub (pv 2) pe_int) pa_nil))))) (@pss_cons _ _ _ _ _ (ps_if (pt_cmpR op_eq (pv 3) pe_int (nomark _)) (@pss_one _ _ _ (ps_ret (pe_tup (pa_cons pe_str (pa_cons (pv 4) (pa_cons (pe_op op_add pe_int (pe_c c_draw (hr.mono (by omega)) rfl pass0 (pa_cons (pv 0) (pa_cons (pe_ix ix_list (pe_lst (pa_cons pe_int (pa_cons (pe_op op_pow pe_int pe_int) pa_nil))) (pe_c c_draw (hr.mono (by omega)) rfl pass0 (pa_cons (pv 0) (pa_cons pe_int pa_nil))) (fun _ _=>rfl)) pa_nil)))) pa_nil)))))) pss_nil) (@pss_cons _ _ _ _ _ (ps_set (i:=5) scTold.nd rfl (Or.inl rfl) (pe_c c_told (hr.mono (by omega)) rfl pass0 (pa_cons (pv 0) (pa_cons (pv 1) (pa_cons (pe_op op_sub (pv 2) pe_int) pa_nil))))) (@pss_cons _ _ _ _ _ (ps_if (pt_cmpR op_eq (pv 3) pe_int (nomark _)) (@pss_one _ _ _ (ps_ret (pe_tup (pa_cons pe_str (pa_cons (pv 4) (pa_cons (pv 5) (pa_cons (pe_c c_told (hr.mono (by omega)) rfl pass0 (pa_cons (pv 0) (pa_cons (pv 1) (pa_cons (pe_op op_sub (pv 2) pe_int) pa_nil)))) pa_nil))))))) pss_nil) (@pss_one _ _ _ (ps_ret (pe_tup (pa_cons (pe_ix ix_list (pe_clst rfl) (pe_c c_draw (hr.mono (by omega)) rfl pass0 (pa_cons (pv 0) (pa_cons pe_int pa_nil))) (fun _ _=>rfl)) (pa_cons (pv 4) (pa_cons (pv 5) pa_nil)))))))))))),?_⟩
  refine⟨_,rfl,a,13,rfl,wa,by decide,by decide,fun way H1 hw k1 w1=>?_⟩
  have S1:=S.kp k1 wa na
  refine(fun(leaf:(?L:Prop))=> ?main) ?leafp
  case main=>
   refine⟨_,rfl,rfl,_,rfl,?_⟩
   by_cases e0:e=0
   ·refine iteTe (decide_eq_true (by rw [e0];rfl)) ?_
    exact leaf
   refine iteFe (decide_eq_false fun z=>e0 (by have:=V.int.inj z;omega)) ?_
   refine⟨_,rfl,_,_,rfl,rfl,_,rfl,?_⟩
   by_cases w4:way<4
   ·refine iteTe (decide_eq_true (by omega)) ?_
    exact leaf
   refine iteFe (decide_eq_false (by omega)) ?_
   have lessE:∀x y:V,[x,y,V.int ((e:Int)-1)]=[x,y,natV (e-1)]:=fun x y=>by rw [show(e:Int)-1=((e-1:Nat):Int) by omega]
   refine⟨_,rfl,_,rfl,_,rfl,_,_,rfl,rfl,a,so,ps,e-1,lessE _ _,w1,na,S1,by omega,fun v1 t1 H2 k2 w2 u1 h1 f1 r1=>?_⟩
   have k02:=k1.trans k2
   have S2:=S1.kp k2 w1 na
   refine⟨_,rfl,rfl,_,rfl,?_⟩
   by_cases w4:way=4
   ·refine iteTe (decide_eq_true (by rw [w4];rfl)) ?_
    refine⟨_,rfl,_,rfl,_,_,rfl,rfl,⟨by decide,by decide,by decide⟩,by show 2<=sizeLine;decide,fun l0 hl0=>⟨_,rfl,a,2,rfl,w2.new hl0,by decide,by decide,fun r0 H5 hr0 k5' w5=>?_⟩⟩
    have l0a:l0≠a:=w2.ne hl0
    obtain⟨m,hv,m0,m1⟩:∃m:Int,([V.int 9,V.int (10 ^ 9)]:List V)[r0]? =some (.int m)/\0<m/\m<=1000000000:=by
     match r0,(show r0<2 by omega)with
     |0,_=>exact⟨9,rfl,by decide,by decide⟩
     |1,_=>exact⟨10 ^ 9,rfl,by decide,by decide⟩
    have k5:Kp a H2 H5:=(Kp.of (sameNew hl0)).trans k5'
    refine⟨l0,_,_,_,rfl,rfl,SqL.of (k5' _ _ upd_same l0a),atI_nat hv,a,m,rfl,w5,m0,by omega,fun r H6 hr6 k6 w6=>?_⟩
    refine⟨_,_,rfl,rfl,by show 3<=sizeLine;decide,fun t ht=>?_⟩
    refine q _ (.rest t1 (1+(r:Int))) _ ((k02.trans (k5.trans k6)).new ht) (w6.new ht) ⟨t,v1,rfl,upd_same,(u1.mono fun _ _ e=>(k5.trans k6).tup w2 e).mono fun c zs e=>sameNew ht _ _ e⟩ (by show _+1<=_;omega) ⟨by omega,by omega,f1⟩ r1
   refine iteFe (decide_eq_false fun z=>w4 (by have:=V.int.inj z;omega)) ?_
   refine⟨_,rfl,_,rfl,_,rfl,_,_,rfl,rfl,a,so,ps,e-1,lessE _ _,w2,na,S2,by omega,fun v2 t2 H3 k3 w3 u2 h2 f2 r2=>?_⟩
   have k03:=k02.trans k3
   have S3:=S2.kp k3 w2 na
   have u13:TupAt H3 t1 v1:=u1.mono fun _ _ e=>k3.tup w2 e
   refine⟨_,rfl,rfl,_,rfl,?_⟩
   by_cases w5:way=5
   ·refine iteTe (decide_eq_true (by rw [w5];rfl)) ?_
    refine⟨_,rfl,_,rfl,_,rfl,_,rfl,_,rfl,_,_,rfl,rfl,a,so,ps,e-1,lessE _ _,w3,na,S3,by omega,fun v3 t3 H4 k4 w4 u3 h3 f3 r3=>?_⟩
    refine⟨by show 4<=sizeLine;decide,fun t ht=>?_⟩
    have up:∀c zs,H4 c=some (.tup zs)->upd H4 t (.tup [.str "?",v1,v2,v3]) c=some (.tup zs):=fun c zs e=>sameNew ht _ _ e
    refine q _ (.cho t1 t2 t3) _ ((k03.trans k4).new ht) (w4.new ht) ⟨t,v1,v2,v3,rfl,upd_same,(u13.mono fun _ _ e=>k4.tup w3 e).mono up,(u2.mono fun _ _ e=>k4.tup w3 e).mono up,u3.mono up⟩ (by show max _ _+1<=_;omega) ⟨f1,f2,f3⟩ fun x hx=>?_
    simp only [raw,List.mem_append]at hx
    rcases hx with z|z|z
    ·exact r1 x z
    ·exact r2 x z
    ·exact r3 x z
   refine iteFe (decide_eq_false fun z=>w5 (by have:=V.int.inj z;omega)) ?_
   refine⟨by show 5<=sizeLine;decide,fun l0 hl0=>⟨_,rfl,a,5,rfl,w3.new hl0,by decide,by decide,fun r0 H5 hr0 k5' w5=>?_⟩⟩
   have l0a:l0≠a:=w3.ne hl0
   obtain⟨k,hv⟩:∃k:Fin 5,([V.str "+",V.str "-",V.str "*",V.str "min",V.str "max"]:List V)[r0]? =some (.str (opn k)):=by
    match r0,(show r0<5 by omega)with
    |0,_=>exact⟨0,rfl⟩
    |1,_=>exact⟨1,rfl⟩
    |2,_=>exact⟨2,rfl⟩
    |3,_=>exact⟨3,rfl⟩
    |4,_=>exact⟨4,rfl⟩
   have k5:Kp a H3 H5:=(Kp.of (sameNew hl0)).trans k5'
   refine⟨l0,_,_,_,rfl,rfl,SqL.of (k5' _ _ upd_same l0a),atI_nat hv,_,rfl,_,rfl,by show 3<=sizeLine;decide,fun t ht=>?_⟩
   have up:∀c zs,H5 c=some (.tup zs)->upd H5 t (.tup [.str (opn k),v1,v2]) c=some (.tup zs):=fun c zs e=>sameNew ht _ _ e
   refine q _ (.bin k t1 t2) _ ((k03.trans k5).new ht) (w5.new ht) ⟨t,v1,v2,rfl,upd_same,(u13.mono fun _ _ e=>k5.tup w3 e).mono up,(u2.mono fun _ _ e=>k5.tup w3 e).mono up⟩ (by show max _ _+1<=_;omega) ⟨f1,f2⟩ fun x hx=>?_
   simp only [raw,List.mem_append]at hx
   rcases hx with z|z
   ·exact r1 x z
   ·exact r2 x z
  case leafp=>
   refine⟨_,rfl,by show 0<=sizeLine;decide,fun d5 n5=>?_⟩
   generalize g:upd H1 d5 _=H2
   obtain⟨s2,e2⟩:=new_of n5 g
   have k2:=k1.same s2
   have w2:=w1.same s2
   have S2:SomeAt H2 so ps:=⟨s2 _ _ S1.at_,fun x hx=>(S1.pk x hx).same s2,S1.len⟩
   have dd:=dep_tks (ps.map (·.1))
   refine⟨dTks (ps.map (·.1)),.ls [],DenN.den K (Av:=Av0) _ ⟨so,_,rfl,id,S2.at_,dens_tks S2.pk⟩,DenN.den K (Av:=Av0) _ ⟨d5,_,rfl,id,e2,rfl⟩,by simp only [dTks,D.dep,D.deps];omega,?_⟩
   refine(fun(numb:∀H3,Kp a H H3->WellAt H3 a->(?N:Hp->Prop) H3)=> ?main2) ?nump
   case main2=>
    refine⟨_,rfl,?_⟩
    by_cases hz:(dTks (ps.map (·.1))).eq (.ls [])=true
    ·refine iteTe hz ?_
     refine iteT ?_
     exact numb H2 k2 w2
    ·refine iteFe (Bool.eq_false_iff.mpr hz) ?_
     have ne:ps≠[]:=fun z=>by rw [z]at hz;simp [dTks,D.eq,D.eqs]at hz
     refine⟨_,rfl,a,3,rfl,w2,by decide,by decide,fun r H3 hr3 k3 w3=>⟨rfl,_,rfl,?_⟩⟩
     have k03:=k2.trans k3
     by_cases r0:r=0
     ·refine iteTe (decide_eq_true (by rw [r0];rfl)) ?_
      exact numb H3 k03 w3
     refine iteFe (decide_eq_false fun z=>r0 (by have:=V.int.inj z;omega)) ?_
     have S3:=S2.kp k3 w2 na
     refine⟨by show 1<=sizeLine;decide,fun t1 n1=>?_⟩
     generalize g:upd H3 t1 _=H4
     obtain⟨s4,e4⟩:=new_of n1 g
     have w4:=w3.same s4
     have S4:SomeAt H4 so ps:=⟨s4 _ _ S3.at_,fun x hx=>(S3.pk x hx).same s4,S3.len⟩
     have pl:0<ps.length:=List.length_pos_iff.mpr ne
     have p8:=S.len
     refine⟨_,rfl,_,rfl,_,rfl,so,_,rfl,.inl (SqL.of S4.at_),a,(ps.length:Int),by rw [List.length_map];rfl,w4,by omega,by omega,fun i H5 hi k5 w5=>?_⟩
     have S5:=S4.kp k5 w4 na
     have il:i<ps.length:=by omega
     refine⟨so,_,_,_,rfl,rfl,SqL.of S5.at_,atI_nat (show(ps.map fun x=>V.ref x.2)[i]? =some (.ref ps[i].2) by rw [List.getElem?_map,List.getElem?_eq_getElem il];rfl),?_⟩
     obtain⟨u,h1,h2⟩:=S5.pk ps[i] (List.getElem_mem il)
     have e5:H5 t1=some (.tup [.str "take"]):=k5.tup w4 e4
     refine⟨t1,ps[i].2,_,_,rfl,rfl,SqT.of e5,SqT.of h1,by simp,by show 3<=sizeLine;decide,(fun z=>nomatch z),fun _ t ht=>?_⟩
     refine q _ (.take ps[i].1.1 ps[i].1.2) _ (((k03.same s4).trans k5).new ht) (w5.new ht) ⟨t,u,rfl,upd_same,sameNew ht _ _ h2⟩ (by show 1<=_;omega) True.intro fun x hx=>?_
     rw [List.mem_singleton.mp hx]
     exact List.mem_map.mpr ⟨ps[i],List.getElem_mem il,rfl⟩
   case nump=>
    intro H3 k3 w3
    exact⟨_,rfl,a,rfl,w3,fun v n H4 k4 w4 tu hn1 hn2=>q v (.num n) H4 (k3.trans k4) w4 tu (by show 1<=_;omega) ⟨hn1,hn2⟩ fun x hx=>nomatch hx⟩
end
end KY
namespace KY
open PySem PyProof.Rows L2
structure Mkr (P:Program) (w:World) (K:PySem.W.Frag) (mg:Str->Option Value) (base:Heap) (C:Addr) (x:Str) (ps:List Str) (sp:Sp):Prop where
 ex:∃f fd,FnOk P w K mg base CX0 1 f fd ps sp/\Mk K C f/\mg x=some (.ref C)/\Binds K fd ps []
theorem pe_mk {X:Cx} {C:Addr} {x:Str} {ps:List Str} {sp:Sp} {E:XK} {e:Expr} {es:List Expr} {t:TA} {p pos:Pos} (R:Mkr X.prog X.w X.K X.mg X.base C x ps sp) (hr:Room 2 X.A) (hg:Gl X x) (hx:Passes CX0 X E) (ha:PA X (e::es) t)
  (hdb:(x==("__debug__":Str))=false:=by decide) (he:starEach (e::es) X.env=(false,eval e X.env)::starEach es X.env:=by rfl) (hpl:(backTo pos (starEach es X.env)).any (·.1)=false:=by rfl):PE X (.Call (.Name x p) (e::es) [] pos) (tMake C sp [] E t):=by
 obtain⟨f,fd,F,M,hm,hb⟩:=R.ex
 exact pe_make M F hr hg hm hb .nil hx ha hdb he hpl
theorem sF {a b:Str} (h:a≠b:=by decide+kernel):decide (V.str a=V.str b)=false:=decide_eq_false fun z=>h (V.str.inj z)
theorem opn_ne (k:Fin 5):opn k≠"number"/\opn k≠"take"/\opn k≠"rest"/\opn k≠"?":=by
 match k with
 |0=>exact⟨by decide+kernel,by decide+kernel,by decide+kernel,by decide+kernel⟩
 |1=>exact⟨by decide+kernel,by decide+kernel,by decide+kernel,by decide+kernel⟩
 |2=>exact⟨by decide+kernel,by decide+kernel,by decide+kernel,by decide+kernel⟩
 |3=>exact⟨by decide+kernel,by decide+kernel,by decide+kernel,by decide+kernel⟩
 |4=>exact⟨by decide+kernel,by decide+kernel,by decide+kernel,by decide+kernel⟩
def bnm (k:Fin 5):Str:=match k with|0=>"Added"|1=>"Lessened"|2=>"Multiplied"|3=>"Least"|4=>"Most"
def spMade (N:Cn) (d:Nat):Sp:=fun vs H Q _=>∃(v:V) (t:Tm),vs=[v]/\TupAt H t v/\ht t<=d/\∀(v':V) (H':Hp),Same H H'->TrmAt N H' t v'->Q v' H'
theorem new3 {H:Hp} {x dx C:Addr} {fs:List (Str×V)} (nx:H x=none) (nd:H dx=none):Same H (upd (upd (upd H dx (.own x)) x (.ins C dx [])) x (.ins C dx fs)):=sameUpd nx (sameUpd nx (sameUpd nd (Same.refl H)))
theorem bin_done {N:Cn} {K:PySem.W.Frag} {H H1:Hp} {k:Fin 5} {t1 t2:Tm} {v1 v2:V} {Q:VK} {E:XK} (c:Cf K (N.bin k) ["one","other"]) (u1:TrmAt N H1 t1 v1) (u2:TrmAt N H1 t2 v2) (s:Same H H1) (q:∀(v':V) (H':Hp),Same H H'->TrmAt N H' (.bin k t1 t2) v'->Q v' H'):
  ∀x dx,H1 x=none->H1 dx=none->dx≠x->spI2 K "one" "other" (.ref x::([v1,v2]++[])) (upd (upd H1 dx (.own x)) x (.ins (N.bin k) dx [])) (fun v H2=>v= .non/\Q (.ref x) H2) E:=by
 intro x dx nx nd ne
 obtain⟨p1,d1,f1,rfl,h1,g1⟩:=u1
 obtain⟨p2,d2,f2,rfl,h2,g2⟩:=u2
 refine⟨x,N.bin k,dx,.ref p1,.ref p2,rfl,upd_same,c,rfl,?_⟩
 have sN:Same H1 (upd (upd (upd (upd H1 dx (.own x)) x (.ins (N.bin k) dx [])) x (.ins (N.bin k) dx [("one",.ref p1)])) x (.ins (N.bin k) dx [("one",.ref p1),("other",.ref p2)])):=sameUpd nx (new3 nx nd)
 exact q _ _ (s.trans sN) ⟨x,dx,_,rfl,upd_same,p1,d1,f1,p2,d2,f2,rfl,⟨sN _ _ h1,g1.same sN⟩,sN _ _ h2,g2.same sN⟩
section
variable {P:Program} {w:World} {K:PySem.W.Frag} {mg:Str->Option Value} {base:Heap} {N:Cn}
theorem scMade:FnScope ["_law_told_here","_law_one","_law_other"] ["_law_told_here"] (defScope sMade):=⟨rfl,rfl,rfl,by decide+kernel,rfl,by decide+kernel,by decide+kernel⟩
theorem ok_made {f:Addr} {fd:FuncData} {d:Nat} (F:Fun K "_law_made" "_law_made" sMade f fd) (c_made:Cal P w K mg base CX0 (d+2) "_law_made" ["_law_told_here"] (spMade N d))
  (R_num:Mkr P w K mg base N.num "Number" ["self","value"] (spI1 K "value")) (R_take:Mkr P w K mg base N.take "Take" ["self","back","steps"] (spI2 K "back" "steps")) (R_rest:Mkr P w K mg base N.rest "Rest" ["self","one","by"] (spI2 K "one" "by")) (R_cho:Mkr P w K mg base N.cho "Chosen" ["self","test","one","other"] (spI3 K "test" "one" "other"))
  (R_bin:∀k,Mkr P w K mg base (N.bin k) (bnm k) ["self","one","other"] (spI2 K "one" "other")) (c1:Cf K N.num ["value"]) (c2:Cf K N.take ["back","steps"]) (c3:Cf K N.rest ["one","by"]) (c4:Cf K N.cho ["test","one","other"]) (c5:∀k,Cf K (N.bin k) ["one","other"]):
  FnOk P w K mg base CX0 (d+3) f fd ["_law_told_here"] (spMade N (d+1)):=by
 refine F.ok scMade (fun vs H Q E h=>?_) (fun cdv A outer s H vs Q E hr h=>?_)
 ·obtain⟨v,t,rfl,_⟩:=h
  rfl
 ·obtain⟨v,t,rfl,tu,hd,q⟩:=h
  refine⟨_,(pss_cons (ps_if (pt_cmpR op_eq (pe_ix ix_tup (pv 0) pe_int (fun _ _=>rfl)) pe_str (nomark _)) (pss_one (ps_ret (pe_mk R_num (hr.mono (by omega)) rfl pass0 (pa_cons (pe_ix ix_tup (pv 0) pe_int (fun _ _=>rfl)) pa_nil)))) pss_nil) (pss_cons (ps_if (pt_cmpR op_eq (pe_ix ix_tup (pv 0) pe_int (fun _ _=>rfl)) pe_str (nomark _)) (pss_one (ps_ret (pe_mk R_take (hr.mono (by omega)) rfl pass0 (pa_cons (pe_ix ix_tup (pv 0) pe_int (fun _ _=>rfl)) (pa_cons (pe_ix ix_tup (pv 0) pe_int (fun _ _=>rfl)) pa_nil))))) pss_nil) (pss_cons (ps_set (i:=1) scMade.nd rfl (Or.inl rfl) (pe_c c_made (hr.mono (by omega)) rfl pass0 (pa_cons (pe_ix ix_tup (pv 0) pe_int (fun _ _=>rfl)) pa_nil))) (pss_cons (ps_if (pt_cmpR op_eq (pe_ix ix_tup (pv 0) pe_int (fun _ _=>rfl)) pe_str (nomark _)) (pss_one (ps_ret (pe_mk R_rest (hr.mono (by omega)) rfl pass0 (pa_cons (pv 1) (pa_cons (pe_ix ix_tup (pv 0) pe_int (fun _ _=>rfl)) pa_nil))))) pss_nil) (pss_cons (ps_set (i:=2) scMade.nd rfl (Or.inl rfl) (pe_c c_made (hr.mono (by omega)) rfl pass0 (pa_cons (pe_ix ix_tup (pv 0) pe_int (fun _ _=>rfl)) pa_nil))) (pss_cons (ps_if (pt_cmpR op_eq (pe_ix ix_tup (pv 0) pe_int (fun _ _=>rfl)) pe_str (nomark _)) (pss_one (ps_ret (pe_mk R_cho (hr.mono (by omega)) rfl pass0 (pa_cons (pv 1) (pa_cons (pv 2) (pa_cons (pe_c c_made (hr.mono (by omega)) rfl pass0 (pa_cons (pe_ix ix_tup (pv 0) pe_int (fun _ _=>rfl)) pa_nil)) pa_nil)))))) pss_nil) (pss_cons (ps_if (pt_cmpR op_eq (pe_ix ix_tup (pv 0) pe_int (fun _ _=>rfl)) pe_str (nomark _)) (pss_one (ps_ret (pe_mk (R_bin 0) (hr.mono (by omega)) rfl pass0 (pa_cons (pv 1) (pa_cons (pv 2) pa_nil))))) pss_nil) (pss_cons (ps_if (pt_cmpR op_eq (pe_ix ix_tup (pv 0) pe_int (fun _ _=>rfl)) pe_str (nomark _)) (pss_one (ps_ret (pe_mk (R_bin 1) (hr.mono (by omega)) rfl pass0 (pa_cons (pv 1) (pa_cons (pv 2) pa_nil))))) pss_nil) (pss_cons (ps_if (pt_cmpR op_eq (pe_ix ix_tup (pv 0) pe_int (fun _ _=>rfl)) pe_str (nomark _)) (pss_one (ps_ret (pe_mk (R_bin 2) (hr.mono (by omega)) rfl pass0 (pa_cons (pv 1) (pa_cons (pv 2) pa_nil))))) pss_nil) (pss_cons (ps_if (pt_cmpR op_eq (pe_ix ix_tup (pv 0) pe_int (fun _ _=>rfl)) pe_str (nomark _)) (pss_one (ps_ret (pe_mk (R_bin 3) (hr.mono (by omega)) rfl pass0 (pa_cons (pv 1) (pa_cons (pv 2) pa_nil))))) pss_nil) (pss_one (ps_ret (pe_mk (R_bin 4) (hr.mono (by omega)) rfl pass0 (pa_cons (pv 1) (pa_cons (pv 2) pa_nil))))))))))))))),?_⟩
  cases t with
  |num n=>
   obtain⟨p,rfl,hp⟩:=tu
   refine⟨_,rfl,p,_,_,_,rfl,rfl,SqT.of hp,rfl,rfl,_,rfl,iteTe (decide_eq_true rfl) ?_⟩
   refine⟨_,rfl,p,_,_,_,rfl,rfl,SqT.of hp,rfl,fun x dx nx nd ne=>⟨x,N.num,dx,.int n,rfl,upd_same,c1,rfl,?_⟩⟩
   exact q _ _ (new3 nx nd) ⟨x,dx,_,rfl,upd_same,rfl⟩
  |take b ss=>
   obtain⟨p,u,rfl,hp,hu⟩:=tu
   refine⟨_,rfl,p,_,_,_,rfl,rfl,SqT.of hp,rfl,rfl,_,rfl,iteFe sF ?_⟩
   refine⟨_,rfl,p,_,_,_,rfl,rfl,SqT.of hp,rfl,rfl,_,rfl,iteTe (decide_eq_true rfl) ?_⟩
   refine⟨_,rfl,p,_,_,_,rfl,rfl,SqT.of hp,rfl,_,rfl,p,_,_,_,rfl,rfl,SqT.of hp,rfl,fun x dx nx nd ne=>⟨x,N.take,dx,.int b,.ref u,rfl,upd_same,c2,rfl,?_⟩⟩
   have sN:Same H (upd (upd (upd (upd H dx (.own x)) x (.ins N.take dx [])) x (.ins N.take dx [("back",.int b)])) x (.ins N.take dx [("back",.int b),("steps",.ref u)])):=sameUpd nx (new3 nx nd)
   exact q _ _ sN ⟨x,dx,_,rfl,upd_same,u,rfl,sN _ _ hu⟩
  |rest t1 y=>
   obtain⟨p,v1,rfl,hp,tu1⟩:=tu
   have hd1:ht t1+1<=d+1:=hd
   refine⟨_,rfl,p,_,_,_,rfl,rfl,SqT.of hp,rfl,rfl,_,rfl,iteFe sF ?_⟩
   refine⟨_,rfl,p,_,_,_,rfl,rfl,SqT.of hp,rfl,rfl,_,rfl,iteFe sF ?_⟩
   refine⟨_,rfl,p,_,_,_,rfl,rfl,SqT.of hp,rfl,v1,t1,rfl,tu1,by omega,fun o1 H1 s1 u1=>?_⟩
   refine⟨_,rfl,p,_,_,_,rfl,rfl,SqT.of (s1 _ _ hp),rfl,rfl,_,rfl,iteTe (decide_eq_true rfl) ?_⟩
   obtain⟨p1,d1,f1,rfl,h1,g1⟩:=u1
   refine⟨_,rfl,_,rfl,p,_,_,_,rfl,rfl,SqT.of (s1 _ _ hp),rfl,fun x dx nx nd ne=>⟨x,N.rest,dx,.ref p1,.int y,rfl,upd_same,c3,rfl,?_⟩⟩
   have sN:Same H1 (upd (upd (upd (upd H1 dx (.own x)) x (.ins N.rest dx [])) x (.ins N.rest dx [("one",.ref p1)])) x (.ins N.rest dx [("one",.ref p1),("by",.int y)])):=sameUpd nx (new3 nx nd)
   exact q _ _ (s1.trans sN) ⟨x,dx,_,rfl,upd_same,p1,d1,f1,rfl,sN _ _ h1,g1.same sN⟩
  |cho t1 t2 t3=>
   obtain⟨p,v1,v2,v3,rfl,hp,tu1,tu2,tu3⟩:=tu
   have hd1:max (ht t1) (max (ht t2) (ht t3))+1<=d+1:=hd
   refine⟨_,rfl,p,_,_,_,rfl,rfl,SqT.of hp,rfl,rfl,_,rfl,iteFe sF ?_⟩
   refine⟨_,rfl,p,_,_,_,rfl,rfl,SqT.of hp,rfl,rfl,_,rfl,iteFe sF ?_⟩
   refine⟨_,rfl,p,_,_,_,rfl,rfl,SqT.of hp,rfl,v1,t1,rfl,tu1,by omega,fun o1 H1 s1 u1=>?_⟩
   refine⟨_,rfl,p,_,_,_,rfl,rfl,SqT.of (s1 _ _ hp),rfl,rfl,_,rfl,iteFe sF ?_⟩
   refine⟨_,rfl,p,_,_,_,rfl,rfl,SqT.of (s1 _ _ hp),rfl,v2,t2,rfl,tu2.same s1,by omega,fun o2 H2 s2 u2=>?_⟩
   have s12:=s1.trans s2
   refine⟨_,rfl,p,_,_,_,rfl,rfl,SqT.of (s12 _ _ hp),rfl,rfl,_,rfl,iteTe (decide_eq_true rfl) ?_⟩
   refine⟨_,rfl,_,rfl,_,rfl,p,_,_,_,rfl,rfl,SqT.of (s12 _ _ hp),rfl,v3,t3,rfl,tu3.same s12,by omega,fun o3 H3 s3 u3=>?_⟩
   obtain⟨p1,d1,f1,rfl,h1,g1⟩:=(u1.same s2).same s3
   obtain⟨p2,d2,f2,rfl,h2,g2⟩:=u2.same s3
   obtain⟨p3,d3,f3,rfl,h3,g3⟩:=u3
   refine fun x dx nx nd ne=>⟨x,N.cho,dx,.ref p1,.ref p2,.ref p3,rfl,upd_same,c4,rfl,?_⟩
   have sN:Same H3 (upd (upd (upd (upd (upd H3 dx (.own x)) x (.ins N.cho dx [])) x (.ins N.cho dx [("test",.ref p1)])) x (.ins N.cho dx [("test",.ref p1),("one",.ref p2)])) x (.ins N.cho dx [("test",.ref p1),("one",.ref p2),("other",.ref p3)])):=sameUpd nx (sameUpd nx (new3 nx nd))
   exact q _ _ (s12.trans (s3.trans sN)) ⟨x,dx,_,rfl,upd_same,p1,d1,f1,p2,d2,f2,p3,d3,f3,rfl,⟨sN _ _ h1,g1.same sN⟩,⟨sN _ _ h2,g2.same sN⟩,sN _ _ h3,g3.same sN⟩
  |bin k t1 t2=>
   obtain⟨p,v1,v2,rfl,hp,tu1,tu2⟩:=tu
   have hd1:max (ht t1) (ht t2)+1<=d+1:=hd
   obtain⟨n1,n2,n3,n4⟩:=opn_ne k
   refine⟨_,rfl,p,_,_,_,rfl,rfl,SqT.of hp,rfl,rfl,_,rfl,iteFe (sF n1) ?_⟩
   refine⟨_,rfl,p,_,_,_,rfl,rfl,SqT.of hp,rfl,rfl,_,rfl,iteFe (sF n2) ?_⟩
   refine⟨_,rfl,p,_,_,_,rfl,rfl,SqT.of hp,rfl,v1,t1,rfl,tu1,by omega,fun o1 H1 s1 u1=>?_⟩
   refine⟨_,rfl,p,_,_,_,rfl,rfl,SqT.of (s1 _ _ hp),rfl,rfl,_,rfl,iteFe (sF n3) ?_⟩
   refine⟨_,rfl,p,_,_,_,rfl,rfl,SqT.of (s1 _ _ hp),rfl,v2,t2,rfl,tu2.same s1,by omega,fun o2 H2 s2 u2=>?_⟩
   have s12:=s1.trans s2
   have hp2:=s12 _ _ hp
   have u12:=u1.same s2
   refine⟨_,rfl,p,_,_,_,rfl,rfl,SqT.of hp2,rfl,rfl,_,rfl,iteFe (sF n4) ?_⟩
   match k,hp2,q with
   |0,hp2,q=>
    refine⟨_,rfl,p,_,_,_,rfl,rfl,SqT.of hp2,rfl,rfl,_,rfl,iteTe (decide_eq_true rfl) ?_⟩
    exact⟨_,rfl,_,rfl,bin_done (c5 0) u12 u2 s12 q⟩
   |1,hp2,q=>
    refine⟨_,rfl,p,_,_,_,rfl,rfl,SqT.of hp2,rfl,rfl,_,rfl,iteFe sF ?_⟩
    refine⟨_,rfl,p,_,_,_,rfl,rfl,SqT.of hp2,rfl,rfl,_,rfl,iteTe (decide_eq_true rfl) ?_⟩
    exact⟨_,rfl,_,rfl,bin_done (c5 1) u12 u2 s12 q⟩
   |2,hp2,q=>
    refine⟨_,rfl,p,_,_,_,rfl,rfl,SqT.of hp2,rfl,rfl,_,rfl,iteFe sF ?_⟩
    refine⟨_,rfl,p,_,_,_,rfl,rfl,SqT.of hp2,rfl,rfl,_,rfl,iteFe sF ?_⟩
    refine⟨_,rfl,p,_,_,_,rfl,rfl,SqT.of hp2,rfl,rfl,_,rfl,iteTe (decide_eq_true rfl) ?_⟩
    exact⟨_,rfl,_,rfl,bin_done (c5 2) u12 u2 s12 q⟩
   |3,hp2,q=>
    refine⟨_,rfl,p,_,_,_,rfl,rfl,SqT.of hp2,rfl,rfl,_,rfl,iteFe sF ?_⟩
    refine⟨_,rfl,p,_,_,_,rfl,rfl,SqT.of hp2,rfl,rfl,_,rfl,iteFe sF ?_⟩
    refine⟨_,rfl,p,_,_,_,rfl,rfl,SqT.of hp2,rfl,rfl,_,rfl,iteFe sF ?_⟩
    refine⟨_,rfl,p,_,_,_,rfl,rfl,SqT.of hp2,rfl,rfl,_,rfl,iteTe (decide_eq_true rfl) ?_⟩
    exact⟨_,rfl,_,rfl,bin_done (c5 3) u12 u2 s12 q⟩
   |4,hp2,q=>
    refine⟨_,rfl,p,_,_,_,rfl,rfl,SqT.of hp2,rfl,rfl,_,rfl,iteFe sF ?_⟩
    refine⟨_,rfl,p,_,_,_,rfl,rfl,SqT.of hp2,rfl,rfl,_,rfl,iteFe sF ?_⟩
    refine⟨_,rfl,p,_,_,_,rfl,rfl,SqT.of hp2,rfl,rfl,_,rfl,iteFe sF ?_⟩
    refine⟨_,rfl,p,_,_,_,rfl,rfl,SqT.of hp2,rfl,rfl,_,rfl,iteFe sF ?_⟩
    exact⟨_,rfl,_,rfl,bin_done (c5 4) u12 u2 s12 q⟩
end
end KY
namespace KY
open PySem PyProof.Rows L2
theorem pe_gint {X:Cx} {x:Str} {i:Int} {t:Tok} {pos:Pos} (hg:Gl X x) (hm:X.mg x=some (.int i t)) (hd:(x==("__debug__":Str))=false:=by decide):PE X (.Name x pos) (tC (.int i)):=pe_glob (v:= .int i) hg hm ⟨_,rfl⟩ hd
def spWhole:Sp:=fun vs H Q _=>∃n:Int,vs=[.int n]/\Q (.bl true) H
def spWithin:Sp:=fun vs H Q _=>∃n lo hi:Int,vs=[.int n,.int lo,.int hi]/\Q (.bl (decide (lo<=n/\n<=hi))) H
theorem get_map {α:Type} {f:α->V} {l:List α} {i:Nat} {x:V} (h:(l.map f)[i]? =some x):∃n,x=f n/\l[i]? =some n:=by
 rw [List.getElem?_map]at h
 cases g:l[i]? with
 |none=>rw [g]at h;cases h
 |some b=>rw [g]at h;cases h;exact⟨b,rfl,rfl⟩
section
variable {P:Program} {w:World} {K:PySem.W.Frag} {mg:Str->Option Value} {base:Heap}
theorem scWhole:FnScope ["thing"] ["thing"] (defScope sWhole):=⟨rfl,rfl,rfl,by decide+kernel,rfl,by decide+kernel,by decide+kernel⟩
theorem ok_whole {f:Addr} {fd:FuncData} (F:Fun K "is_whole" "is_whole" sWhole f fd) (T:Txt K mg):FnOk P w K mg base CX0 1 f fd ["thing"] spWhole:=by
 refine F.ok scWhole (fun vs H Q E h=>?_) (fun cdv A outer s H vs Q E hr h=>?_)
 ·obtain⟨n,rfl,_⟩:=h
  rfl
 ·obtain⟨n,rfl,k⟩:=h
  refine⟨_,(pss_one (ps_ret (pe_and (pe_callB call_isinst rfl T.isinstance boot_isinstance (pa_cons (pv 0) (pa_cons (pe_ty rfl T.int boot_int) pa_nil))) (pe_one (pe_not (pe_callB call_isinst rfl T.isinstance boot_isinstance (pa_cons (pv 0) (pa_cons (pe_ty rfl T.bool boot_bool) pa_nil)))))))),?_⟩
  exact⟨_,rfl,_,_,_,_,rfl,.int _,rfl,_,rfl,iteT ⟨_,rfl,_,_,_,_,rfl,.int _,rfl,_,rfl,k⟩⟩
theorem scWithin:FnScope ["thing","least","most"] ["thing","least","most"] (defScope sWithin):=⟨rfl,rfl,rfl,by decide+kernel,rfl,by decide+kernel,by decide+kernel⟩
theorem ok_within {f:Addr} {fd:FuncData} (F:Fun K "is_within" "is_within" sWithin f fd) (c_whole:Cal P w K mg base CX0 1 "is_whole" ["thing"] spWhole):FnOk P w K mg base CX0 2 f fd ["thing","least","most"] spWithin:=by
 refine F.ok scWithin (fun vs H Q E h=>?_) (fun cdv A outer s H vs Q E hr h=>?_)
 ·obtain⟨n,lo,hi,rfl,_⟩:=h
  rfl
 ·obtain⟨n,lo,hi,rfl,k⟩:=h
  refine⟨_,(pss_one (ps_ret (pe_and (pe_c c_whole (hr.mono (by omega)) rfl pass0 (pa_cons (pv 0) pa_nil)) (pe_one (pe_chain op_le op_le (pv 1) (pv 0) (pv 2)))))),?_⟩
  refine⟨_,rfl,n,rfl,_,rfl,iteT ?_⟩
  refine⟨_,rfl,_,rfl,_,_,rfl,rfl,_,rfl,?_⟩
  by_cases h1:lo<=n
  ·rw [decide_eq_true h1]
   refine iteT ⟨_,rfl,_,_,rfl,rfl,?_⟩
   have e:decide (n<=hi)=decide (lo<=n/\n<=hi):=by simp [h1]
   show Q (.bl (decide (n<=hi))) H
   rw [e]
   exact k
  ·rw [decide_eq_false h1]
   refine iteF ?_
   have e:false=decide (lo<=n/\n<=hi):=by simp [h1]
   show Q (.bl false) H
   rw [e]
   exact k
end
end KY
namespace KY
open PySem PyProof.Rows L2
abbrev PW3:List Str:=["thing","least","most"]
def spAreSteps:Sp:=fun vs H Q _=>∃(q:Addr) (ss:List Int),vs=[.ref q]/\H q=some (.tup (ss.map V.int))/\1<=ss.length/\ss.length<=3/\(∀s∈ss, -9<=s/\s<=9)/\∀H',Same H H'->Q (.bl true) H'
def OwnOk:Tm->Prop
 | .num n=> -1000000000000<=n/\n<=1000000000000
 | .take b ss=>GoodT (b,ss)/\1<=ss.length/\ss.length<=3
 | .rest _ y=>1<=y/\y<=1000000000
 |_=>True
def AllOk (t:Tm):Prop:=Wf t/\∀x∈raw t,GoodT x/\1<=x.2.length/\x.2.length<=3
theorem AllOk.own:∀{t:Tm},AllOk t->OwnOk t
 | .num _,h=>h.1
 | .take b ss,h=>h.2 (b,ss) List.mem_cons_self
 | .rest _ _,h=>⟨h.1.1,h.1.2.1⟩
 | .cho _ _ _,_=>True.intro
 | .bin _ _ _,_=>True.intro
theorem kid_wf:∀{t k:Tm},k∈kids t->Wf t->Wf k
 | .rest t _,k,h,w=>by rw [List.mem_singleton.mp h];exact w.2.2
 | .cho a b c,k,h,w=>by
  simp only [kids,List.mem_cons,List.not_mem_nil,or_false]at h
  rcases h with rfl|rfl|rfl
  ·exact w.1
  ·exact w.2.1
  ·exact w.2.2
 | .bin _ a b,k,h,w=>by
  simp only [kids,List.mem_cons,List.not_mem_nil,or_false]at h
  rcases h with rfl|rfl
  ·exact w.1
  ·exact w.2
theorem AllOk.kid {t k:Tm} (h:k∈kids t) (a:AllOk t):AllOk k:=⟨kid_wf h a.1,fun x hx=>a.2 x (kid_raw h x hx)⟩
def spFault (N:Cn) (C:Addr):Sp:=fun vs H Q _=>∃(p dx:Addr) (fs:List (Str×V)) (t:Tm),vs=[.ref p]/\H p=some (.ins (cls N t) dx fs)/\FldAt N H fs t/\cls N t=C/\OwnOk t/\∀H',Same H H'->Q .non H'
section
variable {P:Program} {w:World} {K:PySem.W.Frag} {mg:Str->Option Value} {base:Heap} {N:Cn}
abbrev NAreSteps:List Str:=["thing"]
theorem scAreSteps:FnScope ["thing"] ["thing"] (defScope sAreSteps):=⟨rfl,rfl,rfl,by decide+kernel,rfl,by decide+kernel,by decide+kernel⟩
theorem ok_areSteps {f:Addr} {fd:FuncData} (F:Fun K "are_steps" "are_steps" sAreSteps f fd) (c_within:Cal P w K mg base CX0 2 "is_within" PW3 spWithin) (T:Txt K mg):FnOk P w K mg base CX0 3 f fd ["thing"] spAreSteps:=by
 refine F.ok scAreSteps (fun vs H Q E h=>?_) (fun cdv A outer s H vs Q E hr h=>?_)
 ·obtain⟨q,ss,rfl,_⟩:=h
  rfl
 ·obtain⟨q,ss,rfl,hq,l1,l3,bd,k⟩:=h
  obtain⟨_,g_MOST_STEPS_terms⟩:=T.mst
  obtain⟨_,g_GREATEST_STEP⟩:=T.gst
  refine⟨_,(pss_cons (ps_if (PW.pt (pw_or (pt_not (pt_val (pe_callB call_isinst rfl T.isinstance boot_isinstance (pa_cons (pv 0) (pa_cons (pe_ty rfl T.tuple boot_tuple) pa_nil))))) (pw_or1 (pt_not (pt_chain op_le op_le pe_int (pe_callB call_len_seq (by rfl) T.len PySem.boot_len (pa_cons (pv 0) pa_nil)) (pe_gint rfl g_MOST_STEPS_terms)))))) (pss_one (ps_ret pe_bl)) pss_nil) (pss_one (ps_ret (pe_callB call_all rfl T.all boot_all (pa_cons (pe_cp (own:=["step"]) (cap:=[]) (g:=gName 0) (defScope sAreSteps) NAreSteps rfl rfl (fun x h=>cell_has h) (by decide+kernel) rfl (pi_tup (pv 0)) (fun cl C s2 H2 fp=>(pg_name (i:=0) (show(["step"]:List Str).Nodup by decide+kernel) rfl (Or.inl rfl) (Or.inr rfl))) (fun cl C s2 H2 fp=>(pe_c c_within (hr.mono (by omega)) rfl pass0 (pa_cons (pv 0) (pa_cons (pe_un un_neg (pe_gint rfl g_GREATEST_STEP)) (pa_cons (pe_gint rfl g_GREATEST_STEP) pa_nil)))))) pa_nil))))),?_⟩
  refine⟨_,rfl,_,"tuple",_,true,rfl,.tup hq,rfl,_,rfl,iteF ?_⟩
  refine⟨_,rfl,q,_,rfl,.inr (SqT.of hq),_,_,rfl,rfl,_,rfl,iteTe (decide_eq_true (by rw [List.length_map];omega)) ⟨_,_,rfl,rfl,_,rfl,iteNS (by rw [List.length_map];omega) ?_⟩⟩
  refine⟨_,rfl,q,rfl,⟨_,SqT.of hq⟩,fun D hD=>?_⟩
  refine comp_tup (K:=K) (a:=q) (xs:=ss.map V.int) (fun i acc σ H2=>(∃v0,σ=[v0])/\Same H H2/\H2 D=some (.lst acc)/\acc=(List.replicate i true).map V.bl) ⟨⟨_,rfl⟩,sameNew hD,upd_same,rfl⟩ (fun i acc σ H2 _ ⟨_,s2,_⟩=>SqT.of (s2 _ _ hq)) ?_ ?_
  ·rintro i x acc σ H2 hi hx ⟨⟨v0,rfl⟩,s2,hD2,rfl⟩
   obtain⟨n,rfl,hn⟩:=get_map hx
   have b9:=bd n (List.mem_of_getElem? hn)
   rw [List.length_map]at hi
   refine⟨_,rfl,_,rfl,n, -9,9,rfl,?_⟩
   rw [decide_eq_true b9]
   refine cturn hD2 (small (by rw [List.length_map,List.length_replicate];omega)) (by rw [List.length_map];exact hi) ⟨⟨_,rfl⟩,sameUpd hD s2,upd_same,?_⟩
   rw [List.replicate_succ',List.map_append]
   rfl
  ·rintro acc σ H2 ⟨_,s2,hD2,rfl⟩
   refine⟨D,_,rfl,SqL.of hD2,rfl,?_⟩
   have e:(List.replicate (ss.map V.int).length true).all id=true:=by rw [List.all_replicate];simp
   rw [e]
   exact k H2 s2
theorem scTFault:FnScope ["self"] ["self"] (defScope sTFault):=⟨rfl,rfl,rfl,by decide+kernel,rfl,by decide+kernel,by decide+kernel⟩
theorem ok_tfault {f C:Addr} {fd:FuncData} (F:Fun K "own_fault" "Term.own_fault" sTFault f fd):FnOk P w K mg base CX0 1 f fd ["self"] (spFault N C):=by
 refine F.ok scTFault (fun vs H Q E h=>?_) (fun cdv A outer s H vs Q E hr h=>?_)
 ·obtain⟨p,dx,fs,t,rfl,_⟩:=h
  rfl
 ·obtain⟨p,dx,fs,t,rfl,hp,hf,hc,ok,q⟩:=h
  exact⟨_,(pss_one (ps_ret pe_non)),q H (Same.refl H)⟩
theorem scNFault:FnScope ["self"] ["self"] (defScope sNFault):=⟨rfl,rfl,rfl,by decide+kernel,rfl,by decide+kernel,by decide+kernel⟩
theorem ok_nfault {f C:Addr} {fd:FuncData} (F:Fun K "own_fault" "Number.own_fault" sNFault f fd) (c:Cf K C ["value"]) (hC:∀t,cls N t=C->∃n,t= .num n) (c_within:Cal P w K mg base CX0 2 "is_within" PW3 spWithin) (T:Txt K mg):FnOk P w K mg base CX0 3 f fd ["self"] (spFault N C):=by
 refine F.ok scNFault (fun vs H Q E h=>?_) (fun cdv A outer s H vs Q E hr h=>?_)
 ·obtain⟨p,dx,fs,t,rfl,_⟩:=h
  rfl
 ·obtain⟨p,dx,fs,t,rfl,hp,hf,hc,ok,q⟩:=h
  obtain⟨_,g_GREATEST_NUMBER⟩:=T.gn
  refine⟨_,(pss_cons (ps_if (pt_val (pe_c c_within (hr.mono (by omega)) rfl pass0 (pa_cons (pe_fld (pv 0) rfl) (pa_cons (pe_un un_neg (pe_gint rfl g_GREATEST_NUMBER)) (pa_cons (pe_gint rfl g_GREATEST_NUMBER) pa_nil))))) (pss_one (ps_ret pe_non)) pss_nil) (pss_one (ps_ret pe_str))),?_⟩
  obtain⟨n,rfl⟩:=hC t hc
  rw [hc]at hp
  obtain rfl:=hf
  refine⟨_,rfl,p,C,dx,_,_,rfl,hp,c.cl,c.na _ (by simp),rfl,_,rfl,n,_,_,rfl,_,rfl,iteTe (decide_eq_true ok) (q H (Same.refl H))⟩
theorem scKFault:FnScope ["self"] ["self"] (defScope sKFault):=⟨rfl,rfl,rfl,by decide+kernel,rfl,by decide+kernel,by decide+kernel⟩
theorem ok_kfault {f C:Addr} {fd:FuncData} (F:Fun K "own_fault" "Take.own_fault" sKFault f fd) (c:Cf K C ["back","steps"]) (hC:∀t,cls N t=C->∃b ss,t= .take b ss) (c_within:Cal P w K mg base CX0 2 "is_within" PW3 spWithin) (c_areSteps:Cal P w K mg base CX0 3 "are_steps" ["thing"] spAreSteps) (T:Txt K mg):FnOk P w K mg base CX0 4 f fd ["self"] (spFault N C):=by
 refine F.ok scKFault (fun vs H Q E h=>?_) (fun cdv A outer s H vs Q E hr h=>?_)
 ·obtain⟨p,dx,fs,t,rfl,_⟩:=h
  rfl
 ·obtain⟨p,dx,fs,t,rfl,hp,hf,hc,ok,q⟩:=h
  obtain⟨_,g_GREATEST_BACK⟩:=T.gb
  refine⟨_,(pss_cons (ps_if (pt_not (pt_val (pe_c c_within (hr.mono (by omega)) rfl pass0 (pa_cons (pe_fld (pv 0) rfl) (pa_cons pe_int (pa_cons (pe_gint rfl g_GREATEST_BACK) pa_nil)))))) (pss_one (ps_ret pe_str)) pss_nil) (pss_cons (ps_if (pt_not (pt_val (pe_c c_areSteps (hr.mono (by omega)) rfl pass0 (pa_cons (pe_fld (pv 0) rfl) pa_nil)))) (pss_one (ps_ret pe_str)) pss_nil) (pss_one (ps_ret pe_non)))),?_⟩
  obtain⟨b,ss,rfl⟩:=hC t hc
  rw [hc]at hp
  obtain⟨u,rfl,hu⟩:=hf
  obtain⟨⟨b1,b3,bd⟩,l1,l3⟩:=ok
  refine⟨_,rfl,p,C,dx,_,_,rfl,hp,c.cl,c.na _ (by simp),rfl,b,1,3,rfl,_,rfl,iteNS ⟨b1,b3⟩ ?_⟩
  exact⟨_,rfl,p,C,dx,_,_,rfl,hp,c.cl,c.na _ (by simp),rfl,u,ss,rfl,hu,l1,l3,bd,fun H1 s1=>⟨_,rfl,iteF (q H1 s1)⟩⟩
theorem scRFault:FnScope ["self"] ["self"] (defScope sRFault):=⟨rfl,rfl,rfl,by decide+kernel,rfl,by decide+kernel,by decide+kernel⟩
theorem ok_rfault {f C:Addr} {fd:FuncData} (F:Fun K "own_fault" "Rest.own_fault" sRFault f fd) (c:Cf K C ["one","by"]) (hC:∀t,cls N t=C->∃a y,t= .rest a y) (c_within:Cal P w K mg base CX0 2 "is_within" PW3 spWithin) (T:Txt K mg):FnOk P w K mg base CX0 3 f fd ["self"] (spFault N C):=by
 refine F.ok scRFault (fun vs H Q E h=>?_) (fun cdv A outer s H vs Q E hr h=>?_)
 ·obtain⟨p,dx,fs,t,rfl,_⟩:=h
  rfl
 ·obtain⟨p,dx,fs,t,rfl,hp,hf,hc,ok,q⟩:=h
  obtain⟨_,g_GREATEST_DIVISOR⟩:=T.gd
  refine⟨_,(pss_cons (ps_if (pt_val (pe_c c_within (hr.mono (by omega)) rfl pass0 (pa_cons (pe_fld (pv 0) rfl) (pa_cons pe_int (pa_cons (pe_gint rfl g_GREATEST_DIVISOR) pa_nil))))) (pss_one (ps_ret pe_non)) pss_nil) (pss_one (ps_ret pe_str))),?_⟩
  obtain⟨a,y,rfl⟩:=hC t hc
  rw [hc]at hp
  obtain⟨pa,da,fa,rfl,ha,ga⟩:=hf
  exact⟨_,rfl,p,C,dx,_,_,rfl,hp,c.cl,c.na _ (by simp),rfl,y,1,_,rfl,_,rfl,iteTe (decide_eq_true ok) (q H (Same.refl H))⟩
end
end KY
namespace KY
open PySem PyProof.Rows L2
def rLenT (K:PySem.W.Frag):List V->Hp->VK->Prop:=fun xs H Q=>∃p ys,xs=[.ref p]/\SqT K H p ys/\Q (.int ys.length) H
theorem call_lenTK {X:Cx} {K:PySem.W.Frag} (h:X.K=K):CallR X (.builtin "len") (rLenT K):=by
 subst h
 intro pins s σ H xs us Q I r hq
 obtain⟨p,ys,rfl,h1,q⟩:=hq
 exact call_len_seq pins s σ H _ us Q I r ⟨p,ys,rfl,.inr h1,q⟩
def IsLn (l:List Tk) (zs:List Nat):Prop:=zs∈subs3/\∀z,z∈zs↔ ∃x∈l,x.2.length=z
theorem subs3_self {zs:List Nat} (h:zs∈subs3):zs=[1,2,3].filter fun z=>decide (z∈zs):=by
 simp only [subs3,List.mem_cons,List.not_mem_nil,or_false]at h
 rcases h with rfl|rfl|rfl|rfl|rfl|rfl|rfl|rfl<;>decide
theorem pow_max {a b m:Nat} (h:a<=m) (hb:b<=3 ^ a):b<=3 ^ m:=Nat.le_trans hb (Nat.pow_le_pow_right (by decide) h)
theorem prts_le:∀t:Tm,2*prts t+1<=3 ^ ht t
 | .num _=>by simp [prts,ht]
 | .take _ _=>by simp [prts,ht]
 | .rest t _=>by
  have h:=prts_le t
  have:0<3 ^ ht t:=Nat.pow_pos (by decide)
  simp only [prts,ht,Nat.pow_succ]
  omega
 | .cho a b c=>by
  have h1:=pow_max (m:=max (ht a) (max (ht b) (ht c))) (by omega) (prts_le a)
  have h2:=pow_max (m:=max (ht a) (max (ht b) (ht c))) (by omega) (prts_le b)
  have h3:=pow_max (m:=max (ht a) (max (ht b) (ht c))) (by omega) (prts_le c)
  simp only [prts,ht,Nat.pow_succ]
  omega
 | .bin _ a b=>by
  have h1:=pow_max (m:=max (ht a) (ht b)) (by omega) (prts_le a)
  have h2:=pow_max (m:=max (ht a) (ht b)) (by omega) (prts_le b)
  simp only [prts,ht,Nat.pow_succ]
  omega
theorem prts_small {d:Nat} (hd:d<=4) (t:Tm) (h:ht t<=d):prts t<=1000:=by
 have:=pow_max (m:=4) (Nat.le_trans h hd) (prts_le t)
 omega
def spFF (N:Cn) (d:Nat):Sp:=fun vs H Q _=>∃(p dx:Addr) (fs:List (Str×V)) (t:Tm),vs=[.ref p]/\H p=some (.ins (cls N t) dx fs)/\FldAt N H fs t/\ht t<=d/\AllOk t/\∀H',Same H H'->Q .non H'
def Ln (t:Tm) (n:Nat):Prop:=(n=1∨n=2∨n=3)/\(∀x∈raw t,x.2.length=n)/\∃ks:List Tk,ks.length<=6/\∀x∈raw t,x∈ks
theorem Ln.k18 {t:Tm} {n:Nat} (h:Ln t n):∃ks:List Tk,ks.length<18/\∀x∈raw t,x∈ks:=let⟨_,_,ks,h1,h2⟩:=h;⟨ks,by omega,h2⟩
theorem Ln.m3 {t:Tm} {n:Nat} (h:Ln t n):∀x∈raw t,x.2.length∈[1,2,3]:=fun x hx=>by
 rw [h.2.1 x hx]
 rcases h.1 with rfl|rfl|rfl<;>simp
def spLinesN (N:Cn) (d:Nat):Sp:=fun vs H Q _=>∃(p dx:Addr) (fs:List (Str×V)) (t:Tm) (n:Nat),vs=[.ref p]/\H p=some (.ins (cls N t) dx fs)/\FldAt N H fs t/\ht t<=d/\Ln t n/\∀v H',(v= .non∨v=natV n)->Same H H'->Q v H'
def spCheckT (N:Cn) (d:Nat):Sp:=fun vs H Q _=>∃(p dx:Addr) (fs:List (Str×V)) (t:Tm) (n:Nat),vs=[.ref p]/\H p=some (.ins (cls N t) dx fs)/\FldAt N H fs t/\ht t<=d/\AllOk t/\Ln t n/\∀H',Same H H'->Q .non H'
theorem ln_few {t:Tm} {n:Nat} {zs:List Nat} (h:Ln t n) (l:IsLn (raw t) zs):zs=[]∨zs=[n]:=by
 have all:∀z∈zs,z=n:=fun z hz=>by
  obtain⟨x,hx,e⟩:=(l.2 z).mp hz
  rw [<-e]
  exact h.2.1 x hx
 have hs:=l.1
 simp only [subs3,List.mem_cons,List.not_mem_nil,or_false]at hs
 rcases hs with rfl|rfl|rfl|rfl|rfl|rfl|rfl|rfl
 all_goals simp at all
 all_goals first
  |exact .inl rfl
  |(right;rw [all])
  |(exfalso;omega)
section
variable {P:Program} {w:World} {K:PySem.W.Frag} {mg:Str->Option Value} {base:Heap} {N:Cn}
theorem scFirst:FnScope ["term","part","fault"] ["term"] (defScope sFirst):=⟨rfl,rfl,rfl,by decide+kernel,rfl,by decide+kernel,by decide+kernel⟩
theorem ok_ff {f:Addr} {fd:FuncData} {d:Nat} (F:Fun K "first_fault" "first_fault" sFirst f fd) (c_ff:Cal P w K mg base CX0 (d+4) "first_fault" ["term"] (spFF N d)) (D_inner:Dis P w K mg base CX0 1 (IsC N) "inner" ["self"] (spInner N)) (D_fault:Dis P w K mg base CX0 4 (IsC N) "own_fault" ["self"] (spFault N))
  (nI:∀(t:Tm) (fs:List (Str×V)) H,FldAt N H fs t->fs.lookup ("inner":Str)=none) (nF:∀(t:Tm) (fs:List (Str×V)) H,FldAt N H fs t->fs.lookup ("own_fault":Str)=none):FnOk P w K mg base CX0 (d+5) f fd ["term"] (spFF N (d+1)):=by
 refine F.ok scFirst (fun vs H Q E h=>?_) (fun cdv A outer s H vs Q E hr h=>?_)
 ·obtain⟨p,dx,fs,t,rfl,_⟩:=h
  rfl
 ·obtain⟨p,dx,fs,t,rfl,hp,hf,hd,ok,q⟩:=h
  refine⟨_,(pss_cons (ps_for PassesOwn.never rfl (pi_list (pe_methD0 (pv 0) D_inner (hr.mono (by omega)) pass0)) (pg_name (i:=1) scFirst.nd rfl (Or.inl rfl)) (pss_cons (ps_set (i:=2) scFirst.nd rfl (Or.inl rfl) (pe_c c_ff (hr.mono (by omega)) rfl pass0 (pa_cons (pv 1) pa_nil))) (pss_one (ps_if (pt_cmpR op_notN (pv 2) pe_non (nomark _)) (pss_one (ps_ret (pv 2))) pss_nil)))) (pss_one (ps_ret (pe_methD0 (pv 0) D_fault (hr.mono (by omega)) pass0)))),?_⟩
  refine⟨_,rfl,p,_,dx,fs,rfl,hp,isC N t,nI t fs H hf,p,dx,fs,t,rfl,hp,hf,rfl,fun l xs H2 s2 hl e2 pk=>⟨l,rfl,⟨_,SqL.of e2⟩,?_⟩⟩
  refine for_list (K:=K) (a:=l) (xs:=xs) (fun i σ H3=>(∃v1 v2,σ=[some (.ref p),v1,v2])/\Same H2 H3) ⟨⟨_,_,rfl⟩,Same.refl H2⟩ (fun i σ H3 _ ⟨_,s3⟩=>SqL.of (s3 _ _ e2)) ?_ ?_
  ·rintro i x σ H3 hx ⟨⟨v1,v2,rfl⟩,s3⟩
   obtain⟨k,hk,tr⟩:=L2.Paired.get2 pk hx
   have km:=List.mem_of_getElem? hk
   obtain⟨a,da,fa,rfl,ha,fla⟩:=tr.same (s2.trans s3)
   have hk':=kid_ht km
   refine⟨_,rfl,a,da,fa,k,rfl,ha,fla,by omega,ok.kid km,fun H4 s4=>?_⟩
   exact⟨_,rfl,rfl,_,rfl,iteNS rfl ⟨⟨_,_,rfl⟩,s3.trans s4⟩⟩
  ·rintro σ H3 ⟨⟨v1,v2,rfl⟩,s3⟩
   have s23:=s2.trans s3
   exact⟨_,rfl,p,_,dx,fs,rfl,s23 _ _ hp,isC N t,nF t fs H hf,p,dx,fs,t,rfl,s23 _ _ hp,hf.same s23,rfl,ok.own,fun H4 s4=>q H4 (s23.trans s4)⟩
abbrev NLinesOf:List Str:=["term","counts"]
theorem scLinesOf:FnScope ["term","counts"] ["term"] (defScope sLinesOf):=⟨rfl,rfl,rfl,by decide+kernel,rfl,by decide+kernel,by decide+kernel⟩
theorem ok_linesN {f:Addr} {fd:FuncData} {d:Nat} (F:Fun K "lines_of" "lines_of" sLinesOf f fd) (D_takes:Dis P w K mg base CX0 (d+1) (IsC N) "takes" ["self"] (spTakes N d)) (T:Txt K mg)
  (nT:∀(t:Tm) (fs:List (Str×V)) H,FldAt N H fs t->fs.lookup ("takes":Str)=none/\fs.lookup ("inner":Str)=none):FnOk P w K mg base CX0 (d+3) f fd ["term"] (spLinesN N d):=by
 refine F.ok scLinesOf (fun vs H Q E h=>?_) (fun cdv A outer s H vs Q E hr h=>?_)
 ·obtain⟨p,dx,fs,t,n,rfl,_⟩:=h
  rfl
 ·obtain⟨p,dx,fs,t,n,rfl,hp,hf,hd,ln0,q1⟩:=h
  have kk:=ln0.k18
  have r3:=ln0.m3
  refine⟨_,(pss_cons (ps_set (i:=1) scLinesOf.nd rfl (Or.inl rfl) (pe_callB (call_sorted3 rfl) rfl T.sorted boot_sorted (pa_cons (pe_callTy (call_set3 rfl) rfl T.set boot_set (pa_cons (pe_cp (own:=["take"]) (cap:=[]) (g:=gName 0) (defScope sLinesOf) NLinesOf rfl rfl (fun x h=>cell_has h) (by decide+kernel) rfl (pi_list (pe_methD0 (pv 0) D_takes (hr.mono (by omega)) pass0)) (fun cl C s2 H2 fp=>(pg_name (i:=0) (show(["take"]:List Str).Nodup by decide+kernel) rfl (Or.inl rfl) (Or.inr rfl))) (fun cl C s2 H2 fp=>(pe_callB (r:=rLenT K) (call_lenTK rfl) (by rfl) T.len PySem.boot_len (pa_cons (pe_ix (r:=rIxT K) ix_tup (pv 0) pe_int (fun _ _=>rfl)) pa_nil)))) pa_nil)) pa_nil))) (pss_cons (ps_if (pt_cmpR op_gt (pe_callB call_len_seq (by rfl) T.len PySem.boot_len (pa_cons (pv 1) pa_nil)) pe_int (nomark _)) (pss_one ps_never) pss_nil) (pss_cons (ps_if (pt_cmpR op_eq (pe_callB call_len_seq (by rfl) T.len PySem.boot_len (pa_cons (pv 1) pa_nil)) pe_int (nomark _)) (pss_one (ps_ret pe_non)) pss_nil) (pss_one (ps_ret (pe_ix ix_list (pv 1) pe_int (fun _ _=>rfl))))))),?_⟩
  refine⟨_,rfl,p,_,dx,fs,rfl,hp,isC N t,(nT t fs H hf).1,p,dx,fs,t,rfl,hp,hf,rfl,hd,kk,fun l ps H1 s1 hl e1 pk tk=>?_⟩
  have pl:ps.length<=17:=by
   obtain⟨ks,kl,km⟩:=kk
   have:=(nodup_srt tk.1).length_le_of_subset (l₂:=ks) fun x hx=>km x ((tk.2 x).mp hx)
   rw [List.length_map]at this
   omega
  refine⟨l,rfl,⟨_,SqL.of e1⟩,fun D hD=>?_⟩
  refine comp_list (K:=K) (a:=l) (xs:=ps.map fun x=>V.ref x.2) (fun i acc σ H3=>(∃v0,σ=[v0])/\Same H1 H3/\H3 D=some (.lst acc)/\acc=natVs ((ps.take i).map fun x=>x.1.2.length)) ⟨⟨_,rfl⟩,sameNew hD,upd_same,rfl⟩ (fun i acc σ H3 _ ⟨_,s3,_⟩=>SqL.of (s3 _ _ e1)) ?_ ?_
  ·rintro i x acc σ H3 hi hx ⟨⟨v0,rfl⟩,s3,hD3,rfl⟩
   rw [List.getElem?_map]at hx
   obtain⟨y,hy,rfl⟩:∃y,ps[i]? =some y/\x= .ref y.2:=by
    cases g:ps[i]? with
    |none=>rw [g]at hx;cases hx
    |some b=>rw [g]at hx;cases hx;exact⟨b,rfl,rfl⟩
   obtain⟨q,h1,h2⟩:=(pk y (List.mem_of_getElem? hy)).same s3
   rw [List.length_map]at hi
   refine⟨_,rfl,y.2,_,_,_,rfl,rfl,SqT.of h1,rfl,q,_,rfl,SqT.of h2,?_⟩
   refine cturn hD3 (small ?_) (by rw [List.length_map];exact hi) ⟨⟨_,rfl⟩,sameUpd hD s3,upd_same,?_⟩
   ·unfold natVs;rw [List.length_map,List.length_map,List.length_take];omega
   ·unfold natVs;rw [List.take_succ,hy,List.map_append,List.map_append,List.length_map];rfl
  ·rintro acc σ H3 ⟨_,s3,hD3,rfl⟩
   rw [List.length_map,List.take_length]at hD3
   refine⟨D,_,rfl,SqL.of hD3,fun n hn=>?_,fun l2 zs hl2 zsub zm=>?_⟩
   ·obtain⟨x,hx,rfl⟩:=List.mem_map.mp hn
    exact r3 _ ((tk.2 _).mp (List.mem_map.mpr ⟨x,hx,rfl⟩))
   have ln:IsLn (raw t) zs:=⟨zsub,fun z=>by
    rw [zm z,List.mem_map]
    constructor
    ·rintro⟨x,hx,e⟩
     exact⟨x.1,(tk.2 _).mp (List.mem_map.mpr ⟨x,hx,rfl⟩),e⟩
    ·rintro⟨x,hx,e⟩
     obtain⟨y,hy,rfl⟩:=List.mem_map.mp ((tk.2 _).mpr hx)
     exact⟨y,hy,e⟩⟩
   generalize e:upd H3 l2 _=H4
   obtain⟨s4,e4⟩:=new_of hl2 e
   refine⟨l2,zs,rfl,e4,fun l3 hl3=>?_⟩
   generalize e:upd H4 l3 _=H5
   obtain⟨s5,e5⟩:=new_of hl3 e
   have s05:=s1.trans (s3.trans (s4.trans s5))
   have nl:(natVs zs).length=zs.length:=by unfold natVs;rw [List.length_map]
   refine⟨_,rfl,l3,_,rfl,.inl (SqL.of e5),_,_,rfl,rfl,_,rfl,?_⟩
   rw [nl]
   rcases ln_few ln0 ln with rfl|rfl
   ·refine iteFe (decide_eq_false (by simp)) ?_
    refine⟨_,rfl,l3,_,rfl,.inl (SqL.of e5),rfl,_,rfl,?_⟩
    exact iteTe rfl (q1 _ H5 (.inl rfl) s05)
   ·refine iteFe (decide_eq_false (by simp)) ?_
    refine⟨_,rfl,l3,_,rfl,.inl (SqL.of e5),rfl,_,rfl,?_⟩
    exact iteFe (decide_eq_false fun z=>by have:=V.int.inj z;simp [natVs]at this) ⟨_,rfl,l3,_,_,_,rfl,rfl,SqL.of e5,rfl,q1 _ H5 (.inr rfl) s05⟩
theorem scCheckT:FnScope ["term","fault"] ["term"] (defScope sCheckT):=⟨rfl,rfl,rfl,by decide+kernel,rfl,by decide+kernel,by decide+kernel⟩
theorem ok_checkT {f:Addr} {fd:FuncData} (F:Fun K "check_term" "check_term" sCheckT f fd) (c_ff:Cal P w K mg base CX0 8 "first_fault" ["term"] (spFF N 4)) (c_linesOf:Cal P w K mg base CX0 7 "lines_of" ["term"] (spLinesN N 4)) (D_takes:Dis P w K mg base CX0 5 (IsC N) "takes" ["self"] (spTakes N 4)) (D_depth:Dis P w K mg base CX0 5 (IsC N) "depth" ["self"] (spNum N ht 4)) (D_parts:Dis P w K mg base CX0 5 (IsC N) "parts" ["self"] (spNum N prts 4)) (T:Txt K mg)
  (nT:∀(t:Tm) (fs:List (Str×V)) H,FldAt N H fs t->fs.lookup ("takes":Str)=none/\fs.lookup ("depth":Str)=none/\fs.lookup ("parts":Str)=none):FnOk P w K mg base CX0 9 f fd ["term"] (spCheckT N 4):=by
 refine F.ok scCheckT (fun vs H Q E h=>?_) (fun cdv A outer s H vs Q E hr h=>?_)
 ·obtain⟨p,dx,fs,t,n,rfl,_⟩:=h
  rfl
 ·obtain⟨p,dx,fs,t,n,rfl,hp,hf,hd,ok,ln,q⟩:=h
  obtain⟨_,g_MOST_DEPTH⟩:=T.mdp
  obtain⟨_,g_MOST_PARTS⟩:=T.mpa
  obtain⟨_,g_MOST_TAKES⟩:=T.mtk
  obtain⟨n1,n2,n3⟩:=nT t fs H hf
  refine⟨_,(pss_cons (ps_set (i:=1) scCheckT.nd rfl (Or.inl rfl) (pe_c c_ff (hr.mono (by omega)) rfl pass0 (pa_cons (pv 0) pa_nil))) (pss_cons (ps_if (pt_cmpR op_notN (pv 1) pe_non (nomark _)) (pss_one ps_never) pss_nil) (pss_cons (ps_expr (pe_c c_linesOf (hr.mono (by omega)) rfl pass0 (pa_cons (pv 0) pa_nil))) (pss_cons (ps_if (pt_cmpR op_gt (pe_methD0 (pv 0) D_depth (hr.mono (by omega)) pass0) (pe_gint rfl g_MOST_DEPTH) (nomark _)) (pss_one ps_never) pss_nil) (pss_cons (ps_if (pt_cmpR op_gt (pe_methD0 (pv 0) D_parts (hr.mono (by omega)) pass0) (pe_gint rfl g_MOST_PARTS) (nomark _)) (pss_one ps_never) pss_nil) (pss_one (ps_if (pt_cmpR op_gt (pe_callB call_len_seq (by rfl) T.len PySem.boot_len (pa_cons (pe_methD0 (pv 0) D_takes (hr.mono (by omega)) pass0) pa_nil)) (pe_gint rfl g_MOST_TAKES) (nomark _)) (pss_one ps_never) pss_nil))))))),?_⟩
  refine⟨_,rfl,p,dx,fs,t,rfl,hp,hf,hd,ok,fun H1 s1=>⟨_,rfl,rfl,_,rfl,iteNS rfl ?_⟩⟩
  refine⟨_,rfl,p,dx,fs,t,n,rfl,s1 _ _ hp,hf.same s1,hd,ln,fun vL H2 _ s2'=>?_⟩
  have s2:=s1.trans s2'
  have pr:prts t<=40:=by
   have h1:=prts_le t
   have h2:3 ^ ht t<=3 ^ 4:=Nat.pow_le_pow_right (by decide) hd
   omega
  refine⟨_,rfl,p,_,dx,fs,rfl,s2 _ _ hp,isC N t,n2,p,dx,fs,t,rfl,s2 _ _ hp,hf.same s2,rfl,hd,fun H3 s3=>⟨_,_,rfl,rfl,_,rfl,iteFe (decide_eq_false (by omega)) ?_⟩⟩
  have s23:=s2.trans s3
  refine⟨_,rfl,p,_,dx,fs,rfl,s23 _ _ hp,isC N t,n3,p,dx,fs,t,rfl,s23 _ _ hp,hf.same s23,rfl,hd,fun H4 s4=>⟨_,_,rfl,rfl,_,rfl,iteFe (decide_eq_false (by omega)) ?_⟩⟩
  have s24:=s23.trans s4
  refine⟨_,rfl,p,_,dx,fs,rfl,s24 _ _ hp,isC N t,n1,p,dx,fs,t,rfl,s24 _ _ hp,hf.same s24,rfl,hd,ln.k18,fun l ps H5 s5 hl e5 pk tk=>?_⟩
  have pl:ps.length<=6:=by
   obtain⟨_,_,ks,kl,km⟩:=ln
   have:=(nodup_srt tk.1).length_le_of_subset (l₂:=ks) fun x hx=>km x ((tk.2 x).mp hx)
   rw [List.length_map]at this
   omega
  refine⟨l,_,rfl,.inl (SqL.of e5),_,_,rfl,rfl,_,rfl,iteFe (decide_eq_false ?_) (q H5 (s24.trans s5))⟩
  rw [List.length_map]
  omega
end
end KY
namespace KY
open PySem PyProof.Rows L2
def dg (m:Nat):List Nat:=(Nat.toDigits 10 m).map Char.toNat
theorem dc_nat:∀d:Nat,d<10->(Nat.digitChar d).toNat=48+d:=by decide
theorem dg_lt {m:Nat} (h:m<10):dg m=[48+m]:=by
 unfold dg
 rw [Nat.toDigits_of_lt_base h]
 show [(Nat.digitChar m).toNat]=_
 rw [dc_nat m h]
theorem dg_ge {m:Nat} (h:10<=m):dg m=dg (m / 10)++[48+m % 10]:=by
 have hm:m % 10<10:=Nat.mod_lt m (by decide)
 have t:Nat.toDigits 10 (m / 10)++Nat.toDigits 10 (m % 10)=Nat.toDigits 10 (10*(m / 10)+m % 10):=Nat.toDigits_append_toDigits (by decide) (by omega) hm
 rw [Nat.div_add_mod]at t
 unfold dg
 rw [<-t,List.map_append,Nat.toDigits_of_lt_base hm]
 show _++[(Nat.digitChar (m % 10)).toNat]=_
 rw [dc_nat _ hm]
theorem dg_all (m:Nat):NumText.AllDigits (dg m):=by
 induction m using Nat.strongRecOn with
 |_ m ih=>
  by_cases h:m<10
  ·rw [dg_lt h]
   intro c hc
   rw [List.mem_singleton.mp hc]
   omega
  ·rw [dg_ge (by omega)]
   intro c hc
   rcases List.mem_append.mp hc with z|z
   ·exact ih (m / 10) (by omega) c z
   ·rw [List.mem_singleton.mp z];omega
theorem dg_val (m:Nat):NumText.digitsVal (dg m)=m:=W.KIN.val_back m
theorem dg_head (m:Nat) (h:0<m):∃c r,dg m=c::r/\49<=c/\c<=57:=by
 induction m using Nat.strongRecOn with
 |_ m ih=>
  by_cases h10:m<10
  ·exact⟨_,_,dg_lt h10,by omega,by omega⟩
  ·obtain⟨c,r,e,h1,h2⟩:=ih (m / 10) (by omega) (by omega)
   exact⟨c,r++[48+m % 10],by rw [dg_ge (by omega),e];rfl,h1,h2⟩
theorem dg_len:∀(k m:Nat),m<10 ^ (k+1)->(dg m).length<=k+1
 |0,m,h=>by rw [dg_lt (by simpa using h)];exact Nat.le_refl _
 |k+1,m,h=>by
  by_cases h10:m<10
  ·rw [dg_lt h10];show 1<=_;omega
  ·rw [dg_ge (by omega),List.length_append]
   have:=dg_len k (m / 10) (by rw [Nat.pow_succ]at h;omega)
   show _+1<=_
   omega
theorem dg_zero:dg 0=[48]:=dg_lt (by decide)
theorem itx_nat (m:Nat):itx (m:Int)=dg m:=W.KIN.signs_num m
theorem itx_neg (m:Nat):itx (Int.negSucc m)=45::dg (m+1):=by
 have e:=W.KIN.signs_num (m+1)
 have h:toString (Int.negSucc m)="-"++toString (((m+1:Nat):Int)):=rfl
 unfold itx
 rw [h]
 have:∀a b:String,(Str.ofString (a++b)).cps.toList=(Str.ofString a).cps.toList++(Str.ofString b).cps.toList:=fun a b=>by
  rw [signs_ofString,signs_ofString,signs_ofString,String.toList_append,List.map_append]
 rw [this,e]
 rfl
theorem itx_len {n:Int} (h:n.natAbs<10 ^ 13):(itx n).length<=14:=by
 cases n with
 |ofNat m=>rw [show Int.ofNat m=(m:Int)from rfl,itx_nat];have:=dg_len 12 m h;omega
 |negSucc m=>rw [itx_neg,List.length_cons];have:=dg_len 12 (m+1) (by simpa using h);omega
theorem log_small {n:Int} (h:n.natAbs<10 ^ 13):n.natAbs.log2<1920:=by
 by_cases z:n.natAbs=0
 ·rw [z];decide
 ·exact(Nat.log2_lt z).mpr (Nat.lt_trans h (by
   have:(10:Nat) ^ 13<2 ^ 50:=by decide
   exact Nat.lt_of_lt_of_le this (Nat.pow_le_pow_right (by decide) (by decide))))
def sgn (x:Str):List Nat:=x.cps.toList
def txt:Tm->List Nat
 | .num n=>itx n
 | .take b ss=>91::(glu [32] (itx b::ss.map itx)++[93])
 | .rest t y=>40::(txt t++([32,114,101,115,116,32]++(itx y++[41])))
 | .cho a b c=>40::(txt a++([32,63,32]++(txt b++([32,58,32]++(txt c++[41])))))
 | .bin k a b=>40::(txt a++(32::(sgn (opn k)++(32::(txt b++[41])))))
def TxOk (t:Tm):Prop:=Wf t/\∀x∈raw t,GoodT x/\1<=x.2.length/\x.2.length<=3
theorem lit_tx {x:String} (l:List Nat) (h:(Str.ofString x).cps.toList=l):Str.ofString x=tx l:=by rw [tx_of (Str.ofString x),h]
theorem opn_len (k:Fin 5):(sgn (opn k)).length<=3:=by
 match k with
 |0=>decide
 |1=>decide
 |2=>decide
 |3=>decide
 |4=>decide
theorem glu_len (sep:List Nat):∀(ls:List (List Nat)) (m:Nat),(∀l∈ls,l.length<=m)->(glu sep ls).length<=ls.length*(m+sep.length)
 | [],_,_=>Nat.zero_le _
 | [x],m,h=>by
  have:=h x List.mem_cons_self
  show x.length<=1*(m+sep.length)
  omega
 |x::y::r,m,h=>by
  have h1:=h x List.mem_cons_self
  have h2:=glu_len sep (y::r) m fun l hl=>h l (List.mem_cons_of_mem _ hl)
  rw [glu,List.length_append,List.length_append,List.length_cons,Nat.succ_mul]
  omega
theorem good_small {s:Int} (h: -9<=s/\s<=9):s.natAbs<10 ^ 13:=by omega
theorem txt_len:∀{t:Tm},TxOk t->(txt t).length<=70*prts t
 | .num n,h=>by
  have h1:=h.1
  have:=itx_len (n:=n) (by simp only [Wf]at h1;omega)
  show(itx n).length<=70*1
  omega
 | .take b ss,h=>by
  obtain⟨⟨h1,h2,h3⟩,h4,h5⟩:=h.2 (b,ss) List.mem_cons_self
  have:(glu [32] (itx b::ss.map itx)).length<=(itx b::ss.map itx).length*(14+1):=glu_len [32] _ 14 fun l hl=>by
   rcases List.mem_cons.mp hl with rfl|hl
   ·exact itx_len (by simp only at h1 h2;omega)
   ·obtain⟨s,hs,rfl⟩:=List.mem_map.mp hl
    exact itx_len (good_small (h3 s hs))
  rw [List.length_cons,List.length_map]at this
  show(glu [32] (itx b::ss.map itx)++[93]).length+1<=70*1
  rw [List.length_append]
  simp only at h4 h5
  show _+1+1<=_
  omega
 | .rest t y,h=>by
  have h1:=h.1
  have i1:=txt_len (t:=t) ⟨h1.2.2,h.2⟩
  have:=itx_len (n:=y) (by have:=h1.1;have:=h1.2.1;omega)
  simp only [txt,prts,List.length_cons,List.length_append,List.length_nil]
  omega
 | .cho a b c,h=>by
  have h1:=h.1
  have i1:=txt_len (t:=a) ⟨h1.1,fun x hx=>h.2 x (by simp [raw,hx])⟩
  have i2:=txt_len (t:=b) ⟨h1.2.1,fun x hx=>h.2 x (by simp [raw,hx])⟩
  have i3:=txt_len (t:=c) ⟨h1.2.2,fun x hx=>h.2 x (by simp [raw,hx])⟩
  simp only [txt,prts,List.length_cons,List.length_append,List.length_nil]
  omega
 | .bin k a b,h=>by
  have h1:=h.1
  have i1:=txt_len (t:=a) ⟨h1.1,fun x hx=>h.2 x (by simp [raw,hx])⟩
  have i2:=txt_len (t:=b) ⟨h1.2,fun x hx=>h.2 x (by simp [raw,hx])⟩
  have:=opn_len k
  simp only [txt,prts,List.length_cons,List.length_append,List.length_nil]
  omega
theorem TxOk.kid {t k:Tm} (h:k∈kids t) (a:TxOk t):TxOk k:=⟨kid_wf h a.1,fun x hx=>a.2 x (kid_raw h x hx)⟩
end KY
namespace KY
open PySem PyProof.Rows L2
def spShown (N:Cn) (d:Nat) (C:Addr):Sp:=fun vs H Q _=>∃(p dx:Addr) (fs:List (Str×V)) (t:Tm),vs=[.ref p]/\H p=some (.ins (cls N t) dx fs)/\FldAt N H fs t/\cls N t=C/\ht t<=d/\TxOk t/\prts t<=40/\∀H',Same H H'->Q (.str (tx (txt t))) H'
def bintx (s:Str) (a b:Tm):List Nat:=40::(txt a++(32::(sgn s++(32::(txt b++[41])))))
def spShownW (N:Cn) (d:Nat) (C:Addr):Sp:=fun vs H Q _=>∃(p dx:Addr) (fs:List (Str×V)) (j:Fin 5) (a b:Tm) (s:Str),vs=[.ref p,.str s]/\H p=some (.ins (N.bin j) dx fs)/\FldAt N H fs (.bin j a b)/\N.bin j=C/\ht (.bin j a b)<=d/\TxOk (.bin j a b)/\prts (.bin j a b)<=40/\(sgn s).length<=3/\∀H',Same H H'->Q (.str (tx (bintx s a b))) H'
abbrev DSh (P:Program) (w:World) (K:PySem.W.Frag) (mg:Str->Option Value) (base:Heap) (N:Cn) (d:Nat):Prop:=Dis P w K mg base CX0 (2*d+1) (IsC N) "shown" ["self"] (spShown N d)
abbrev NoS (N:Cn):Prop:=∀(t:Tm) (fs:List (Str×V)) (H:Hp),FldAt N H fs t->fs.lookup ("shown":Str)=none
theorem line2 {n:Nat} (h:n<=9000):n<=sizeLine:=by rw [sizeLine_eq];omega
theorem sum_le14:∀{ls:List (List Nat)},(∀l∈ls,l.length<=14)->(ls.map List.length).sum<=ls.length*14
 | [],_=>Nat.zero_le _
 |x::r,h=>by
  have h1:=h x List.mem_cons_self
  have h2:=sum_le14 (ls:=r) fun l hl=>h l (List.mem_cons_of_mem _ hl)
  rw [List.map_cons,List.sum_cons,List.length_cons,Nat.succ_mul]
  omega
section
variable {P:Program} {w:World} {K:PySem.W.Frag} {mg:Str->Option Value} {base:Heap} {N:Cn}
theorem scNShown:FnScope ["self"] ["self"] (defScope sNShown):=⟨rfl,rfl,rfl,by decide+kernel,rfl,by decide+kernel,by decide+kernel⟩
theorem ok_nshown {f C:Addr} {fd:FuncData} {d:Nat} (F:Fun K "shown" "Number.shown" sNShown f fd) (c:Cf K C ["value"]) (hC:∀t,cls N t=C->∃n,t= .num n) (T:Txt K mg):FnOk P w K mg base CX0 (d+1) f fd ["self"] (spShown N d C):=by
 refine F.ok scNShown (fun vs H Q E h=>?_) (fun cdv A outer s H vs Q E hr h=>?_)
 ·obtain⟨p,dx,fs,t,rfl,_⟩:=h
  rfl
 ·obtain⟨p,dx,fs,t,rfl,hp,hf,hc,hd,ok,pr,q⟩:=h
  refine⟨_,(pss_one (ps_ret (pe_callTy call_strI rfl T.str boot_str (pa_cons (pe_fld (pv 0) rfl) pa_nil)))),?_⟩
  obtain⟨n,rfl⟩:=hC t hc
  rw [hc]at hp
  obtain rfl:=hf
  have h1:=ok.1
  exact⟨_,rfl,p,C,dx,_,_,rfl,hp,c.cl,c.na _ (by simp),rfl,n,rfl,log_small (by simp only [Wf]at h1;omega),q H (Same.refl H)⟩
abbrev NKShown:List Str:=["self","numbers"]
theorem scKShown:FnScope ["self","numbers"] ["self"] (defScope sKShown):=⟨rfl,rfl,rfl,by decide+kernel,rfl,by decide+kernel,by decide+kernel⟩
theorem ok_kshown {f C:Addr} {fd:FuncData} {d:Nat} (F:Fun K "shown" "Take.shown" sKShown f fd) (c:Cf K C ["back","steps"]) (hC:∀t,cls N t=C->∃b ss,t= .take b ss) (T:Txt K mg):FnOk P w K mg base CX0 (d+1) f fd ["self"] (spShown N d C):=by
 refine F.ok scKShown (fun vs H Q E h=>?_) (fun cdv A outer s H vs Q E hr h=>?_)
 ·obtain⟨p,dx,fs,t,rfl,_⟩:=h
  rfl
 ·obtain⟨p,dx,fs,t,rfl,hp,hf,hc,hd,ok,pr,q⟩:=h
  refine⟨_,(@pss_cons _ _ _ _ _ (@ps_set _ _ 1 _ _ _ _ scKShown.nd rfl (Or.inl rfl) (pe_bm PySem.F.plainAttrs_str PySem.F.slot_str_join PySem.F.type_str_join mt_join pe_str (@pa_cons _ _ _ _ _ (pe_cp (own:=["number"]) (cap:=[]) (g:=gName 0) (defScope sKShown) NKShown rfl rfl (fun x h=>cell_has h) (by decide+kernel) rfl (pi_tup (@pe_op _ _ _ _ _ _ _ _ op_catT (@pe_tup _ _ _ _ _ (@pa_cons _ _ _ _ _ (pe_fld (pv 0) rfl) pa_nil rfl)) (pe_fld (pv 0) rfl))) (fun cl C s2 H2 fp=>(pg_name (i:=0) (show(["number"]:List Str).Nodup by decide+kernel) rfl (Or.inl rfl) (Or.inr rfl))) (fun cl C s2 H2 fp=>(pe_callTy call_strI rfl T.str boot_str (@pa_cons _ _ _ _ _ (pv 0) pa_nil rfl)))) pa_nil rfl)) rfl (by first|exact .inl rfl|exact .inr rfl)) (@pss_one _ _ _ (@ps_ret _ _ _ _ (pe_fst (pf_cons' pp_c (pf_cons' (pp_v (pv 1)) (pf_cons' pp_c pf_nil'))))))),?_⟩
  obtain⟨b,ss,rfl⟩:=hC t hc
  rw [hc]at hp
  obtain⟨u,rfl,hu⟩:=hf
  obtain⟨⟨b1,b3,bd⟩,l1,l3⟩:=ok.2 (b,ss) List.mem_cons_self
  simp only at b1 b3 bd l1 l3
  refine⟨rfl,_,rfl,p,C,dx,_,_,rfl,hp,c.cl,c.na _ (by simp),rfl,by show 1<=sizeLine;decide,fun t1 n1=>?_⟩
  generalize e:upd H t1 _=H1
  obtain⟨s1,e1⟩:=new_of n1 e
  refine⟨_,rfl,p,C,dx,_,_,rfl,s1 _ _ hp,c.cl,c.na _ (by simp),rfl,?_⟩
  refine⟨t1,u,_,_,rfl,rfl,SqT.of e1,SqT.of (s1 _ _ hu),by simp,by rw [List.length_map];show 1+_<=sizeLine;rw [sizeLine_eq];omega,fun z=>?_,fun _ t2 n2=>?_⟩
  ·exact absurd (show ss=[] by simpa using z) fun e=>by rw [e]at l1;simp at l1
  generalize e:upd H1 t2 _=H2
  obtain⟨s2,e2⟩:=new_of n2 e
  have e2:H2 t2=some (.tup ((b::ss).map V.int)):=e2
  refine⟨t2,rfl,⟨_,SqT.of e2⟩,fun D hD=>?_⟩
  refine comp_tup (K:=K) (a:=t2) (xs:=(b::ss).map V.int) (fun i acc σ H3=>(∃v0,σ=[v0])/\Same H2 H3/\H3 D=some (.lst acc)/\acc=(((b::ss).take i).map itx).map fun l=>V.str (tx l)) ⟨⟨_,rfl⟩,sameNew hD,upd_same,rfl⟩ (fun i acc σ H3 _ ⟨_,s3,_⟩=>SqT.of (s3 _ _ e2)) ?_ ?_
  ·rintro i x acc σ H3 hi hx ⟨⟨v0,rfl⟩,s3,hD3,rfl⟩
   obtain⟨n,rfl,hn⟩:=get_map hx
   have nb:n.natAbs<10 ^ 13:=by
    rcases List.mem_cons.mp (List.mem_of_getElem? hn)with rfl|hm
    ·omega
    ·exact good_small (bd n hm)
   refine⟨_,rfl,n,rfl,log_small nb,?_⟩
   refine cturn hD3 (small (by rw [List.length_map,List.length_map,List.length_take,List.length_cons];omega)) hi ⟨⟨_,rfl⟩,sameUpd hD s3,upd_same,?_⟩
   rw [List.take_succ,hn,List.map_append,List.map_append]
   rfl
  ·rintro acc σ H3 ⟨_,s3,hD3,rfl⟩
   rw [List.length_map,List.take_length]at hD3
   have lb:∀l∈(b::ss).map itx,l.length<=14:=fun l hl=>by
    obtain⟨n,hn,rfl⟩:=List.mem_map.mp hl
    rcases List.mem_cons.mp hn with rfl|hm
    ·exact itx_len (by omega)
    ·exact itx_len (good_small (bd n hm))
   have gl:=glu_len [32] _ 14 lb
   rw [List.length_map,List.length_cons]at gl
   have gl:(glu [32] ((b::ss).map itx)).length<=(ss.length+1)*15:=gl
   refine⟨[32],D,(b::ss).map itx,congrArg V.str (lit_tx [32] rfl),rfl,hD3,?_,?_⟩
   ·have:=sum_le14 lb
    rw [List.length_map,List.length_cons]at this⊢
    show _+_*1<=_
    omega
   refine⟨by show 0+1<=sizeLine;decide,_,rfl,.inl ⟨_,rfl,line2 (by omega),?_⟩⟩
   refine⟨line2 (by show 1+_<=9000;omega),line2 (by rw [List.length_append];show 1+_+1<=9000;omega),?_⟩
   exact q H3 (s1.trans (s2.trans s3))
theorem scShownW:FnScope ["self","sign","one","other"] ["self","sign"] (defScope sShownW):=⟨rfl,rfl,rfl,by decide+kernel,rfl,by decide+kernel,by decide+kernel⟩
theorem ok_shownW {f C:Addr} {fd:FuncData} {d:Nat} (F:Fun K "shown_with" "Paired.shown_with" sShownW f fd) (c:Cf K C ["one","other"]) (D_shown:DSh P w K mg base N d) (nS:NoS N):FnOk P w K mg base CX0 (2*d+2) f fd ["self","sign"] (spShownW N (d+1) C):=by
 refine F.ok scShownW (fun vs H Q E h=>?_) (fun cdv A outer s H vs Q E hr h=>?_)
 ·obtain⟨p,dx,fs,j,a,b,sg,rfl,_⟩:=h
  rfl
 ·obtain⟨p,dx,fs,j,a,b,sg,rfl,hp,hf,hc,hd,ok,pr,sl,q⟩:=h
  refine⟨_,(pss_cons (ps_set (i:=2) scShownW.nd rfl (Or.inl rfl) (pe_methD0 (pe_fld (pv 0) rfl) D_shown (hr.mono (by omega)) pass0)) (pss_cons (ps_set (i:=3) scShownW.nd rfl (Or.inl rfl) (pe_methD0 (pe_fld (pv 0) rfl) D_shown (hr.mono (by omega)) pass0)) (pss_one (ps_ret (pe_fst (pf_cons' pp_c (pf_cons' (pp_v (pv 2)) (pf_cons' pp_c (pf_cons' (pp_v (pv 1)) (pf_cons' pp_c (pf_cons' (pp_v (pv 3)) (pf_cons' pp_c pf_nil')))))))))))),?_⟩
  rw [hc]at hp
  obtain⟨pa,da,fa,pb,db,fb,rfl,⟨ha,ga⟩,hb,gb⟩:=hf
  have hd':max (ht a) (ht b)+1<=d+1:=hd
  have pr':1+(prts a+prts b)<=40:=pr
  have ka:a∈kids (.bin j a b):=by simp [kids]
  have kb:b∈kids (.bin j a b):=by simp [kids]
  have oa:=ok.kid ka
  have ob:=ok.kid kb
  have la:=txt_len oa
  have lb:=txt_len ob
  refine⟨_,rfl,p,C,dx,_,_,rfl,hp,c.cl,c.na _ (by simp),rfl,pa,_,da,fa,rfl,ha,isC N a,nS a fa H ga,pa,da,fa,a,rfl,ha,ga,rfl,by omega,oa,by omega,fun H1 s1=>?_⟩
  refine⟨_,rfl,p,C,dx,_,_,rfl,s1 _ _ hp,c.cl,c.na _ (by simp),rfl,pb,_,db,fb,rfl,s1 _ _ hb,isC N b,nS b fb H gb,pb,db,fb,b,rfl,s1 _ _ hb,gb.same s1,rfl,by omega,ob,by omega,fun H2 s2=>?_⟩
  refine⟨by show 0+1<=sizeLine;decide,_,rfl,.inl ⟨_,rfl,line2 (by omega),line2 (by show 1+_<=9000;omega),?_⟩⟩
  refine⟨line2 (by rw [List.length_append];show 1+_+1<=9000;omega),_,rfl,.inl ⟨sgn sg,congrArg V.str (tx_of sg),line2 (by omega),line2 (by rw [List.length_append,List.length_append];show 1+_+1+_<=9000;omega),?_⟩⟩
  refine⟨line2 (by rw [List.length_append,List.length_append,List.length_append];show 1+_+1+_+1<=9000;omega),_,rfl,.inl ⟨_,rfl,line2 (by omega),line2 (by rw [List.length_append,List.length_append,List.length_append,List.length_append];show 1+_+1+_+1+_<=9000;omega),?_⟩⟩
  refine⟨line2 (by rw [List.length_append,List.length_append,List.length_append,List.length_append,List.length_append];show 1+_+1+_+1+_+1<=9000;omega),?_⟩
  have:=q H2 (s1.trans s2)
  rw [show bintx sg a b=[40]++txt a++[32]++sgn sg++[32]++txt b++[41] by unfold bintx;simp]at this
  exact this
end
end KY
namespace KY
open PySem PyProof.Rows L2
abbrev DSW (P:Program) (w:World) (K:PySem.W.Frag) (mg:Str->Option Value) (base:Heap) (N:Cn) (d:Nat):Prop:=Dis P w K mg base CX0 (2*d+2) (fun C=>∃k,C=N.bin k) "shown_with" ["self","sign"] (spShownW N (d+1))
abbrev NoW (N:Cn):Prop:=∀(t:Tm) (fs:List (Str×V)) (H:Hp),FldAt N H fs t->fs.lookup ("shown_with":Str)=none
section
variable {P:Program} {w:World} {K:PySem.W.Frag} {mg:Str->Option Value} {base:Heap} {N:Cn}
theorem scAShown:FnScope ["self"] ["self"] (defScope sAShown):=⟨rfl,rfl,rfl,by decide+kernel,rfl,by decide+kernel,by decide+kernel⟩
theorem ok_ashown {f C:Addr} {fd:FuncData} {d:Nat} (F:Fun K "shown" "Added.shown" sAShown f fd) (hC:∀t,cls N t=C->∃a b,t= .bin 0 a b) (D_shownW:DSW P w K mg base N d) (nW:NoW N):FnOk P w K mg base CX0 (2*d+3) f fd ["self"] (spShown N (d+1) C):=by
 refine F.ok scAShown (fun vs H Q E h=>?_) (fun cdv A outer s H vs Q E hr h=>?_)
 ·obtain⟨p,dx,fs,t,rfl,_⟩:=h
  rfl
 ·obtain⟨p,dx,fs,t,rfl,hp,hf,hc,hd,ok,pr,q⟩:=h
  refine⟨_,(pss_one (ps_ret (pe_methD (pv 0) D_shownW (hr.mono (by omega)) pass0 (pa_cons pe_str pa_nil)))),?_⟩
  obtain⟨a,b,rfl⟩:=hC t hc
  exact⟨_,rfl,p,_,dx,fs,rfl,hp,⟨0,rfl⟩,nW _ fs H hf,p,dx,fs,0,a,b,_,rfl,hp,hf,rfl,hd,ok,pr,by decide,q⟩
theorem scLShown:FnScope ["self"] ["self"] (defScope sLShown):=⟨rfl,rfl,rfl,by decide+kernel,rfl,by decide+kernel,by decide+kernel⟩
theorem ok_lshown {f C:Addr} {fd:FuncData} {d:Nat} (F:Fun K "shown" "Lessened.shown" sLShown f fd) (hC:∀t,cls N t=C->∃a b,t= .bin 1 a b) (D_shownW:DSW P w K mg base N d) (nW:NoW N):FnOk P w K mg base CX0 (2*d+3) f fd ["self"] (spShown N (d+1) C):=by
 refine F.ok scLShown (fun vs H Q E h=>?_) (fun cdv A outer s H vs Q E hr h=>?_)
 ·obtain⟨p,dx,fs,t,rfl,_⟩:=h
  rfl
 ·obtain⟨p,dx,fs,t,rfl,hp,hf,hc,hd,ok,pr,q⟩:=h
  refine⟨_,(pss_one (ps_ret (pe_methD (pv 0) D_shownW (hr.mono (by omega)) pass0 (pa_cons pe_str pa_nil)))),?_⟩
  obtain⟨a,b,rfl⟩:=hC t hc
  exact⟨_,rfl,p,_,dx,fs,rfl,hp,⟨1,rfl⟩,nW _ fs H hf,p,dx,fs,1,a,b,_,rfl,hp,hf,rfl,hd,ok,pr,by decide,q⟩
theorem scMShown:FnScope ["self"] ["self"] (defScope sMShown):=⟨rfl,rfl,rfl,by decide+kernel,rfl,by decide+kernel,by decide+kernel⟩
theorem ok_mshown {f C:Addr} {fd:FuncData} {d:Nat} (F:Fun K "shown" "Multiplied.shown" sMShown f fd) (hC:∀t,cls N t=C->∃a b,t= .bin 2 a b) (D_shownW:DSW P w K mg base N d) (nW:NoW N):FnOk P w K mg base CX0 (2*d+3) f fd ["self"] (spShown N (d+1) C):=by
 refine F.ok scMShown (fun vs H Q E h=>?_) (fun cdv A outer s H vs Q E hr h=>?_)
 ·obtain⟨p,dx,fs,t,rfl,_⟩:=h
  rfl
 ·obtain⟨p,dx,fs,t,rfl,hp,hf,hc,hd,ok,pr,q⟩:=h
  refine⟨_,(pss_one (ps_ret (pe_methD (pv 0) D_shownW (hr.mono (by omega)) pass0 (pa_cons pe_str pa_nil)))),?_⟩
  obtain⟨a,b,rfl⟩:=hC t hc
  exact⟨_,rfl,p,_,dx,fs,rfl,hp,⟨2,rfl⟩,nW _ fs H hf,p,dx,fs,2,a,b,_,rfl,hp,hf,rfl,hd,ok,pr,by decide,q⟩
theorem scIShown:FnScope ["self"] ["self"] (defScope sIShown):=⟨rfl,rfl,rfl,by decide+kernel,rfl,by decide+kernel,by decide+kernel⟩
theorem ok_ishown {f C:Addr} {fd:FuncData} {d:Nat} (F:Fun K "shown" "Least.shown" sIShown f fd) (hC:∀t,cls N t=C->∃a b,t= .bin 3 a b) (D_shownW:DSW P w K mg base N d) (nW:NoW N):FnOk P w K mg base CX0 (2*d+3) f fd ["self"] (spShown N (d+1) C):=by
 refine F.ok scIShown (fun vs H Q E h=>?_) (fun cdv A outer s H vs Q E hr h=>?_)
 ·obtain⟨p,dx,fs,t,rfl,_⟩:=h
  rfl
 ·obtain⟨p,dx,fs,t,rfl,hp,hf,hc,hd,ok,pr,q⟩:=h
  refine⟨_,(pss_one (ps_ret (pe_methD (pv 0) D_shownW (hr.mono (by omega)) pass0 (pa_cons pe_str pa_nil)))),?_⟩
  obtain⟨a,b,rfl⟩:=hC t hc
  exact⟨_,rfl,p,_,dx,fs,rfl,hp,⟨3,rfl⟩,nW _ fs H hf,p,dx,fs,3,a,b,_,rfl,hp,hf,rfl,hd,ok,pr,by decide,q⟩
theorem scXShown:FnScope ["self"] ["self"] (defScope sXShown):=⟨rfl,rfl,rfl,by decide+kernel,rfl,by decide+kernel,by decide+kernel⟩
theorem ok_xshown {f C:Addr} {fd:FuncData} {d:Nat} (F:Fun K "shown" "Most.shown" sXShown f fd) (hC:∀t,cls N t=C->∃a b,t= .bin 4 a b) (D_shownW:DSW P w K mg base N d) (nW:NoW N):FnOk P w K mg base CX0 (2*d+3) f fd ["self"] (spShown N (d+1) C):=by
 refine F.ok scXShown (fun vs H Q E h=>?_) (fun cdv A outer s H vs Q E hr h=>?_)
 ·obtain⟨p,dx,fs,t,rfl,_⟩:=h
  rfl
 ·obtain⟨p,dx,fs,t,rfl,hp,hf,hc,hd,ok,pr,q⟩:=h
  refine⟨_,(pss_one (ps_ret (pe_methD (pv 0) D_shownW (hr.mono (by omega)) pass0 (pa_cons pe_str pa_nil)))),?_⟩
  obtain⟨a,b,rfl⟩:=hC t hc
  exact⟨_,rfl,p,_,dx,fs,rfl,hp,⟨4,rfl⟩,nW _ fs H hf,p,dx,fs,4,a,b,_,rfl,hp,hf,rfl,hd,ok,pr,by decide,q⟩
theorem scRShown:FnScope ["self","one","by"] ["self"] (defScope sRShown):=⟨rfl,rfl,rfl,by decide+kernel,rfl,by decide+kernel,by decide+kernel⟩
theorem ok_rshown {f C:Addr} {fd:FuncData} {d:Nat} (F:Fun K "shown" "Rest.shown" sRShown f fd) (c:Cf K C ["one","by"]) (hC:∀t,cls N t=C->∃a y,t= .rest a y) (D_shown:DSh P w K mg base N d) (nS:NoS N):FnOk P w K mg base CX0 (2*d+2) f fd ["self"] (spShown N (d+1) C):=by
 refine F.ok scRShown (fun vs H Q E h=>?_) (fun cdv A outer s H vs Q E hr h=>?_)
 ·obtain⟨p,dx,fs,t,rfl,_⟩:=h
  rfl
 ·obtain⟨p,dx,fs,t,rfl,hp,hf,hc,hd,ok,pr,q⟩:=h
  refine⟨_,(pss_cons (ps_set (i:=1) scRShown.nd rfl (Or.inl rfl) (pe_methD0 (pe_fld (pv 0) rfl) D_shown (hr.mono (by omega)) pass0)) (pss_cons (ps_set (i:=2) scRShown.nd rfl (Or.inl rfl) (pe_fld (pv 0) rfl)) (pss_one (ps_ret (pe_fst (pf_cons' pp_c (pf_cons' (pp_v (pv 1)) (pf_cons' pp_c (pf_cons' (pp_v (pv 2)) (pf_cons' pp_c pf_nil')))))))))),?_⟩
  obtain⟨a,y,rfl⟩:=hC t hc
  rw [hc]at hp
  obtain⟨pa,da,fa,rfl,ha,ga⟩:=hf
  have hd':ht a+1<=d+1:=hd
  have pr':1+prts a<=40:=pr
  have oa:TxOk a:=ok.kid (t:= .rest a y) (by simp [kids])
  have la:=txt_len oa
  have yb:y.natAbs<10 ^ 13:=by have:=ok.1.1;have:=ok.1.2.1;omega
  have ly:=itx_len yb
  refine⟨_,rfl,p,C,dx,_,_,rfl,hp,c.cl,c.na _ (by simp),rfl,pa,_,da,fa,rfl,ha,isC N a,nS a fa H ga,pa,da,fa,a,rfl,ha,ga,rfl,by omega,oa,by omega,fun H1 s1=>?_⟩
  refine⟨_,rfl,p,C,dx,_,_,rfl,s1 _ _ hp,c.cl,c.na _ (by simp),rfl,?_⟩
  refine⟨by show 0+1<=sizeLine;decide,_,rfl,.inl ⟨_,rfl,line2 (by omega),line2 (by show 1+_<=9000;omega),?_⟩⟩
  refine⟨line2 (by rw [List.length_append];show 1+_+6<=9000;omega),_,rfl,.inr ⟨y,rfl,log_small yb,line2 (by rw [List.length_append,List.length_append];show 1+_+6+_<=9000;omega),?_⟩⟩
  refine⟨line2 (by rw [List.length_append,List.length_append,List.length_append];show 1+_+6+_+1<=9000;omega),?_⟩
  have:=q H1 s1
  rw [show txt (.rest a y)=[40]++txt a++[32,114,101,115,116,32]++itx y++[41] by rw [txt];simp]at this
  exact this
theorem scCShown:FnScope ["self","test","one","other"] ["self"] (defScope sCShown):=⟨rfl,rfl,rfl,by decide+kernel,rfl,by decide+kernel,by decide+kernel⟩
theorem ok_cshown {f C:Addr} {fd:FuncData} {d:Nat} (F:Fun K "shown" "Chosen.shown" sCShown f fd) (c:Cf K C ["test","one","other"]) (hC:∀t,cls N t=C->∃a b e,t= .cho a b e) (D_shown:DSh P w K mg base N d) (nS:NoS N):FnOk P w K mg base CX0 (2*d+2) f fd ["self"] (spShown N (d+1) C):=by
 refine F.ok scCShown (fun vs H Q E h=>?_) (fun cdv A outer s H vs Q E hr h=>?_)
 ·obtain⟨p,dx,fs,t,rfl,_⟩:=h
  rfl
 ·obtain⟨p,dx,fs,t,rfl,hp,hf,hc,hd,ok,pr,q⟩:=h
  refine⟨_,(pss_cons (ps_set (i:=1) scCShown.nd rfl (Or.inl rfl) (pe_methD0 (pe_fld (pv 0) rfl) D_shown (hr.mono (by omega)) pass0)) (pss_cons (ps_set (i:=2) scCShown.nd rfl (Or.inl rfl) (pe_methD0 (pe_fld (pv 0) rfl) D_shown (hr.mono (by omega)) pass0)) (pss_cons (ps_set (i:=3) scCShown.nd rfl (Or.inl rfl) (pe_methD0 (pe_fld (pv 0) rfl) D_shown (hr.mono (by omega)) pass0)) (pss_one (ps_ret (pe_fst (pf_cons' pp_c (pf_cons' (pp_v (pv 1)) (pf_cons' pp_c (pf_cons' (pp_v (pv 2)) (pf_cons' pp_c (pf_cons' (pp_v (pv 3)) (pf_cons' pp_c pf_nil'))))))))))))),?_⟩
  obtain⟨a,b,e,rfl⟩:=hC t hc
  rw [hc]at hp
  obtain⟨pa,da,fa,pb,db,fb,pe,de,fe,rfl,⟨ha,ga⟩,⟨hb,gb⟩,he,ge⟩:=hf
  have hd':max (ht a) (max (ht b) (ht e))+1<=d+1:=hd
  have pr':1+(prts a+(prts b+prts e))<=40:=pr
  have oa:TxOk a:=ok.kid (t:= .cho a b e) (by simp [kids])
  have ob:TxOk b:=ok.kid (t:= .cho a b e) (by simp [kids])
  have oe:TxOk e:=ok.kid (t:= .cho a b e) (by simp [kids])
  have la:=txt_len oa
  have lb:=txt_len ob
  have le:=txt_len oe
  refine⟨_,rfl,p,C,dx,_,_,rfl,hp,c.cl,c.na _ (by simp),rfl,pa,_,da,fa,rfl,ha,isC N a,nS a fa H ga,pa,da,fa,a,rfl,ha,ga,rfl,by omega,oa,by omega,fun H1 s1=>?_⟩
  refine⟨_,rfl,p,C,dx,_,_,rfl,s1 _ _ hp,c.cl,c.na _ (by simp),rfl,pb,_,db,fb,rfl,s1 _ _ hb,isC N b,nS b fb H gb,pb,db,fb,b,rfl,s1 _ _ hb,gb.same s1,rfl,by omega,ob,by omega,fun H2 s2=>?_⟩
  have s12:=s1.trans s2
  refine⟨_,rfl,p,C,dx,_,_,rfl,s12 _ _ hp,c.cl,c.na _ (by simp),rfl,pe,_,de,fe,rfl,s12 _ _ he,isC N e,nS e fe H ge,pe,de,fe,e,rfl,s12 _ _ he,ge.same s12,rfl,by omega,oe,by omega,fun H3 s3=>?_⟩
  refine⟨by show 0+1<=sizeLine;decide,_,rfl,.inl ⟨_,rfl,line2 (by omega),line2 (by show 1+_<=9000;omega),?_⟩⟩
  refine⟨line2 (by rw [List.length_append];show 1+_+3<=9000;omega),_,rfl,.inl ⟨_,rfl,line2 (by omega),line2 (by rw [List.length_append,List.length_append];show 1+_+3+_<=9000;omega),?_⟩⟩
  refine⟨line2 (by rw [List.length_append,List.length_append,List.length_append];show 1+_+3+_+3<=9000;omega),_,rfl,.inl ⟨_,rfl,line2 (by omega),line2 (by rw [List.length_append,List.length_append,List.length_append,List.length_append];show 1+_+3+_+3+_<=9000;omega),?_⟩⟩
  refine⟨line2 (by rw [List.length_append,List.length_append,List.length_append,List.length_append,List.length_append];show 1+_+3+_+3+_+1<=9000;omega),?_⟩
  have:=q H3 (s12.trans s3)
  rw [show txt (.cho a b e)=[40]++txt a++[32,63,32]++txt b++[32,58,32]++txt e++[41] by rw [txt];simp]at this
  exact this
end
end KY
namespace KY
open PySem PyProof.Rows L2
def spText (d:Nat):Sp:=fun vs H Q _=>∃(v:V) (t:Tm),vs=[v]/\TupAt H t v/\ht t<=d/\TxOk t/\prts t<=40/\∀H',Same H H'->Q (.str (tx (txt t))) H'
theorem add_tx {i j:Str} {l m:List Nat} {H:Hp} {Q:VK} (h1:i=tx l) (h2:j=tx m) (hz:l.length+m.length<=9000) (q:Q (.str (tx (l++m))) H):rAddS (.str i) (.str j) H Q:=by
 subst h1 h2
 exact⟨_,_,rfl,rfl,by rw [tx_len,tx_len];exact line2 hz,by rw [tx_app];exact q⟩
section
variable {P:Program} {w:World} {K:PySem.W.Frag} {mg:Str->Option Value} {base:Heap}
abbrev NText:List Str:=["_law_told_here","_law_one","_law_other"]
theorem scText:FnScope ["_law_told_here","_law_one","_law_other"] ["_law_told_here"] (defScope sText):=⟨rfl,rfl,rfl,by decide+kernel,rfl,by decide+kernel,by decide+kernel⟩
theorem ok_text {f:Addr} {fd:FuncData} {d:Nat} (F:Fun K "_law_text" "_law_text" sText f fd) (c_text:Cal P w K mg base CX0 (d+1) "_law_text" ["_law_told_here"] (spText d)) (T:Txt K mg):FnOk P w K mg base CX0 (d+2) f fd ["_law_told_here"] (spText (d+1)):=by
 refine F.ok scText (fun vs H Q E h=>?_) (fun cdv A outer s H vs Q E hr h=>?_)
 ·obtain⟨v,t,rfl,_⟩:=h
  rfl
 ·obtain⟨v,t,rfl,tu,hd,ok,pr,q⟩:=h
  refine⟨_,(@pss_cons _ _ _ _ _ (ps_if (pt_cmpR op_eq (@pe_ix _ _ _ _ _ _ _ ix_tup (pv 0) pe_int (fun _ _=>rfl)) pe_str (nomark _)) (@pss_one _ _ _ (@ps_ret _ _ _ _ (pe_callTy call_strI rfl T.str boot_str (@pa_cons _ _ _ _ _ (@pe_ix _ _ _ _ _ _ _ ix_tup (pv 0) pe_int (fun _ _=>rfl)) pa_nil rfl)))) pss_nil) (@pss_cons _ _ _ _ _ (ps_if (pt_cmpR op_eq (@pe_ix _ _ _ _ _ _ _ ix_tup (pv 0) pe_int (fun _ _=>rfl)) pe_str (nomark _)) (@pss_one _ _ _ (@ps_ret _ _ _ _ (@pe_op _ _ _ _ _ _ _ _ op_addS (@pe_op _ _ _ _ _ _ _ _ op_addS pe_str (pe_bm PySem.F.plainAttrs_str PySem.F.slot_str_join PySem.F.type_str_join mt_join pe_str (@pa_cons _ _ _ _ _ (pe_cp (own:=["_law_number_here"]) (cap:=[]) (g:=gName 0) (defScope sText) NText rfl rfl (fun x h=>cell_has h) (by decide+kernel) rfl (pi_tup (@pe_op _ _ _ _ _ _ _ _ op_catT (@pe_tup _ _ _ _ _ (@pa_cons _ _ _ _ _ (@pe_ix _ _ _ _ _ _ _ ix_tup (pv 0) pe_int (fun _ _=>rfl)) pa_nil rfl)) (@pe_ix _ _ _ _ _ _ _ ix_tup (pv 0) pe_int (fun _ _=>rfl)))) (fun cl C s2 H2 fp=>(pg_name (i:=0) (show(["_law_number_here"]:List Str).Nodup by decide+kernel) rfl (Or.inl rfl) (Or.inr rfl))) (fun cl C s2 H2 fp=>(pe_callTy call_strI rfl T.str boot_str (@pa_cons _ _ _ _ _ (pv 0) pa_nil rfl)))) pa_nil rfl))) pe_str))) pss_nil) (@pss_cons _ _ _ _ _ (ps_if (pt_cmpR op_eq (@pe_ix _ _ _ _ _ _ _ ix_tup (pv 0) pe_int (fun _ _=>rfl)) pe_str (nomark _)) (@pss_one _ _ _ (@ps_ret _ _ _ _ (@pe_op _ _ _ _ _ _ _ _ op_addS (@pe_op _ _ _ _ _ _ _ _ op_addS (@pe_op _ _ _ _ _ _ _ _ op_addS (@pe_op _ _ _ _ _ _ _ _ op_addS pe_str (pe_c c_text (hr.mono (by omega)) rfl pass0 (@pa_cons _ _ _ _ _ (@pe_ix _ _ _ _ _ _ _ ix_tup (pv 0) pe_int (fun _ _=>rfl)) pa_nil rfl))) pe_str) (pe_callTy call_strI rfl T.str boot_str (@pa_cons _ _ _ _ _ (@pe_ix _ _ _ _ _ _ _ ix_tup (pv 0) pe_int (fun _ _=>rfl)) pa_nil rfl))) pe_str))) pss_nil) (@pss_cons _ _ _ _ _ (@ps_set _ _ 1 _ _ _ _ scText.nd rfl (Or.inl rfl) (pe_c c_text (hr.mono (by omega)) rfl pass0 (@pa_cons _ _ _ _ _ (@pe_ix _ _ _ _ _ _ _ ix_tup (pv 0) pe_int (fun _ _=>rfl)) pa_nil rfl)) rfl (by first|exact .inl rfl|exact .inr rfl)) (@pss_cons _ _ _ _ _ (@ps_set _ _ 2 _ _ _ _ scText.nd rfl (Or.inl rfl) (pe_c c_text (hr.mono (by omega)) rfl pass0 (@pa_cons _ _ _ _ _ (@pe_ix _ _ _ _ _ _ _ ix_tup (pv 0) pe_int (fun _ _=>rfl)) pa_nil rfl)) rfl (by first|exact .inl rfl|exact .inr rfl)) (@pss_cons _ _ _ _ _ (ps_if (pt_cmpR op_eq (@pe_ix _ _ _ _ _ _ _ ix_tup (pv 0) pe_int (fun _ _=>rfl)) pe_str (nomark _)) (@pss_one _ _ _ (@ps_ret _ _ _ _ (@pe_op _ _ _ _ _ _ _ _ op_addS (@pe_op _ _ _ _ _ _ _ _ op_addS (@pe_op _ _ _ _ _ _ _ _ op_addS (@pe_op _ _ _ _ _ _ _ _ op_addS (@pe_op _ _ _ _ _ _ _ _ op_addS (@pe_op _ _ _ _ _ _ _ _ op_addS pe_str (pv 1)) pe_str) (pv 2)) pe_str) (pe_c c_text (hr.mono (by omega)) rfl pass0 (@pa_cons _ _ _ _ _ (@pe_ix _ _ _ _ _ _ _ ix_tup (pv 0) pe_int (fun _ _=>rfl)) pa_nil rfl))) pe_str))) pss_nil) (@pss_one _ _ _ (@ps_ret _ _ _ _ (@pe_op _ _ _ _ _ _ _ _ op_addS (@pe_op _ _ _ _ _ _ _ _ op_addS pe_str (pe_bm PySem.F.plainAttrs_str PySem.F.slot_str_join PySem.F.type_str_join mt_join pe_str (@pa_cons _ _ _ _ _ (@pe_lst _ _ _ _ (@pa_cons _ _ _ _ _ (pv 1) (@pa_cons _ _ _ _ _ (@pe_ix _ _ _ _ _ _ _ ix_tup (pv 0) pe_int (fun _ _=>rfl)) (@pa_cons _ _ _ _ _ (pv 2) pa_nil rfl) rfl) rfl)) pa_nil rfl))) pe_str))))))))),?_⟩
  cases t with
  |num n=>
   obtain⟨p,rfl,hp⟩:=tu
   have h1:=ok.1
   refine⟨_,rfl,p,_,_,_,rfl,rfl,SqT.of hp,rfl,rfl,_,rfl,iteTe (decide_eq_true rfl) ?_⟩
   exact⟨_,rfl,p,_,_,_,rfl,rfl,SqT.of hp,rfl,n,rfl,log_small (by simp only [Wf]at h1;omega),q H (Same.refl H)⟩
  |take b ss=>
   obtain⟨p,u,rfl,hp,hu⟩:=tu
   obtain⟨⟨b1,b3,bd⟩,l1,l3⟩:=ok.2 (b,ss) List.mem_cons_self
   simp only at b1 b3 bd l1 l3
   refine⟨_,rfl,p,_,_,_,rfl,rfl,SqT.of hp,rfl,rfl,_,rfl,iteFe sF ?_⟩
   refine⟨_,rfl,p,_,_,_,rfl,rfl,SqT.of hp,rfl,rfl,_,rfl,iteTe (decide_eq_true rfl) ?_⟩
   refine⟨rfl,_,rfl,p,_,_,_,rfl,rfl,SqT.of hp,rfl,by show 1<=sizeLine;decide,fun t1 n1=>?_⟩
   generalize e:upd H t1 _=H1
   obtain⟨s1,e1⟩:=new_of n1 e
   refine⟨_,rfl,p,_,_,_,rfl,rfl,SqT.of (s1 _ _ hp),rfl,?_⟩
   refine⟨t1,u,_,_,rfl,rfl,SqT.of e1,SqT.of (s1 _ _ hu),by simp,by rw [List.length_map];show 1+_<=sizeLine;rw [sizeLine_eq];omega,fun z=>?_,fun _ t2 n2=>?_⟩
   ·exact absurd (show ss=[] by simpa using z) fun e=>by rw [e]at l1;simp at l1
   generalize e:upd H1 t2 _=H2
   obtain⟨s2,e2⟩:=new_of n2 e
   have e2:H2 t2=some (.tup ((b::ss).map V.int)):=e2
   refine⟨t2,rfl,⟨_,SqT.of e2⟩,fun D hD=>?_⟩
   refine comp_tup (K:=K) (a:=t2) (xs:=(b::ss).map V.int) (fun i acc σ H3=>(∃v0,σ=[v0])/\Same H2 H3/\H3 D=some (.lst acc)/\acc=(((b::ss).take i).map itx).map fun l=>V.str (tx l)) ⟨⟨_,rfl⟩,sameNew hD,upd_same,rfl⟩ (fun i acc σ H3 _ ⟨_,s3,_⟩=>SqT.of (s3 _ _ e2)) ?_ ?_
   ·rintro i x acc σ H3 hi hx ⟨⟨v0,rfl⟩,s3,hD3,rfl⟩
    obtain⟨n,rfl,hn⟩:=get_map hx
    have nb:n.natAbs<10 ^ 13:=by
     rcases List.mem_cons.mp (List.mem_of_getElem? hn)with rfl|hm
     ·omega
     ·exact good_small (bd n hm)
    refine⟨_,rfl,n,rfl,log_small nb,?_⟩
    refine cturn hD3 (small (by rw [List.length_map,List.length_map,List.length_take,List.length_cons];omega)) hi ⟨⟨_,rfl⟩,sameUpd hD s3,upd_same,?_⟩
    rw [List.take_succ,hn,List.map_append,List.map_append]
    rfl
   ·rintro acc σ H3 ⟨_,s3,hD3,rfl⟩
    rw [List.length_map,List.take_length]at hD3
    have lb:∀l∈(b::ss).map itx,l.length<=14:=fun l hl=>by
     obtain⟨n,hn,rfl⟩:=List.mem_map.mp hl
     rcases List.mem_cons.mp hn with rfl|hm
     ·exact itx_len (by omega)
     ·exact itx_len (good_small (bd n hm))
    have gl:=glu_len [32] _ 14 lb
    rw [List.length_map,List.length_cons]at gl
    have gl:(glu [32] ((b::ss).map itx)).length<=(ss.length+1)*15:=gl
    refine⟨[32],D,(b::ss).map itx,congrArg V.str (lit_tx [32] rfl),rfl,hD3,?_,?_⟩
    ·have:=sum_le14 lb
     rw [List.length_map,List.length_cons]at this⊢
     show _+_*1<=_
     omega
    refine add_tx (lit_tx [91] rfl) rfl (by show 1+_<=9000;omega) ?_
    refine add_tx rfl (lit_tx [93] rfl) (by rw [List.length_append];show 1+_+1<=9000;omega) ?_
    exact q H3 (s1.trans (s2.trans s3))
  |rest t1 y=>
   obtain⟨p,v1,rfl,hp,tu1⟩:=tu
   have hd1:ht t1+1<=d+1:=hd
   have pr':1+prts t1<=40:=pr
   have oa:TxOk t1:=ok.kid (t:= .rest t1 y) (by simp [kids])
   have la:=txt_len oa
   have yb:y.natAbs<10 ^ 13:=by have:=ok.1.1;have:=ok.1.2.1;omega
   have ly:=itx_len yb
   refine⟨_,rfl,p,_,_,_,rfl,rfl,SqT.of hp,rfl,rfl,_,rfl,iteFe sF ?_⟩
   refine⟨_,rfl,p,_,_,_,rfl,rfl,SqT.of hp,rfl,rfl,_,rfl,iteFe sF ?_⟩
   refine⟨_,rfl,p,_,_,_,rfl,rfl,SqT.of hp,rfl,rfl,_,rfl,iteTe (decide_eq_true rfl) ?_⟩
   refine⟨_,rfl,p,_,_,_,rfl,rfl,SqT.of hp,rfl,v1,t1,rfl,tu1,by omega,oa,by omega,fun H1 s1=>?_⟩
   refine add_tx (lit_tx [40] rfl) rfl (by show 1+_<=9000;omega) ?_
   dsimp only [tC]
   refine add_tx rfl (lit_tx [32,114,101,115,116,32] rfl) (by rw [List.length_append];show 1+_+6<=9000;omega) ?_
   refine⟨_,rfl,p,_,_,_,rfl,rfl,SqT.of (s1 _ _ hp),rfl,y,rfl,log_small yb,?_⟩
   refine add_tx rfl rfl (by rw [List.length_append,List.length_append];show 1+_+6+_<=9000;omega) ?_
   refine add_tx rfl (lit_tx [41] rfl) (by rw [List.length_append,List.length_append,List.length_append];show 1+_+6+_+1<=9000;omega) ?_
   have:=q H1 s1
   rw [show txt (.rest t1 y)=[40]++txt t1++[32,114,101,115,116,32]++itx y++[41] by rw [txt];simp]at this
   exact this
  |cho t1 t2 t3=>
   obtain⟨p,v1,v2,v3,rfl,hp,tu1,tu2,tu3⟩:=tu
   have hd1:max (ht t1) (max (ht t2) (ht t3))+1<=d+1:=hd
   have pr':1+(prts t1+(prts t2+prts t3))<=40:=pr
   have o1:TxOk t1:=ok.kid (t:= .cho t1 t2 t3) (by simp [kids])
   have o2:TxOk t2:=ok.kid (t:= .cho t1 t2 t3) (by simp [kids])
   have o3:TxOk t3:=ok.kid (t:= .cho t1 t2 t3) (by simp [kids])
   have l1:=txt_len o1
   have l2:=txt_len o2
   have l3:=txt_len o3
   refine⟨_,rfl,p,_,_,_,rfl,rfl,SqT.of hp,rfl,rfl,_,rfl,iteFe sF ?_⟩
   refine⟨_,rfl,p,_,_,_,rfl,rfl,SqT.of hp,rfl,rfl,_,rfl,iteFe sF ?_⟩
   refine⟨_,rfl,p,_,_,_,rfl,rfl,SqT.of hp,rfl,rfl,_,rfl,iteFe sF ?_⟩
   refine⟨_,rfl,p,_,_,_,rfl,rfl,SqT.of hp,rfl,v1,t1,rfl,tu1,by omega,o1,by omega,fun H1 s1=>?_⟩
   refine⟨_,rfl,p,_,_,_,rfl,rfl,SqT.of (s1 _ _ hp),rfl,v2,t2,rfl,tu2.same s1,by omega,o2,by omega,fun H2 s2=>?_⟩
   have s12:=s1.trans s2
   refine⟨_,rfl,p,_,_,_,rfl,rfl,SqT.of (s12 _ _ hp),rfl,rfl,_,rfl,iteTe (decide_eq_true rfl) ?_⟩
   refine⟨_,rfl,add_tx (lit_tx [40] rfl) rfl (by show 1+_<=9000;omega) ?_⟩
   dsimp only [tC]
   refine add_tx rfl (lit_tx [32,63,32] rfl) (by rw [List.length_append];show 1+_+3<=9000;omega) ?_
   refine⟨_,rfl,add_tx rfl rfl (by rw [List.length_append,List.length_append];show 1+_+3+_<=9000;omega) ?_⟩
   refine add_tx rfl (lit_tx [32,58,32] rfl) (by rw [List.length_append,List.length_append,List.length_append];show 1+_+3+_+3<=9000;omega) ?_
   refine⟨_,rfl,p,_,_,_,rfl,rfl,SqT.of (s12 _ _ hp),rfl,v3,t3,rfl,tu3.same s12,by omega,o3,by omega,fun H3 s3=>?_⟩
   refine add_tx rfl rfl (by rw [List.length_append,List.length_append,List.length_append,List.length_append];show 1+_+3+_+3+_<=9000;omega) ?_
   refine add_tx rfl (lit_tx [41] rfl) (by rw [List.length_append,List.length_append,List.length_append,List.length_append,List.length_append];show 1+_+3+_+3+_+1<=9000;omega) ?_
   have:=q H3 (s12.trans s3)
   rw [show txt (.cho t1 t2 t3)=[40]++txt t1++[32,63,32]++txt t2++[32,58,32]++txt t3++[41] by rw [txt];simp]at this
   exact this
  |bin k t1 t2=>
   obtain⟨p,v1,v2,rfl,hp,tu1,tu2⟩:=tu
   have hd1:max (ht t1) (ht t2)+1<=d+1:=hd
   have pr':1+(prts t1+prts t2)<=40:=pr
   have o1:TxOk t1:=ok.kid (t:= .bin k t1 t2) (by simp [kids])
   have o2:TxOk t2:=ok.kid (t:= .bin k t1 t2) (by simp [kids])
   have l1:=txt_len o1
   have l2:=txt_len o2
   have lk:=opn_len k
   obtain⟨n1,n2,n3,n4⟩:=opn_ne k
   refine⟨_,rfl,p,_,_,_,rfl,rfl,SqT.of hp,rfl,rfl,_,rfl,iteFe (sF n1) ?_⟩
   refine⟨_,rfl,p,_,_,_,rfl,rfl,SqT.of hp,rfl,rfl,_,rfl,iteFe (sF n2) ?_⟩
   refine⟨_,rfl,p,_,_,_,rfl,rfl,SqT.of hp,rfl,rfl,_,rfl,iteFe (sF n3) ?_⟩
   refine⟨_,rfl,p,_,_,_,rfl,rfl,SqT.of hp,rfl,v1,t1,rfl,tu1,by omega,o1,by omega,fun H1 s1=>?_⟩
   refine⟨_,rfl,p,_,_,_,rfl,rfl,SqT.of (s1 _ _ hp),rfl,v2,t2,rfl,tu2.same s1,by omega,o2,by omega,fun H2 s2=>?_⟩
   have s12:=s1.trans s2
   refine⟨_,rfl,p,_,_,_,rfl,rfl,SqT.of (s12 _ _ hp),rfl,rfl,_,rfl,iteFe (sF n4) ?_⟩
   refine⟨rfl,_,rfl,_,rfl,p,_,_,_,rfl,rfl,SqT.of (s12 _ _ hp),rfl,_,rfl,by show 3<=sizeLine;decide,fun l0 n0=>?_⟩
   generalize e:upd H2 l0 _=H3
   obtain⟨s3,e3⟩:=new_of n0 e
   refine⟨[32],l0,[txt t1,sgn (opn k),txt t2],congrArg V.str (lit_tx [32] rfl),rfl,?_,?_,?_⟩
   ·rw [e3]
    show some (HO.lst [V.str (tx (txt t1)),V.str (opn k),V.str (tx (txt t2))])=some (HO.lst [V.str (tx (txt t1)),V.str (tx (sgn (opn k))),V.str (tx (txt t2))])
    rw [show tx (sgn (opn k))=opn k from(tx_of (opn k)).symm]
   ·show(txt t1).length+((sgn (opn k)).length+((txt t2).length+0))+3*1<=100000
    omega
   have eg:glu [32] [txt t1,sgn (opn k),txt t2]=txt t1++([32]++(sgn (opn k)++([32]++txt t2))):=rfl
   have el:(glu [32] [txt t1,sgn (opn k),txt t2]).length<=8000:=by
    rw [eg]
    simp only [List.length_append,List.length_cons,List.length_nil]
    omega
   refine add_tx (lit_tx [40] rfl) rfl (by show 1+_<=9000;omega) ?_
   refine add_tx rfl (lit_tx [41] rfl) (by rw [List.length_append];show 1+_+1<=9000;omega) ?_
   have:=q H3 (s12.trans s3)
   rw [show txt (.bin k t1 t2)=[40]++glu [32] [txt t1,sgn (opn k),txt t2]++[41] by rw [eg,txt];simp]at this
   exact this
end
end KY
namespace KY
open PySem PyProof.Rows L2
theorem pe_gstr {X:Cx} {x z:Str} {t:Tok} {pos:Pos} (hg:Gl X x) (hm:X.mg x=some (.str z t)) (hd:(x==("__debug__":Str))=false:=by decide):PE X (.Name x pos) (tC (.str z)):=pe_glob (v:= .str z) hg hm ⟨_,rfl⟩ hd
theorem pe_gref {X:Cx} {x:Str} {a:Addr} {pos:Pos} (hg:Gl X x) (hm:X.mg x=some (.ref a)) (hd:(x==("__debug__":Str))=false:=by decide):PE X (.Name x pos) (tC (.ref a)):=pe_glob (v:= .ref a) hg hm rfl hd
def RdAt (CR:Addr) (H:Hp) (rd:Addr) (z:List Nat) (g:Nat):Prop:=∃dx,H rd=some (.ins CR dx [(("text":Str),V.str (tx z)),(("gone":Str),natV g)])
theorem RdAt.same {CR:Addr} {H H':Hp} {rd:Addr} {z:List Nat} {g:Nat} (s:Same H H') (h:RdAt CR H rd z g):RdAt CR H' rd z g:=let⟨dx,e⟩:=h;⟨dx,s _ _ e⟩
def dig (c:Nat):Bool:=decide (48<=c/\c<=57)
def digAt (z:List Nat) (g:Nat):Bool:=match z[g]? with|some c=>dig c|none=>false
def spAhead (CR:Addr):Sp:=fun vs H Q _=>∃(rd:Addr) (z:List Nat) (g:Nat),vs=[.ref rd]/\RdAt CR H rd z g/\z.length<=9000/\Q (.str (tx ((z.drop g).take 1))) H
def spPass (CR:Addr):Sp:=fun vs H Q _=>∃(rd:Addr) (z w:List Nat) (g:Nat) (r:List Nat),vs=[.ref rd,.str (tx w)]/\RdAt CR H rd z g/\z.length<=9000/\(∀c∈w,c<128)/\z.drop g=w++r/\∀H',Kp rd H H'->RdAt CR H' rd z (g+w.length)->Q .non H'
def spFig (CR:Addr):Sp:=fun vs H Q _=>∃(rd:Addr) (z:List Nat) (g:Nat),vs=[.ref rd]/\RdAt CR H rd z g/\z.length<=9000/\Q (.bl (digAt z g)) H
def NoD (r:List Nat):Prop:=∀c s,r=c::s->dig c=false
def spFigs (CR:Addr):Sp:=fun vs H Q _=>∃(rd:Addr) (z:List Nat) (g m:Nat) (r:List Nat),vs=[.ref rd]/\RdAt CR H rd z g/\z.length<=9000/\z.drop g=dg m++r/\NoD r/\m<10 ^ 13/\∀H',Kp rd H H'->RdAt CR H' rd z (g+(dg m).length)->Q (natV m) H'
def spNum_ (CR:Addr):Sp:=fun vs H Q _=>∃(rd:Addr) (z:List Nat) (g:Nat) (n:Int) (r:List Nat),vs=[.ref rd]/\RdAt CR H rd z g/\z.length<=9000/\z.drop g=itx n++r/\NoD r/\n.natAbs<10 ^ 13/\∀H',Kp rd H H'->RdAt CR H' rd z (g+(itx n).length)->Q (.int n) H'
theorem take1 {z:List Nat} {g c:Nat} {r:List Nat} (h:z.drop g=c::r):(z.drop g).take 1=[c]:=by rw [h];rfl
theorem at_drop {z:List Nat} {g c:Nat} {r:List Nat} (h:z.drop g=c::r):z[g]? =some c:=by
 have:=List.getElem?_drop (xs:=z) (i:=g) (j:=0)
 rw [h]at this
 simpa using this.symm
theorem drop_step {z:List Nat} {g:Nat} {w r:List Nat} (h:z.drop g=w++r):z.drop (g+w.length)=r:=by
 rw [<-List.drop_drop,h,List.drop_left]
theorem digs_mem:∀c:Nat,c∈sgn "0123456789"↔dig c=true:=by
 intro c
 unfold dig
 rw [decide_eq_true_iff,show sgn "0123456789"=[48,49,50,51,52,53,54,55,56,57]from rfl]
 simp only [List.mem_cons,List.not_mem_nil,or_false]
 omega
theorem lit2 {rd:Addr} {x:String} {l:List Nat} (h:(Str.ofString x).cps.toList=l):[V.ref rd,V.str (Str.ofString x)]=[V.ref rd,V.str (tx l)]:=by rw [lit_tx l h]
abbrev FR:List Str:=["text","gone"]
abbrev DR (P:Program) (w:World) (K:PySem.W.Frag) (mg:Str->Option Value) (base:Heap) (k:Nat) (CR:Addr) (m:Str) (ps:List Str) (sp:Sp):Prop:=Dis P w K mg base CX0 k (·=CR) m ps (fun _=>sp)
section
variable {P:Program} {w:World} {K:PySem.W.Frag} {mg:Str->Option Value} {base:Heap} {CR:Addr}
theorem scRAhead_:FnScope ["self"] ["self"] (defScope sRAhead_):=⟨rfl,rfl,rfl,by decide+kernel,rfl,by decide+kernel,by decide+kernel⟩
theorem ok_ahead {f:Addr} {fd:FuncData} (F:Fun K "ahead" "TermReader.ahead" sRAhead_ f fd) (c:Cf K CR FR):FnOk P w K mg base CX0 1 f fd ["self"] (spAhead CR):=by
 refine F.ok scRAhead_ (fun vs H Q E h=>?_) (fun cdv A outer s H vs Q E hr h=>?_)
 ·obtain⟨rd,z,g,rfl,_⟩:=h
  rfl
 ·obtain⟨rd,z,g,rfl,⟨dx,hp⟩,zl,q⟩:=h
  refine⟨_,(pss_one (ps_ret (pe_slice sl_str (pe_fld (pv 0) rfl) (po_some (pe_fld (pv 0) rfl)) (po_some (pe_op op_add (pe_fld (pv 0) rfl) pe_int))))),?_⟩
  have q':Q (.str (tx ((z.drop g).take (g+1-g)))) H:=by rw [show g+1-g=1 by omega];exact q
  exact⟨_,rfl,rd,CR,dx,_,_,rfl,hp,c.cl,c.na _ (by simp),rfl,_,rfl,rd,CR,dx,_,_,rfl,hp,c.cl,c.na _ (by simp),rfl,(g:Int),rfl,_,rfl,rd,CR,dx,_,_,rfl,hp,c.cl,c.na _ (by simp),rfl,_,_,rfl,rfl,((g+1:Nat):Int),rfl,z,g,g+1,rfl,rfl,rfl,by omega,line2 zl,q'⟩
theorem scRPass_:FnScope ["self","signs","sign"] ["self","signs"] (defScope sRPass_):=⟨rfl,rfl,rfl,by decide+kernel,rfl,by decide+kernel,by decide+kernel⟩
theorem ok_pass {f:Addr} {fd:FuncData} (F:Fun K "pass_by" "TermReader.pass_by" sRPass_ f fd) (c:Cf K CR FR) (D_ahead:DR P w K mg base 1 CR "ahead" ["self"] (spAhead CR)):FnOk P w K mg base CX0 2 f fd ["self","signs"] (spPass CR):=by
 refine F.ok scRPass_ (fun vs H Q E h=>?_) (fun cdv A outer s H vs Q E hr h=>?_)
 ·obtain⟨rd,z,w',g,r,rfl,_⟩:=h
  rfl
 ·obtain⟨rd,z,w',g,r,rfl,R,zl,asc,hz,q⟩:=h
  refine⟨_,(pss_one (ps_for PassesOwn.never rfl (pi_str (pv 1)) (pg_name (i:=2) scRPass_.nd rfl (Or.inl rfl)) (pss_cons (ps_if (pt_cmpR op_ne (pe_methD0 (pv 0) D_ahead (hr.mono (by omega)) pass0) (pv 2) (nomark _)) (pss_one ps_never) pss_nil) (pss_one (ps_fld (pv 0) (pe_op op_add (pe_fld (pv 0) rfl) pe_int) rfl))))),?_⟩
  refine⟨_,rfl,w',rfl,asc,?_⟩
  refine for_str (z:=w') (fun i σ H2=>∃v2,σ=[some (.ref rd),some (.str (tx w')),v2]/\Kp rd H H2/\RdAt CR H2 rd z (g+i)) ⟨_,rfl,Kp.of (Same.refl H),R⟩ ?_ ?_
  ·rintro i ch σ H2 hi ⟨v2,rfl,k2,dx,hp⟩
   have hd:z.drop (g+i)=ch::(w'.drop (i+1)++r):=by
    obtain⟨hlt,e⟩:=List.getElem?_eq_some_iff.mp hi
    rw [<-List.drop_drop,hz,List.drop_append_of_le_length (Nat.le_of_lt hlt),List.drop_eq_getElem_cons hlt,e]
    rfl
   refine⟨_,rfl,rd,CR,dx,_,rfl,hp,rfl,rfl,rd,z,g+i,rfl,⟨dx,hp⟩,zl,_,rfl,rfl,_,rfl,?_⟩
   rw [take1 hd]
   refine iteNS rfl ?_
   refine⟨_,rfl,rd,CR,dx,_,_,rfl,hp,c.cl,c.na _ (by simp),rfl,_,_,rfl,rfl,_,rfl,rd,CR,dx,_,rfl,hp,c.cl,c.na _ (by simp),by show(2:Nat)<1000;decide,?_⟩
   exact⟨_,rfl,k2.trans kpUpd,dx,upd_same⟩
  ·rintro σ H2 ⟨v2,rfl,k2,R2⟩
   exact q H2 k2 R2
theorem scRFig_:FnScope ["self"] ["self"] (defScope sRFig_):=⟨rfl,rfl,rfl,by decide+kernel,rfl,by decide+kernel,by decide+kernel⟩
theorem ok_fig {f:Addr} {fd:FuncData} {t0:Tok} (F:Fun K "figure_is_ahead" "TermReader.figure_is_ahead" sRFig_ f fd) (D_ahead:DR P w K mg base 1 CR "ahead" ["self"] (spAhead CR)) (g_FIGURES:mg "FIGURES"=some (.str "0123456789" t0)):FnOk P w K mg base CX0 2 f fd ["self"] (spFig CR):=by
 refine F.ok scRFig_ (fun vs H Q E h=>?_) (fun cdv A outer s H vs Q E hr h=>?_)
 ·obtain⟨rd,z,g,rfl,_⟩:=h
  rfl
 ·obtain⟨rd,z,g,rfl,R,zl,q⟩:=h
  have R':=R
  obtain⟨dx,hp⟩:=R'
  refine⟨_,(pss_one (ps_ret (pe_and (pe_cmpR op_ne (pe_methD0 (pv 0) D_ahead (hr.mono (by omega)) pass0) pe_str (nomark _)) (pe_one (pe_cmpR op_in_str (pe_methD0 (pv 0) D_ahead (hr.mono (by omega)) pass0) (pe_gstr rfl g_FIGURES) rfl))))),?_⟩
  refine⟨_,rfl,rd,CR,dx,_,rfl,hp,rfl,rfl,rd,z,g,rfl,R,zl,rfl,_,rfl,?_⟩
  cases hd:z.drop g with
  |nil=>
   have e:digAt z g=false:=by
    unfold digAt
    rw [show z[g]? =none from List.getElem?_eq_none (List.drop_eq_nil_iff.mp hd)]
   rw [e]at q
   exact iteF q
  |cons ch r=>
   have e:digAt z g=dig ch:=by unfold digAt;rw [at_drop hd]
   rw [e]at q
   refine iteTe (by rw [decide_eq_false fun z=>by have:=tx_inj ((V.str.inj z).trans (lit_tx [] rfl));cases this];rfl) ?_
   refine⟨_,rfl,rd,CR,dx,_,rfl,hp,rfl,rfl,rd,z,g,rfl,R,zl,_,_,rfl,rfl,?_⟩
   rw [take1 hd]
   have f1:=StrLaws.found_one (Str.ofString "0123456789") ch
   have f2:(!(Builtin.Str.occurrences (Str.ofString "0123456789") (tx [ch]) 0 (Str.ofString "0123456789").length 1).isEmpty)=dig ch:=by
    refine f1.trans ?_
    rw [Bool.eq_iff_iff,decide_eq_true_iff]
    exact digs_mem ch
   rw [f2]
   exact q
theorem scRFigs_:FnScope ["self","begin"] ["self"] (defScope sRFigs_):=⟨rfl,rfl,rfl,by decide+kernel,rfl,by decide+kernel,by decide+kernel⟩
theorem ok_figs {f:Addr} {fd:FuncData} (F:Fun K "read_figures" "TermReader.read_figures" sRFigs_ f fd) (c:Cf K CR FR) (D_ahead:DR P w K mg base 1 CR "ahead" ["self"] (spAhead CR)) (D_pass_by:DR P w K mg base 2 CR "pass_by" ["self","signs"] (spPass CR)) (D_figure_is_ahead:DR P w K mg base 2 CR "figure_is_ahead" ["self"] (spFig CR)) (T:Txt K mg):FnOk P w K mg base CX0 3 f fd ["self"] (spFigs CR):=by
 refine F.ok scRFigs_ (fun vs H Q E h=>?_) (fun cdv A outer s H vs Q E hr h=>?_)
 ·obtain⟨rd,z,g,m,r,rfl,_⟩:=h
  rfl
 ·obtain⟨rd,z,g,m,r,rfl,R,zl,hz,nd,hm,q⟩:=h
  obtain⟨dx,hp⟩:=R
  obtain⟨_,g_MOST_FIGURES⟩:=T.mfi
  refine⟨_,(pss_cons (ps_set (i:=1) scRFigs_.nd rfl (Or.inl rfl) (pe_fld (pv 0) rfl)) (pss_cons (ps_if (pt_not (pt_val (pe_methD0 (pv 0) D_figure_is_ahead (hr.mono (by omega)) pass0))) (pss_one ps_never) pss_nil) (pss_cons (ps_if (pt_cmpR op_eq (pe_methD0 (pv 0) D_ahead (hr.mono (by omega)) pass0) pe_str (nomark _)) (pss_cons (ps_expr (pe_methD (pv 0) D_pass_by (hr.mono (by omega)) pass0 (pa_cons pe_str pa_nil))) (pss_one (ps_ret pe_int))) pss_nil) (pss_cons (ps_while PassesOwn.never (PW.pt (pw_and (pt_val (pe_methD0 (pv 0) D_figure_is_ahead (hr.mono (by omega)) pass0)) (pw_and1 (pt_cmpR op_lt (pe_op op_sub (pe_fld (pv 0) rfl) (pv 1)) (pe_gint rfl g_MOST_FIGURES) (nomark _))))) (pss_one (ps_fld (pv 0) (pe_op op_add (pe_fld (pv 0) rfl) pe_int) rfl))) (pss_one (ps_ret (pe_callTy call_intS rfl T.int boot_int (pa_cons (pe_slice sl_str (pe_fld (pv 0) rfl) (po_some (pv 1)) (po_some (pe_fld (pv 0) rfl))) pa_nil)))))))),?_⟩
  have al:=dg_all m
  have ln:=dg_len 12 m hm
  obtain⟨ch,rs,ec⟩:∃c rs,dg m=c::rs:=by
   rcases Nat.eq_zero_or_pos m with h0|h0
   ·exact⟨48,[],by rw [h0,dg_zero]⟩
   ·obtain⟨c,r,e,_⟩:=dg_head m h0
    exact⟨c,r,e⟩
  have hd:z.drop g=ch::(rs++r):=by rw [hz,ec];rfl
  have dch:digAt z g=true:=by unfold digAt;rw [at_drop hd];exact decide_eq_true (al ch (by rw [ec];exact List.mem_cons_self))
  refine⟨_,rfl,rd,CR,dx,_,_,rfl,hp,c.cl,c.na _ (by simp),rfl,?_⟩
  refine⟨_,rfl,rd,CR,dx,_,rfl,hp,rfl,rfl,rd,z,g,rfl,⟨dx,hp⟩,zl,_,rfl,?_⟩
  rw [dch]
  refine iteF ?_
  refine⟨_,rfl,rd,CR,dx,_,rfl,hp,rfl,rfl,rd,z,g,rfl,⟨dx,hp⟩,zl,rfl,_,rfl,?_⟩
  rw [take1 hd]
  rcases Nat.eq_zero_or_pos m with h0|h0
  ·subst h0
   rw [dg_zero]at ec hz q
   cases ec
   refine iteTe (decide_eq_true (congrArg V.str (lit_tx [48] rfl).symm)) ?_
   refine⟨_,rfl,rd,CR,dx,_,rfl,hp,rfl,rfl,rd,z,[48],g,r,lit2 rfl,⟨dx,hp⟩,zl,by decide,hz,fun H1 k1 R1=>?_⟩
   exact q H1 k1 R1
  ·obtain⟨c',r',e',h49,h57⟩:=dg_head m h0
   rw [ec]at e'
   obtain⟨rfl,rfl⟩:=List.cons.inj e'
   refine iteFe (decide_eq_false fun x=>by have:=tx_inj ((V.str.inj x).trans (lit_tx [48] rfl));injection this with h1;omega) ?_
   refine⟨fun k σ H1=>∃i,k=(dg m).length-i/\i<=(dg m).length/\σ=[some (.ref rd),some (natV g)]/\Kp rd H H1/\RdAt CR H1 rd z (g+i),⟨_,0,rfl,Nat.zero_le _,rfl,Kp.of (Same.refl H),dx,hp⟩,?_⟩
   rintro k σ H1 ⟨i,rfl,hi,rfl,k1,dx1,hp1⟩
   refine⟨_,rfl,rd,CR,dx1,_,rfl,hp1,rfl,rfl,rd,z,g+i,rfl,⟨dx1,hp1⟩,zl,_,rfl,?_⟩
   have dr:z.drop (g+i)=(dg m).drop i++r:=by rw [<-List.drop_drop,hz,List.drop_append_of_le_length hi]
   by_cases lt:i<(dg m).length
   ·have hc:z[g+i]? =some (dg m)[i]:=at_drop (r:=(dg m).drop (i+1)++r) (by rw [dr,List.drop_eq_getElem_cons lt];rfl)
    have dd:digAt z (g+i)=true:=by unfold digAt;rw [hc];exact decide_eq_true (al _ (List.getElem_mem lt))
    rw [dd]
    refine iteT ?_
    refine⟨_,rfl,rd,CR,dx1,_,_,rfl,hp1,c.cl,c.na _ (by simp),rfl,_,rfl,_,_,rfl,rfl,_,_,rfl,rfl,_,rfl,?_⟩
    refine iteTe (decide_eq_true (by show((g+i:Nat):Int)-(g:Int)<13;omega)) ?_
    refine⟨fun σ' H'=>∃m',m'<(dg m).length-i/\_,fun _ _ z=>z,?_⟩
    refine⟨_,rfl,rd,CR,dx1,_,_,rfl,hp1,c.cl,c.na _ (by simp),rfl,_,_,rfl,rfl,_,rfl,rd,CR,dx1,_,rfl,hp1,c.cl,c.na _ (by simp),by show(2:Nat)<1000;decide,?_⟩
    exact⟨(dg m).length-(i+1),by omega,i+1,rfl,lt,rfl,k1.trans kpUpd,dx1,upd_same⟩
   ·have ei:i=(dg m).length:=by omega
    subst ei
    have dd:digAt z (g+(dg m).length)=false:=by
     rw [List.drop_of_length_le (Nat.le_refl _),List.nil_append]at dr
     unfold digAt
     cases r with
     |nil=>rw [show z[g+(dg m).length]? =none from List.getElem?_eq_none (List.drop_eq_nil_iff.mp dr)]
     |cons x y=>rw [at_drop dr];exact nd x y rfl
    rw [dd]
    refine iteF ?_
    have ct:(z.drop g).take (g+(dg m).length-g)=dg m:=by rw [show g+(dg m).length-g=(dg m).length by omega,hz,List.take_left]
    refine⟨_,rfl,rd,CR,dx1,_,_,rfl,hp1,c.cl,c.na _ (by simp),rfl,_,rfl,(g:Int),rfl,_,rfl,rd,CR,dx1,_,_,rfl,hp1,c.cl,c.na _ (by simp),rfl,((g+(dg m).length:Nat):Int),rfl,z,g,g+(dg m).length,rfl,rfl,rfl,by omega,line2 zl,?_⟩
    rw [ct]
    refine⟨dg m,rfl,by rw [ec];simp,al,by omega,?_⟩
    rw [dg_val]
    exact q H1 k1 ⟨dx1,hp1⟩
theorem scRNum_:FnScope ["self"] ["self"] (defScope sRNum_):=⟨rfl,rfl,rfl,by decide+kernel,rfl,by decide+kernel,by decide+kernel⟩
theorem ok_num {f:Addr} {fd:FuncData} (F:Fun K "read_number" "TermReader.read_number" sRNum_ f fd) (D_ahead:DR P w K mg base 1 CR "ahead" ["self"] (spAhead CR)) (D_pass_by:DR P w K mg base 2 CR "pass_by" ["self","signs"] (spPass CR)) (D_read_figures:DR P w K mg base 3 CR "read_figures" ["self"] (spFigs CR)):FnOk P w K mg base CX0 4 f fd ["self"] (spNum_ CR):=by
 refine F.ok scRNum_ (fun vs H Q E h=>?_) (fun cdv A outer s H vs Q E hr h=>?_)
 ·obtain⟨rd,z,g,n,r,rfl,_⟩:=h
  rfl
 ·obtain⟨rd,z,g,n,r,rfl,⟨dx,hp⟩,zl,hz,nd,hn,q⟩:=h
  refine⟨_,(pss_cons (ps_if (pt_cmpR op_ne (pe_methD0 (pv 0) D_ahead (hr.mono (by omega)) pass0) pe_str (nomark _)) (pss_one (ps_ret (pe_methD0 (pv 0) D_read_figures (hr.mono (by omega)) pass0))) pss_nil) (pss_cons (ps_expr (pe_methD (pv 0) D_pass_by (hr.mono (by omega)) pass0 (pa_cons pe_str pa_nil))) (pss_cons (ps_if (pt_cmpR op_eq (pe_methD0 (pv 0) D_ahead (hr.mono (by omega)) pass0) pe_str (nomark _)) (pss_one ps_never) pss_nil) (pss_one (ps_ret (pe_un un_neg (pe_methD0 (pv 0) D_read_figures (hr.mono (by omega)) pass0))))))),?_⟩
  refine⟨_,rfl,rd,CR,dx,_,rfl,hp,rfl,rfl,rd,z,g,rfl,⟨dx,hp⟩,zl,rfl,_,rfl,?_⟩
  cases n with
  |ofNat m=>
   rw [show Int.ofNat m=(m:Int)from rfl,itx_nat]at hz q
   obtain⟨ch,rs,ec,hc⟩:∃c rs,dg m=c::rs/\48<=c:=by
    rcases Nat.eq_zero_or_pos m with h0|h0
    ·exact⟨48,[],by rw [h0,dg_zero],by omega⟩
    ·obtain⟨c,r,e,h1,_⟩:=dg_head m h0
     exact⟨c,r,e,by omega⟩
   rw [take1 (c:=ch) (r:=rs++r) (by rw [hz,ec];rfl)]
   refine iteTe (by rw [decide_eq_false fun x=>by have:=tx_inj ((V.str.inj x).trans (lit_tx [45] rfl));injection this with h1;omega];rfl) ?_
   exact⟨_,rfl,rd,CR,dx,_,rfl,hp,rfl,rfl,rd,z,g,m,r,rfl,⟨dx,hp⟩,zl,hz,nd,hn,fun H1 k1 R1=>q H1 k1 R1⟩
  |negSucc m=>
   rw [itx_neg]at hz q
   rw [take1 (c:=45) (r:=dg (m+1)++r) (by rw [hz];rfl)]
   refine iteNS (congrArg V.str (lit_tx [45] rfl).symm) ?_
   refine⟨_,rfl,rd,CR,dx,_,rfl,hp,rfl,rfl,rd,z,[45],g,dg (m+1)++r,lit2 rfl,⟨dx,hp⟩,zl,by decide,hz,fun H1 k1 R1=>?_⟩
   obtain⟨dx1,hp1⟩:=R1
   have h2:z.drop (g+1)=dg (m+1)++r:=drop_step (w:=[45]) hz
   obtain⟨c',r',e',h49,h57⟩:=dg_head (m+1) (by omega)
   refine⟨_,rfl,rd,CR,dx1,_,rfl,hp1,rfl,rfl,rd,z,g+1,rfl,⟨dx1,hp1⟩,zl,rfl,_,rfl,?_⟩
   rw [take1 (c:=c') (r:=r'++r) (by rw [h2,e'];rfl)]
   refine iteFe (decide_eq_false fun x=>by have:=tx_inj ((V.str.inj x).trans (lit_tx [48] rfl));injection this with h1;omega) ?_
   refine⟨_,rfl,rd,CR,dx1,_,rfl,hp1,rfl,rfl,rd,z,g+1,m+1,r,rfl,⟨dx1,hp1⟩,zl,h2,nd,by simpa using hn,fun H2 k2 R2=>?_⟩
   refine⟨_,rfl,?_⟩
   refine q H2 (k1.trans k2) ?_
   rw [List.length_cons,show g+((dg (m+1)).length+1)=g+1+(dg (m+1)).length by omega]
   exact R2
end
end KY
namespace KY
open PySem PyProof.Rows L2
def tl:List Int->List Nat
 | []=>[]
 |s::r=>32::(itx s++tl r)
theorem glu_tl:∀(b:Int) (ss:List Int),glu [32] (itx b::ss.map itx)=itx b++tl ss
 |b,[]=>by simp [glu,tl]
 |b,s::r=>by rw [List.map_cons,glu,glu_tl s r];rfl
theorem txt_take (b:Int) (ss:List Int):txt (.take b ss)=91::(itx b++(tl ss++[93])):=by rw [txt,glu_tl,List.append_assoc]
theorem nod_cons {c:Nat} {r:List Nat} (h:dig c=false):NoD (c::r):=fun x s e=>by cases e;exact h
theorem nod_tl {ss:List Int} {r:List Nat}:NoD (tl ss++93::r):=by
 cases ss with
 |nil=>exact nod_cons rfl
 |cons s r=>exact nod_cons rfl
theorem Kp.freeR {CR:Addr} {a q:Addr} {H H':Hp} {z:List Nat} {g:Nat} (k:Kp a H H') (R:RdAt CR H' a z g) (hq:H' q=none):H q=none:=by
 obtain⟨dx,e⟩:=R
 cases h:H q with
 |none=>rfl
 |some o=>
  have:q≠a:=fun z=>by rw [z,e]at hq;cases hq
  rw [k q o h this]at hq
  cases hq
theorem rd_ne {CR:Addr} {H:Hp} {rd q:Addr} {z:List Nat} {g:Nat} {o:HO} (R:RdAt CR H rd z g) (h:H q=some o) (no:∀dx fs,o≠ .ins CR dx fs):q≠rd:=fun e=>by
 obtain⟨dx,e2⟩:=R
 rw [e,e2]at h
 cases h
 exact no _ _ rfl
theorem RdAt.new {CR:Addr} {H:Hp} {rd q:Addr} {z:List Nat} {g:Nat} {o:HO} (R:RdAt CR H rd z g) (h:q≠rd):RdAt CR (upd H q o) rd z g:=let⟨dx,e⟩:=R;⟨dx,by rw [upd_ne (Ne.symm h)];exact e⟩
def spTakeR (N:Cn) (CR:Addr):Sp:=fun vs H Q _=>∃(rd:Addr) (z:List Nat) (g:Nat) (b:Int) (ss:List Int) (r:List Nat),vs=[.ref rd]/\RdAt CR H rd z g/\z.length<=9000/\z.drop g=txt (.take b ss)++r/\GoodT (b,ss)/\1<=ss.length/\ss.length<=3/\∀(v':V) (H':Hp),Kp rd H H'->RdAt CR H' rd z (g+(txt (.take b ss)).length)->TrmAt N H' (.take b ss) v'->Q v' H'
section
variable {P:Program} {w:World} {K:PySem.W.Frag} {mg:Str->Option Value} {base:Heap} {CR:Addr} {N:Cn}
theorem scRTake_:FnScope ["self","back","steps"] ["self"] (defScope sRTake_):=⟨rfl,rfl,rfl,by decide+kernel,rfl,by decide+kernel,by decide+kernel⟩
theorem ok_rtake {f:Addr} {fd:FuncData} (F:Fun K "read_take" "TermReader.read_take" sRTake_ f fd) (D_ahead:DR P w K mg base 1 CR "ahead" ["self"] (spAhead CR)) (D_pass_by:DR P w K mg base 2 CR "pass_by" ["self","signs"] (spPass CR)) (D_read_number:DR P w K mg base 4 CR "read_number" ["self"] (spNum_ CR)) (R_take:Mkr P w K mg base N.take "Take" ["self","back","steps"] (spI2 K "back" "steps")) (c2:Cf K N.take ["back","steps"]) (T:Txt K mg):FnOk P w K mg base CX0 5 f fd ["self"] (spTakeR N CR):=by
 refine F.ok scRTake_ (fun vs H Q E h=>?_) (fun cdv A outer s H vs Q E hr h=>?_)
 ·obtain⟨rd,z,g,b,ss,r,rfl,_⟩:=h
  rfl
 ·obtain⟨rd,z,g,b,ss,r,rfl,R,zl,hz,⟨b1,b3,bd⟩,l1,l3,q⟩:=h
  obtain⟨_,g_MOST_STEPS_term_texts⟩:=T.mst2
  simp only at b1 b3 bd
  refine⟨_,(pss_cons (ps_expr (pe_methD (pv 0) D_pass_by (hr.mono (by omega)) pass0 (pa_cons pe_str pa_nil))) (pss_cons (ps_set (i:=1) scRTake_.nd rfl (Or.inl rfl) (pe_methD0 (pv 0) D_read_number (hr.mono (by omega)) pass0)) (pss_cons (ps_expr (pe_methD (pv 0) D_pass_by (hr.mono (by omega)) pass0 (pa_cons pe_str pa_nil))) (pss_cons (ps_set (i:=2) scRTake_.nd rfl (Or.inl rfl) (pe_lst (pa_cons (pe_methD0 (pv 0) D_read_number (hr.mono (by omega)) pass0) pa_nil))) (pss_cons (ps_while PassesOwn.never (PW.pt (pw_and (pt_cmpR op_eq (pe_methD0 (pv 0) D_ahead (hr.mono (by omega)) pass0) pe_str (nomark _)) (pw_and1 (pt_cmpR op_lt (pe_callB call_len_seq (by rfl) T.len PySem.boot_len (pa_cons (pv 2) pa_nil)) (pe_gint rfl g_MOST_STEPS_term_texts) (nomark _))))) (pss_cons (ps_expr (pe_methD (pv 0) D_pass_by (hr.mono (by omega)) pass0 (pa_cons pe_str pa_nil))) (pss_one (ps_expr (pe_bm PySem.F.plainAttrs_list PySem.F.slot_list_append PySem.F.type_list_append mt_append (pv 2) (pa_cons (pe_methD0 (pv 0) D_read_number (hr.mono (by omega)) pass0) pa_nil)))))) (pss_cons (ps_expr (pe_methD (pv 0) D_pass_by (hr.mono (by omega)) pass0 (pa_cons pe_str pa_nil))) (pss_one (ps_ret (pe_mk R_take (hr.mono (by omega)) rfl pass0 (pa_cons (pv 1) (pa_cons (pe_callTy call_tuple_of rfl T.tuple boot_tuple (pa_cons (pv 2) pa_nil)) pa_nil))))))))))),?_⟩
  obtain⟨s0,sr,rfl⟩:∃s0 sr,ss=s0::sr:=by
   cases ss with
   |nil=>simp at l1
   |cons a b=>exact⟨a,b,rfl⟩
  rw [txt_take]at hz q
  have R':=R
  obtain⟨dx,hp⟩:=R'
  have z0:z.drop g=[91]++(itx b++(tl (s0::sr)++(93::r))):=by rw [hz];simp
  refine⟨_,rfl,rd,CR,dx,_,rfl,hp,rfl,rfl,rd,z,[91],g,_,lit2 rfl,R,zl,by decide,z0,fun H1 k1 R1=>?_⟩
  have z1:=drop_step z0
  obtain⟨dx1,hp1⟩:=id R1
  refine⟨_,rfl,rd,CR,dx1,_,rfl,hp1,rfl,rfl,rd,z,_,b,_,rfl,R1,zl,z1,nod_tl,by omega,fun H2 k2 R2=>?_⟩
  have z2:=drop_step z1
  obtain⟨dx2,hp2⟩:=id R2
  refine⟨_,rfl,rd,CR,dx2,_,rfl,hp2,rfl,rfl,rd,z,[32],_,itx s0++(tl sr++93::r),lit2 rfl,R2,zl,by decide,by rw [z2];simp [tl],fun H3 k3 R3=>?_⟩
  have z3:z.drop (g+ [91].length+(itx b).length+ [32].length)=itx s0++(tl sr++93::r):=drop_step (w:=[32]) (by rw [z2];simp [tl])
  obtain⟨dx3,hp3⟩:=id R3
  have hs0:=good_small (bd s0 List.mem_cons_self)
  refine⟨_,rfl,rd,CR,dx3,_,rfl,hp3,rfl,rfl,rd,z,_,s0,_,rfl,R3,zl,z3,nod_tl,hs0,fun H4 k4 R4=>?_⟩
  have z4:=drop_step z3
  have k04:=((k1.trans k2).trans k3).trans k4
  refine⟨by show 1<=sizeLine;decide,fun D nD=>?_⟩
  have Dr:D≠rd:=fun e=>by obtain⟨_,e4⟩:=id R4;rw [e,e4]at nD;cases nD
  have nH:=k04.freeR R4 nD
  refine⟨fun k σ H5=>∃(i p:Nat),k=sr.length-i/\i<=sr.length/\σ=[some (.ref rd),some (.int b),some (.ref D)]/\Kp rd H H5/\RdAt CR H5 rd z p/\H5 D=some (.lst ((s0::sr.take i).map V.int))/\z.drop p=tl (sr.drop i)++93::r/\p+(tl (sr.drop i)).length=g+1+(itx b).length+(tl (s0::sr)).length,⟨_,0,_,rfl,Nat.zero_le _,rfl,k04.upd nH,R4.new Dr,upd_same,z4,?_⟩,?_⟩
  ·simp only [List.drop_zero,tl,List.length_cons,List.length_append,List.length_nil]
   omega
  rintro k σ H5 ⟨i,p,rfl,hi,rfl,k5,R5,hD,z5,hl⟩
  obtain⟨dx5,hp5⟩:=id R5
  refine⟨_,rfl,rd,CR,dx5,_,rfl,hp5,rfl,rfl,rd,z,p,rfl,R5,zl,rfl,_,rfl,?_⟩
  by_cases lt:i<sr.length
  ·have ed:sr.drop i=sr[i]::sr.drop (i+1):=List.drop_eq_getElem_cons lt
   rw [ed,tl]at z5 hl
   rw [take1 (c:=32) z5]
   refine iteTe (decide_eq_true (congrArg V.str (lit_tx [32] rfl).symm)) ?_
   have hs:=good_small (bd sr[i] (List.mem_cons_of_mem _ (List.getElem_mem lt)))
   rw [List.length_cons]at l3
   refine⟨_,rfl,D,_,rfl,.inl (SqL.of hD),_,_,rfl,rfl,_,rfl,?_⟩
   refine iteTe (decide_eq_true (by rw [List.length_map,List.length_cons,List.length_take];show((min i sr.length+1:Nat):Int)<3;omega)) ?_
   refine⟨fun σ' H'=>∃m',m'<sr.length-i/\_,fun _ _ z=>z,?_⟩
   have z5':z.drop p=[32]++(itx sr[i]++(tl (sr.drop (i+1))++93::r)):=by rw [z5];simp
   refine⟨_,rfl,rd,CR,dx5,_,rfl,hp5,rfl,rfl,rd,z,[32],p,_,lit2 rfl,R5,zl,by decide,z5',fun H6 k6 R6=>?_⟩
   have z6:=drop_step z5'
   obtain⟨dx6,hp6⟩:=id R6
   have hD6:H6 D=some (.lst ((s0::sr.take i).map V.int)):=k6 _ _ hD Dr
   refine⟨_,rfl,.inl ⟨rfl,_,SqL.of hD6⟩,_,rfl,rd,CR,dx6,_,rfl,hp6,rfl,rfl,rd,z,_,sr[i],_,rfl,R6,zl,z6,nod_tl,hs,fun H7 k7 R7=>?_⟩
   have z7:=drop_step z6
   have hD7:H7 D=some (.lst ((s0::sr.take i).map V.int)):=k7 _ _ (k6 _ _ hD Dr) Dr
   refine⟨D,_,_,rfl,rfl,hD7,small (by rw [List.length_map,List.length_cons,List.length_take];omega),?_⟩
   refine⟨sr.length-(i+1),by omega,i+1,_,rfl,lt,rfl,((k5.trans k6).trans k7).upd nH,R7.new Dr,?_,z7,?_⟩
   ·rw [upd_same]
    show some (HO.lst ((s0::sr.take i).map V.int++[V.int sr[i]]))=_
    rw [List.take_succ,List.getElem?_eq_getElem lt, <-List.cons_append,List.map_append]
    rfl
   ·simp only [List.length_cons,List.length_append,List.length_nil]at hl⊢
    omega
  ·have ei:i=sr.length:=by omega
   subst ei
   rw [List.drop_of_length_le (Nat.le_refl _)]at z5 hl
   rw [take1 (c:=93) z5]
   refine iteFe (decide_eq_false fun x=>by have:=tx_inj ((V.str.inj x).trans (lit_tx [32] rfl));injection this with h1;omega) ?_
   have z5':z.drop p=[93]++r:=z5
   refine⟨_,rfl,rd,CR,dx5,_,rfl,hp5,rfl,rfl,rd,z,[93],p,_,lit2 rfl,R5,zl,by decide,z5',fun H6 k6 R6=>?_⟩
   have hD6:H6 D=some (.lst ((s0::sr).map V.int)):=by have:=k6 _ _ hD Dr;rw [List.take_length]at this;exact this
   refine⟨_,rfl,_,rfl,D,_,rfl,.inl ⟨SqL.of hD6,fun u nu=>?_⟩⟩
   generalize e:upd H6 u _=H7
   obtain⟨s7,e7⟩:=new_of nu e
   refine fun x dx nx nd ne=>⟨x,N.take,dx,.int b,.ref u,rfl,upd_same,c2,rfl,?_⟩
   have sN:Same H7 (upd (upd (upd (upd H7 dx (.own x)) x (.ins N.take dx [])) x (.ins N.take dx [("back",.int b)])) x (.ins N.take dx [("back",.int b),("steps",.ref u)])):=sameUpd nx (new3 nx nd)
   refine q _ _ (((k5.trans k6).same s7).same sN) ?_ ⟨x,dx,_,rfl,upd_same,u,rfl,sN _ _ e7⟩
   have:p+ [93].length=g+(91::(itx b++(tl (s0::sr)++[93]))).length:=by
    simp only [List.length_cons,List.length_append,List.length_nil,tl]at hl⊢
    omega
   rw [<-this]
   exact(R6.same s7).same sN
theorem pe_bmK {X:Cx} {K:PySem.W.Frag} {o e:Expr} {es:List Expr} {to:TE} {t:TA} {name:Str} {apos cpos:Pos} {T id:String} {r:V->List V->Hp->VK->Prop} (h:X.K=K) (pa:PlainAttrs T) (slot:Slot T name id) (hty:typeOf (.builtin id)=pure (.type "method_descriptor")) (hm:MtR X id r) (ho:PE X o to) (ha:PA X (e::es) t)
  (hbase:attributeBase o name X.env (eval o X.env)=eval o X.env:=by rfl)
  (hfew:((backTo cpos (starEach (e::es) X.env)).all (fun x=> !x.1) && (backToKw cpos (keywordEach [] X.env)).all (fun x=>x.1.isSome)
   && decide ((e::es).length+([]:List Keyword).length+(if([]:List Keyword).isEmpty then 0 else 1)<30))=true:=by rfl)
  (hline:(apos.endLine==cpos.line)=true:=by rfl) (hs:starEach (e::es) X.env=(false,eval e X.env)::starEach es X.env:=by rfl) (hplain:(backTo cpos (starEach es X.env)).any (·.1)=false:=by rfl):PE X (.Call (.Attribute o name apos) (e::es) [] cpos) (tBM K T r to t):=by
 subst h
 exact pe_bm pa slot hty hm ho ha hbase hfew hline hs hplain
def wl:List (List Nat):=[[43],[45],[42],[109,105,110],[109,97,120],[114,101,115,116],[63]]
def Words (K:PySem.W.Frag) (aW:Addr):Prop:=∀H:Hp,SqT K H aW (wl.map fun l=>V.str (tx l))
def spWord (CR:Addr):Sp:=fun vs H Q _=>∃(rd:Addr) (z:List Nat) (g:Nat) (x r:List Nat),vs=[.ref rd]/\RdAt CR H rd z g/\z.length<=9000/\x∈wl/\z.drop g=x++r/\∀H',Kp rd H H'->RdAt CR H' rd z (g+x.length)->Q (.str (tx x)) H'
theorem inV_tx (x:List Nat) (ls:List (List Nat)):inV (.str (tx x)) (ls.map fun l=>V.str (tx l))=decide (x∈ls):=by
 rw [Bool.eq_iff_iff,decide_eq_true_iff]
 unfold inV
 rw [List.any_eq_true]
 constructor
 ·rintro⟨y,hy,e⟩
  obtain⟨l,hl,rfl⟩:=List.mem_map.mp hy
  have:tx l=tx x:=by simpa [eqV]using e
  rw [<-tx_inj this]
  exact hl
 ·intro h
  exact⟨_,List.mem_map.mpr ⟨x,h,rfl⟩,by simp [eqV]⟩
theorem wl_pre:∀x∈wl,∀k:Nat,k<x.length->x.take k∉wl:=by decide
theorem wl_asc:∀x∈wl,∀c∈x,c<128:=by decide
theorem wl_len:∀x∈wl,x.length<=4:=by decide
abbrev NRWord_:List Str:=["self","begun","longer"]
theorem scRWord_:FnScope ["self","begun","longer"] ["self"] (defScope sRWord_):=⟨rfl,rfl,rfl,by decide+kernel,rfl,by decide+kernel,by decide+kernel⟩
theorem ok_word {f aW:Addr} {fd:FuncData} (F:Fun K "read_word" "TermReader.read_word" sRWord_ f fd) (D_ahead:DR P w K mg base 1 CR "ahead" ["self"] (spAhead CR)) (D_pass_by:DR P w K mg base 2 CR "pass_by" ["self","signs"] (spPass CR)) (g_WORDS:mg "WORDS"=some (.ref aW)) (W_:Words K aW) (T:Txt K mg):FnOk P w K mg base CX0 3 f fd ["self"] (spWord CR):=by
 refine F.ok scRWord_ (fun vs H Q E h=>?_) (fun cdv A outer s H vs Q E hr h=>?_)
 ·obtain⟨rd,z,g,x,r,rfl,_⟩:=h
  rfl
 ·obtain⟨rd,z,g,x,r,rfl,R,zl,hx,hz,q⟩:=h
  refine⟨_,(pss_cons (ps_set (i:=1) scRWord_.nd rfl (Or.inl rfl) pe_str) (pss_cons (ps_while PassesOwn.never (pt_cmpR op_notIn_seq (pv 1) (pe_gref rfl g_WORDS) rfl) (pss_cons (ps_set (i:=2) scRWord_.nd rfl (Or.inr rfl) (pe_op op_addS (pv 1) (pe_methD0 (pv 0) D_ahead (hr.mono (by omega)) pass0))) (pss_cons (ps_if (PW.pt (pw_or (pt_cmpR op_eq (pv 2) (pv 1) (nomark _)) (pw_or1 (pt_not (pt_val (pe_callB call_any rfl T.any boot_any (pa_cons (pe_cp (own:=["word"]) (cap:=[("longer",2)]) (g:=gName 0) (defScope sRWord_) NRWord_ rfl rfl (fun x h=>cell_has h) (by decide+kernel) rfl (pi_tup (pe_gref rfl g_WORDS)) (fun cl C s2 H2 fp=>(pg_name (i:=0) (show(["word","longer"]:List Str).Nodup by decide+kernel) rfl (Or.inl rfl) (Or.inr rfl))) (fun cl C s2 H2 fp=>(pe_bmK (K:=K) rfl PySem.F.plainAttrs_str PySem.F.slot_str_startswith PySem.F.type_str_startswith mt_starts (pv 0) (pa_cons (pv 1) pa_nil)))) pa_nil))))))) (pss_one ps_never) pss_nil) (pss_cons (ps_expr (pe_methD (pv 0) D_pass_by (hr.mono (by omega)) pass0 (pa_cons (pe_methD0 (pv 0) D_ahead (hr.mono (by omega)) pass0) pa_nil))) (pss_one (ps_set (i:=1) scRWord_.nd rfl (Or.inl rfl) (pv 2))))))) (pss_one (ps_ret (pv 1))))),?_⟩
  have xl:=wl_len x hx
  refine⟨fun k σ H1=>∃i v2,k=x.length-i/\i<=x.length/\σ=[some (.ref rd),some (.str (tx (x.take i))),v2]/\Kp rd H H1/\RdAt CR H1 rd z (g+i),⟨_,0,_,rfl,Nat.zero_le _,by rw [show Str.ofString ""=tx []from lit_tx [] rfl];rfl,Kp.of (Same.refl H),R⟩,?_⟩
  rintro k σ H1 ⟨i,v2,rfl,hi,rfl,k1,R1⟩
  obtain⟨dx1,hp1⟩:=id R1
  refine⟨_,rfl,aW,_,rfl,.inr (W_ H1),rfl,rfl,_,rfl,?_⟩
  rw [inV_tx]
  rcases Nat.lt_or_ge i x.length with lt|ge
  ·refine iteTe (by rw [decide_eq_false (wl_pre x hx i lt)];rfl) ?_
   refine⟨fun σ' H'=>∃m',m'<x.length-i/\_,fun _ _ z=>z,?_⟩
   have hd:z.drop (g+i)=[x[i]]++(x.drop (i+1)++r):=by rw [<-List.drop_drop,hz,List.drop_append_of_le_length hi,List.drop_eq_getElem_cons lt];rfl
   have hc:=wl_asc x hx _ (List.getElem_mem lt)
   have e1:x.take i++[x[i]]=x.take (i+1):=by rw [List.take_succ,List.getElem?_eq_getElem lt];rfl
   refine⟨_,rfl,_,rfl,rd,CR,dx1,_,rfl,hp1,rfl,rfl,rd,z,g+i,rfl,R1,zl,?_⟩
   rw [take1 hd]
   refine add_tx rfl rfl (by rw [List.length_take];show _+1<=9000;omega) ?_
   rw [e1]
   refine⟨_,rfl,_,rfl,rfl,_,rfl,?_⟩
   refine iteFe (decide_eq_false fun e=>?_) ?_
   ·have:=congrArg List.length (tx_inj (V.str.inj e))
    rw [List.length_take,List.length_take]at this
    omega
   have xt:(x.take (i+1)).length=i+1:=by rw [List.length_take];omega
   generalize ey:x.take (i+1)=y
   rw [ey]at xt
   refine⟨aW,rfl,⟨_,W_ H1⟩,fun D hD=>?_⟩
   refine comp_tup (K:=K) (a:=aW) (xs:=wl.map fun l=>V.str (tx l)) (fun j acc σ H3=>(∃v0,σ=[v0,some (.str (tx y))])/\Same H1 H3/\H3 D=some (.lst acc)/\acc=((wl.take j).map fun l=>decide (l.take y.length=y)).map V.bl) ⟨⟨_,rfl⟩,sameNew hD,upd_same,rfl⟩ (fun j acc σ H3 _ _=>W_ H3) ?_ ?_
   ·rintro j v acc σ H3 hj hv ⟨⟨v0,rfl⟩,s3,hD3,rfl⟩
    obtain⟨l,rfl,hl⟩:=get_map hv
    refine⟨_,rfl,rfl,_,rfl,l,y,rfl,rfl,?_⟩
    refine cturn hD3 (small (by rw [List.length_map,List.length_map,List.length_take];have:wl.length=7:=rfl;omega)) hj ⟨⟨_,rfl⟩,sameUpd hD s3,upd_same,?_⟩
    rw [List.take_succ,hl,List.map_append,List.map_append]
    rfl
   ·rintro acc σ H3 ⟨_,s3,hD3,rfl⟩
    rw [List.length_map,List.take_length]at hD3
    refine⟨D,_,rfl,SqL.of hD3,rfl,?_⟩
    have an:(wl.map fun l=>decide (l.take y.length=y)).any id=true:=by
     rw [List.any_eq_true]
     exact⟨_,List.mem_map.mpr ⟨x,hx,rfl⟩,by rw [xt,ey];simp⟩
    rw [an]
    refine⟨_,rfl,?_⟩
    refine iteF ?_
    have R3:=R1.same s3
    obtain⟨dx3,hp3⟩:=id R3
    refine⟨_,rfl,rd,CR,dx3,_,rfl,hp3,rfl,rfl,_,rfl,rd,CR,dx3,_,rfl,hp3,rfl,rfl,rd,z,g+i,rfl,R3,zl,?_⟩
    rw [take1 hd]
    refine⟨rd,z,[x[i]],g+i,_,rfl,R3,zl,fun c hc'=>by rw [List.mem_singleton.mp hc'];exact hc,hd,fun H4 k4 R4=>?_⟩
    refine⟨_,rfl,x.length-(i+1),by omega,i+1,some (.str (tx y)),rfl,lt,?_,(k1.same s3).trans k4,R4⟩
    rw [ey]
    rfl
  ·have ei:i=x.length:=by omega
   subst ei
   rw [List.take_length]
   refine iteFe (by rw [decide_eq_true hx];rfl) ?_
   exact⟨_,rfl,q H1 k1 R1⟩
end
end KY
namespace KY
open PySem PyProof.Rows L2
def spl:Tm->Option (Tm×List Nat×List Nat)
 | .rest t y=>some (t,[114,101,115,116],itx y)
 | .cho a b c=>some (a,[63],txt b++([32,58,32]++txt c))
 | .bin k a b=>some (a,sgn (opn k),txt b)
 |_=>none
theorem spl_txt:∀{t a:Tm} {x y:List Nat},spl t=some (a,x,y)->txt t=40::(txt a++(32::(x++(32::(y++[41])))))
 | .rest t y,_,_,_,h=>by cases h;simp [txt]
 | .cho a b c,_,_,_,h=>by cases h;simp [txt]
 | .bin k a b,_,_,_,h=>by cases h;simp [txt]
theorem opn_wl (k:Fin 5):sgn (opn k)∈wl/\sgn (opn k)≠[114,101,115,116]/\sgn (opn k)≠[63]:=by
 match k with
 |0=>decide
 |1=>decide
 |2=>decide
 |3=>decide
 |4=>decide
theorem spl_wl:∀{t a:Tm} {x y:List Nat},spl t=some (a,x,y)->x∈wl/\a∈kids t
 | .rest t y,_,_,_,h=>by cases h;exact⟨by decide,by simp [kids]⟩
 | .cho a b c,_,_,_,h=>by cases h;exact⟨by decide,by simp [kids]⟩
 | .bin k a b,_,_,_,h=>by cases h;exact⟨(opn_wl k).1,by simp [kids]⟩
def NotR (N:Cn) (CR:Addr):Prop:=∀t:Tm,cls N t≠CR
theorem kp_ins {N:Cn} {CR:Addr} {H H':Hp} {rd p dx:Addr} {z:List Nat} {g:Nat} {t:Tm} {fs:List (Str×V)} (n:NotR N CR) (R:RdAt CR H rd z g) (k:Kp rd H H') (h:H p=some (.ins (cls N t) dx fs)):H' p=some (.ins (cls N t) dx fs):=k _ _ h (rd_ne R h fun _ _ e=>by injection e with e1;exact n t e1)
theorem FldAt.kp {N:Cn} {CR:Addr} {H H':Hp} {rd:Addr} {z:List Nat} {g:Nat} (n:NotR N CR) (R:RdAt CR H rd z g) (s:Kp rd H H'):∀{t:Tm} {fs:List (Str×V)},FldAt N H fs t->FldAt N H' fs t
 | .num _,_,h=>h
 | .take _ _,_,⟨q,e,h⟩=>⟨q,e,s _ _ h (rd_ne R h fun _ _ e=>by cases e)⟩
 | .rest _ _,_,⟨p,dx,gs,e,h,h2⟩=>⟨p,dx,gs,e,kp_ins n R s h,h2.kp n R s⟩
 | .cho _ _ _,_,⟨p,dp,ps,q,dq,qs,r,dr,rs,e,⟨h1,g1⟩,⟨h2,g2⟩,h3,g3⟩=>⟨p,dp,ps,q,dq,qs,r,dr,rs,e,⟨kp_ins n R s h1,g1.kp n R s⟩,⟨kp_ins n R s h2,g2.kp n R s⟩,kp_ins n R s h3,g3.kp n R s⟩
 | .bin _ _ _,_,⟨p,dp,ps,q,dq,qs,e,⟨h1,g1⟩,h2,g2⟩=>⟨p,dp,ps,q,dq,qs,e,⟨kp_ins n R s h1,g1.kp n R s⟩,kp_ins n R s h2,g2.kp n R s⟩
theorem TrmAt.kp {N:Cn} {CR:Addr} {H H':Hp} {rd:Addr} {z:List Nat} {g:Nat} (n:NotR N CR) (R:RdAt CR H rd z g) (s:Kp rd H H') {t:Tm} {v:V} (h:TrmAt N H t v):TrmAt N H' t v:=let⟨p,dx,fs,e,h1,h2⟩:=h;⟨p,dx,fs,e,kp_ins n R s h1,h2.kp n R s⟩
def spPairBy (N:Cn):Sp:=fun vs H Q _=>∃(k:Fin 5) (a b:Tm) (va vb:V),vs=[.str (opn k),va,vb]/\TrmAt N H a va/\TrmAt N H b vb/\∀(v':V) (H':Hp),Same H H'->TrmAt N H' (.bin k a b) v'->Q v' H'
def spBehind (N:Cn) (CR:Addr) (d:Nat):Sp:=fun vs H Q _=>∃(rd:Addr) (z:List Nat) (g:Nat) (t a:Tm) (x y r:List Nat) (va:V) (wi:Nat),vs=[.ref rd,va,.str (tx x),natV wi]/\RdAt CR H rd z g/\z.length<=9000/\spl t=some (a,x,y)/\z.drop g=y++(41::r)/\TrmAt N H a va/\ht t<=d+1/\wi+d<=12/\TxOk t/\∀(v':V) (H':Hp),Kp rd H H'->RdAt CR H' rd z (g+y.length)->TrmAt N H' t v'->Q v' H'
def spPart (N:Cn) (CR:Addr) (d:Nat):Sp:=fun vs H Q _=>∃(rd:Addr) (z:List Nat) (g:Nat) (t:Tm) (r:List Nat) (wi:Nat),vs=[.ref rd,natV wi]/\RdAt CR H rd z g/\z.length<=9000/\z.drop g=txt t++r/\NoD r/\ht t<=d/\wi+d<=12/\TxOk t/\∀(v':V) (H':Hp),Kp rd H H'->RdAt CR H' rd z (g+(txt t).length)->TrmAt N H' t v'->Q v' H'
def spBracket (N:Cn) (CR:Addr) (d:Nat):Sp:=fun vs H Q _=>∃(rd:Addr) (z:List Nat) (g:Nat) (t a:Tm) (x y r:List Nat) (wi:Nat),vs=[.ref rd,natV wi]/\RdAt CR H rd z g/\z.length<=9000/\spl t=some (a,x,y)/\z.drop g=txt t++r/\ht t<=d+1/\wi+d+1<=12/\TxOk t/\∀(v':V) (H':Hp),Kp rd H H'->RdAt CR H' rd z (g+(txt t).length)->TrmAt N H' t v'->Q v' H'
structure MkAll (P:Program) (w:World) (K:PySem.W.Frag) (mg:Str->Option Value) (base:Heap) (N:Cn):Prop where
 num:Mkr P w K mg base N.num "Number" ["self","value"] (spI1 K "value")
 take:Mkr P w K mg base N.take "Take" ["self","back","steps"] (spI2 K "back" "steps")
 rest:Mkr P w K mg base N.rest "Rest" ["self","one","by"] (spI2 K "one" "by")
 cho:Mkr P w K mg base N.cho "Chosen" ["self","test","one","other"] (spI3 K "test" "one" "other")
 bin:∀k,Mkr P w K mg base (N.bin k) (bnm k) ["self","one","other"] (spI2 K "one" "other")
 c1:Cf K N.num ["value"]
 c2:Cf K N.take ["back","steps"]
 c3:Cf K N.rest ["one","by"]
 c4:Cf K N.cho ["test","one","other"]
 c5:∀k,Cf K (N.bin k) ["one","other"]
section
variable {P:Program} {w:World} {K:PySem.W.Frag} {mg:Str->Option Value} {base:Heap} {CR:Addr} {N:Cn}
theorem scPair:FnScope ["word","one","other"] ["word","one","other"] (defScope sPair):=⟨rfl,rfl,rfl,by decide+kernel,rfl,by decide+kernel,by decide+kernel⟩
theorem ok_pairBy {f:Addr} {fd:FuncData} (F:Fun K "pair_by" "pair_by" sPair f fd) (M:MkAll P w K mg base N):FnOk P w K mg base CX0 3 f fd ["word","one","other"] (spPairBy N):=by
 refine F.ok scPair (fun vs H Q E h=>?_) (fun cdv A outer s H vs Q E hr h=>?_)
 ·obtain⟨k,a,b,va,vb,rfl,_⟩:=h
  rfl
 ·obtain⟨k,a,b,va,vb,rfl,ta,tb,q⟩:=h
  have R_bin:=M.bin
  refine⟨_,(pss_cons (ps_if (pt_cmpR op_eq (pv 0) pe_str (nomark _)) (pss_one (ps_ret (pe_mk (R_bin 0) (hr.mono (by omega)) rfl pass0 (pa_cons (pv 1) (pa_cons (pv 2) pa_nil))))) pss_nil) (pss_cons (ps_if (pt_cmpR op_eq (pv 0) pe_str (nomark _)) (pss_one (ps_ret (pe_mk (R_bin 1) (hr.mono (by omega)) rfl pass0 (pa_cons (pv 1) (pa_cons (pv 2) pa_nil))))) pss_nil) (pss_cons (ps_if (pt_cmpR op_eq (pv 0) pe_str (nomark _)) (pss_one (ps_ret (pe_mk (R_bin 2) (hr.mono (by omega)) rfl pass0 (pa_cons (pv 1) (pa_cons (pv 2) pa_nil))))) pss_nil) (pss_cons (ps_if (pt_cmpR op_eq (pv 0) pe_str (nomark _)) (pss_one (ps_ret (pe_mk (R_bin 3) (hr.mono (by omega)) rfl pass0 (pa_cons (pv 1) (pa_cons (pv 2) pa_nil))))) pss_nil) (pss_one (ps_ret (pe_mk (R_bin 4) (hr.mono (by omega)) rfl pass0 (pa_cons (pv 1) (pa_cons (pv 2) pa_nil))))))))),?_⟩
  match k,q with
  |0,q=>
   refine⟨_,rfl,rfl,_,rfl,iteTe (decide_eq_true rfl) ?_⟩
   exact⟨_,rfl,_,rfl,bin_done (M.c5 0) ta tb (Same.refl H) q⟩
  |1,q=>
   refine⟨_,rfl,rfl,_,rfl,iteFe sF ?_⟩
   refine⟨_,rfl,rfl,_,rfl,iteTe (decide_eq_true rfl) ?_⟩
   exact⟨_,rfl,_,rfl,bin_done (M.c5 1) ta tb (Same.refl H) q⟩
  |2,q=>
   refine⟨_,rfl,rfl,_,rfl,iteFe sF ?_⟩
   refine⟨_,rfl,rfl,_,rfl,iteFe sF ?_⟩
   refine⟨_,rfl,rfl,_,rfl,iteTe (decide_eq_true rfl) ?_⟩
   exact⟨_,rfl,_,rfl,bin_done (M.c5 2) ta tb (Same.refl H) q⟩
  |3,q=>
   refine⟨_,rfl,rfl,_,rfl,iteFe sF ?_⟩
   refine⟨_,rfl,rfl,_,rfl,iteFe sF ?_⟩
   refine⟨_,rfl,rfl,_,rfl,iteFe sF ?_⟩
   refine⟨_,rfl,rfl,_,rfl,iteTe (decide_eq_true rfl) ?_⟩
   exact⟨_,rfl,_,rfl,bin_done (M.c5 3) ta tb (Same.refl H) q⟩
  |4,q=>
   refine⟨_,rfl,rfl,_,rfl,iteFe sF ?_⟩
   refine⟨_,rfl,rfl,_,rfl,iteFe sF ?_⟩
   refine⟨_,rfl,rfl,_,rfl,iteFe sF ?_⟩
   refine⟨_,rfl,rfl,_,rfl,iteFe sF ?_⟩
   exact⟨_,rfl,_,rfl,bin_done (M.c5 4) ta tb (Same.refl H) q⟩
theorem scRBehind_:FnScope ["self","one","word","within","other"] ["self","one","word","within"] (defScope sRBehind_):=⟨rfl,rfl,rfl,by decide+kernel,rfl,by decide+kernel,by decide+kernel⟩
theorem ok_behind {f:Addr} {fd:FuncData} {d:Nat} (F:Fun K "read_behind" "TermReader.read_behind" sRBehind_ f fd) (n:NotR N CR) (M:MkAll P w K mg base N) (D_pass_by:DR P w K mg base 2 CR "pass_by" ["self","signs"] (spPass CR)) (D_read_figures:DR P w K mg base 3 CR "read_figures" ["self"] (spFigs CR)) (D_read_part:DR P w K mg base (3*d+3) CR "read_part" ["self","within"] (spPart N CR d)) (c_pairBy:Cal P w K mg base CX0 3 "pair_by" ["word","one","other"] (spPairBy N)):FnOk P w K mg base CX0 (3*d+4) f fd ["self","one","word","within"] (spBehind N CR d):=by
 refine F.ok scRBehind_ (fun vs H Q E h=>?_) (fun cdv A outer s H vs Q E hr h=>?_)
 ·obtain⟨rd,z,g,t,a,x,y,r,va,wi,rfl,_⟩:=h
  rfl
 ·obtain⟨rd,z,g,t,a,x,y,r,va,wi,rfl,R,zl,sp,hz,ta,hd,hw,ok,q⟩:=h
  have R_rest:=M.rest
  have R_cho:=M.cho
  obtain⟨dx,hp⟩:=id R
  refine⟨_,(pss_cons (ps_if (pt_cmpR op_eq (pv 2) pe_str (nomark _)) (pss_one (ps_ret (pe_mk R_rest (hr.mono (by omega)) rfl pass0 (pa_cons (pv 1) (pa_cons (pe_methD0 (pv 0) D_read_figures (hr.mono (by omega)) pass0) pa_nil))))) pss_nil) (pss_cons (ps_set (i:=4) scRBehind_.nd rfl (Or.inl rfl) (pe_methD (pv 0) D_read_part (hr.mono (by omega)) pass0 (pa_cons (pv 3) pa_nil))) (pss_cons (ps_if (pt_cmpR op_eq (pv 2) pe_str (nomark _)) (pss_cons (ps_expr (pe_methD (pv 0) D_pass_by (hr.mono (by omega)) pass0 (pa_cons pe_str pa_nil))) (pss_one (ps_ret (pe_mk R_cho (hr.mono (by omega)) rfl pass0 (pa_cons (pv 1) (pa_cons (pv 4) (pa_cons (pe_methD (pv 0) D_read_part (hr.mono (by omega)) pass0 (pa_cons (pv 3) pa_nil)) pa_nil))))))) pss_nil) (pss_one (ps_ret (pe_c c_pairBy (hr.mono (by omega)) rfl pass0 (pa_cons (pv 2) (pa_cons (pv 1) (pa_cons (pv 4) pa_nil))))))))),?_⟩
  cases t with
  |num _=>cases sp
  |take _ _=>cases sp
  |rest t1 yy=>
   cases sp
   refine⟨_,rfl,rfl,_,rfl,iteTe (decide_eq_true (congrArg V.str (lit_tx [114,101,115,116] rfl).symm)) ?_⟩
   have y1:=ok.1.1
   have y2:=ok.1.2.1
   obtain⟨m,rfl⟩:∃m:Nat,yy=(m:Int):=⟨yy.toNat,by omega⟩
   rw [itx_nat]at hz q
   refine⟨_,rfl,_,rfl,rd,CR,dx,_,rfl,hp,rfl,rfl,rd,z,g,m,_,rfl,R,zl,hz,nod_cons rfl,by omega,fun H1 k1 R1=>?_⟩
   obtain⟨p1,d1,f1,rfl,h1,g1⟩:=ta.kp n R k1
   refine fun x dx nx nd ne=>⟨x,N.rest,dx,.ref p1,_,rfl,upd_same,M.c3,rfl,?_⟩
   have sN:Same H1 (upd (upd (upd (upd H1 dx (.own x)) x (.ins N.rest dx [])) x (.ins N.rest dx [("one",.ref p1)])) x (.ins N.rest dx [("one",.ref p1),("by",.int (m:Int))])):=sameUpd nx (new3 nx nd)
   exact q _ _ (k1.same sN) (R1.same sN) ⟨x,dx,_,rfl,upd_same,p1,d1,f1,rfl,sN _ _ h1,g1.same sN⟩
  |cho t1 t2 t3=>
   cases sp
   have h2':ht t2+1<=ht (.cho a t2 t3):=Nat.succ_le_of_lt (kid_ht (by simp [kids]))
   have h3':ht t3+1<=ht (.cho a t2 t3):=Nat.succ_le_of_lt (kid_ht (by simp [kids]))
   have o2:TxOk t2:=ok.kid (t:= .cho a t2 t3) (by simp [kids])
   have o3:TxOk t3:=ok.kid (t:= .cho a t2 t3) (by simp [kids])
   refine⟨_,rfl,rfl,_,rfl,iteFe (decide_eq_false fun e=>by have:=tx_inj ((V.str.inj e).trans (lit_tx [114,101,115,116] rfl));cases this) ?_⟩
   have hz0:z.drop g=txt t2++(32::(58::(32::(txt t3++41::r)))):=by rw [hz];simp
   refine⟨_,rfl,rd,CR,dx,_,rfl,hp,rfl,rfl,_,rfl,rd,z,g,t2,_,wi,rfl,R,zl,hz0,nod_cons rfl,by omega,hw,o2,fun v2 H2 k2 R2 u2=>?_⟩
   have hz1:z.drop (g+(txt t2).length)=[32,58,32]++(txt t3++41::r):=drop_step hz0
   have hz2:=drop_step hz1
   obtain⟨dx2,hp2⟩:=id R2
   refine⟨_,rfl,rfl,_,rfl,iteTe (decide_eq_true (congrArg V.str (lit_tx [63] rfl).symm)) ?_⟩
   refine⟨_,rfl,rd,CR,dx2,_,rfl,hp2,rfl,rfl,rd,z,[32,58,32],_,_,lit2 rfl,R2,zl,by decide,hz1,fun H3 k3 R3=>?_⟩
   obtain⟨dx3,hp3⟩:=id R3
   refine⟨_,rfl,_,rfl,_,rfl,rd,CR,dx3,_,rfl,hp3,rfl,rfl,_,rfl,rd,z,_,t3,_,wi,rfl,R3,zl,hz2,nod_cons rfl,by omega,hw,o3,fun v3 H4 k4 R4 u3=>?_⟩
   obtain⟨p1,d1,f1,rfl,h1,g1⟩:=((ta.kp n R k2).kp n R2 k3).kp n R3 k4
   obtain⟨p2,d2,f2,rfl,h2,g2⟩:=(u2.kp n R2 k3).kp n R3 k4
   obtain⟨p3,d3,f3,rfl,h3,g3⟩:=u3
   refine fun x dx nx nd ne=>⟨x,N.cho,dx,.ref p1,.ref p2,.ref p3,rfl,upd_same,M.c4,rfl,?_⟩
   have sN:Same H4 (upd (upd (upd (upd (upd H4 dx (.own x)) x (.ins N.cho dx [])) x (.ins N.cho dx [("test",.ref p1)])) x (.ins N.cho dx [("test",.ref p1),("one",.ref p2)])) x (.ins N.cho dx [("test",.ref p1),("one",.ref p2),("other",.ref p3)])):=sameUpd nx (sameUpd nx (new3 nx nd))
   refine q _ _ (((k2.trans k3).trans k4).same sN) ?_ ⟨x,dx,_,rfl,upd_same,p1,d1,f1,p2,d2,f2,p3,d3,f3,rfl,⟨sN _ _ h1,g1.same sN⟩,⟨sN _ _ h2,g2.same sN⟩,sN _ _ h3,g3.same sN⟩
   have e2:g+(txt t2++(([32,58,32]:List Nat)++txt t3)).length=g+(txt t2).length+([32,58,32]:List Nat).length+(txt t3).length:=by simp only [List.length_append];omega
   rw [e2]
   exact R4.same sN
  |bin k t1 t2=>
   cases sp
   have h2':ht t2+1<=ht (.bin k a t2):=Nat.succ_le_of_lt (kid_ht (by simp [kids]))
   have o2:TxOk t2:=ok.kid (t:= .bin k a t2) (by simp [kids])
   obtain⟨_,n1,n2⟩:=opn_wl k
   refine⟨_,rfl,rfl,_,rfl,iteFe (decide_eq_false fun e=>n1 (tx_inj ((V.str.inj e).trans (lit_tx [114,101,115,116] rfl)))) ?_⟩
   refine⟨_,rfl,rd,CR,dx,_,rfl,hp,rfl,rfl,_,rfl,rd,z,g,t2,_,wi,rfl,R,zl,hz,nod_cons rfl,by omega,hw,o2,fun v2 H2 k2 R2 u2=>?_⟩
   refine⟨_,rfl,rfl,_,rfl,iteFe (decide_eq_false fun e=>n2 (tx_inj ((V.str.inj e).trans (lit_tx [63] rfl)))) ?_⟩
   refine⟨_,rfl,_,rfl,_,rfl,k,a,t2,va,v2,congrArg (fun s=>[V.str s,va,v2]) (tx_of (opn k)).symm,ta.kp n R k2,u2,fun v' H' s' u'=>?_⟩
   exact q v' H' (k2.same s') (R2.same s') u'
theorem scRBrack_:FnScope ["self","within","one","word","term"] ["self","within"] (defScope sRBrack_):=⟨rfl,rfl,rfl,by decide+kernel,rfl,by decide+kernel,by decide+kernel⟩
theorem ok_brack {f:Addr} {fd:FuncData} {d:Nat} (F:Fun K "read_bracket" "TermReader.read_bracket" sRBrack_ f fd) (n:NotR N CR) (D_pass_by:DR P w K mg base 2 CR "pass_by" ["self","signs"] (spPass CR)) (D_read_word:DR P w K mg base 3 CR "read_word" ["self"] (spWord CR)) (D_read_part:DR P w K mg base (3*d+3) CR "read_part" ["self","within"] (spPart N CR d)) (D_read_behind:DR P w K mg base (3*d+4) CR "read_behind" ["self","one","word","within"] (spBehind N CR d)) (T:Txt K mg):FnOk P w K mg base CX0 (3*d+5) f fd ["self","within"] (spBracket N CR d):=by
 refine F.ok scRBrack_ (fun vs H Q E h=>?_) (fun cdv A outer s H vs Q E hr h=>?_)
 ·obtain⟨rd,z,g,t,a,x,y,r,wi,rfl,_⟩:=h
  rfl
 ·obtain⟨rd,z,g,t,a,x,y,r,wi,rfl,R,zl,sp,hz,hd,hw,ok,q⟩:=h
  obtain⟨dx,hp⟩:=id R
  obtain⟨_,g_MOST_WITHIN⟩:=T.mwi
  have tt:=spl_txt sp
  obtain⟨xw,ak⟩:=spl_wl sp
  have ha:=kid_ht ak
  have oa:=ok.kid ak
  refine⟨_,(pss_cons (ps_if (pt_cmpR op_eq (pv 1) (pe_gint rfl g_MOST_WITHIN) (nomark _)) (pss_one ps_never) pss_nil) (pss_cons (ps_expr (pe_methD (pv 0) D_pass_by (hr.mono (by omega)) pass0 (pa_cons pe_str pa_nil))) (pss_cons (ps_set (i:=2) scRBrack_.nd rfl (Or.inl rfl) (pe_methD (pv 0) D_read_part (hr.mono (by omega)) pass0 (pa_cons (pe_op op_add (pv 1) pe_int) pa_nil))) (pss_cons (ps_expr (pe_methD (pv 0) D_pass_by (hr.mono (by omega)) pass0 (pa_cons pe_str pa_nil))) (pss_cons (ps_set (i:=3) scRBrack_.nd rfl (Or.inl rfl) (pe_methD0 (pv 0) D_read_word (hr.mono (by omega)) pass0)) (pss_cons (ps_expr (pe_methD (pv 0) D_pass_by (hr.mono (by omega)) pass0 (pa_cons pe_str pa_nil))) (pss_cons (ps_set (i:=4) scRBrack_.nd rfl (Or.inl rfl) (pe_methD (pv 0) D_read_behind (hr.mono (by omega)) pass0 (pa_cons (pv 2) (pa_cons (pv 3) (pa_cons (pe_op op_add (pv 1) pe_int) pa_nil))))) (pss_cons (ps_expr (pe_methD (pv 0) D_pass_by (hr.mono (by omega)) pass0 (pa_cons pe_str pa_nil))) (pss_one (ps_ret (pv 4))))))))))),?_⟩
  refine⟨_,rfl,rfl,_,rfl,iteFe (decide_eq_false fun e=>by have:(wi:Int)=12:=V.int.inj e;omega) ?_⟩
  have z0:z.drop g=[40]++(txt a++(32::(x++(32::(y++41::r))))):=by rw [hz,tt];simp
  refine⟨_,rfl,rd,CR,dx,_,rfl,hp,rfl,rfl,rd,z,[40],g,_,lit2 rfl,R,zl,by decide,z0,fun H1 k1 R1=>?_⟩
  have z1:=drop_step z0
  obtain⟨dx1,hp1⟩:=id R1
  refine⟨_,rfl,rd,CR,dx1,_,rfl,hp1,rfl,rfl,_,rfl,_,_,rfl,rfl,rd,z,_,a,_,wi+1,rfl,R1,zl,z1,nod_cons rfl,by omega,by omega,oa,fun va H2 k2 R2 u2=>?_⟩
  have z2:z.drop (g+ [40].length+(txt a).length)=[32]++(x++(32::(y++41::r))):=drop_step z1
  obtain⟨dx2,hp2⟩:=id R2
  refine⟨_,rfl,rd,CR,dx2,_,rfl,hp2,rfl,rfl,rd,z,[32],_,_,lit2 rfl,R2,zl,by decide,z2,fun H3 k3 R3=>?_⟩
  have z3:=drop_step z2
  obtain⟨dx3,hp3⟩:=id R3
  refine⟨_,rfl,rd,CR,dx3,_,rfl,hp3,rfl,rfl,rd,z,_,x,_,rfl,R3,zl,xw,z3,fun H4 k4 R4=>?_⟩
  have z4:=drop_step z3
  have z4:z.drop (g+ [40].length+(txt a).length+ [32].length+x.length)=[32]++(y++41::r):=z4
  obtain⟨dx4,hp4⟩:=id R4
  refine⟨_,rfl,rd,CR,dx4,_,rfl,hp4,rfl,rfl,rd,z,[32],_,_,lit2 rfl,R4,zl,by decide,z4,fun H5 k5 R5=>?_⟩
  have z5:=drop_step z4
  obtain⟨dx5,hp5⟩:=id R5
  have u5:=((u2.kp n R2 k3).kp n R3 k4).kp n R4 k5
  refine⟨_,rfl,rd,CR,dx5,_,rfl,hp5,rfl,rfl,_,rfl,_,rfl,_,rfl,_,_,rfl,rfl,rd,z,_,t,a,x,y,r,va,wi+1,rfl,R5,zl,sp,z5,u5,hd,by omega,ok,fun v' H6 k6 R6 u6=>?_⟩
  have z6:z.drop (g+ [40].length+(txt a).length+ [32].length+x.length+ [32].length+y.length)=[41]++r:=drop_step z5
  obtain⟨dx6,hp6⟩:=id R6
  refine⟨_,rfl,rd,CR,dx6,_,rfl,hp6,rfl,rfl,rd,z,[41],_,_,lit2 rfl,R6,zl,by decide,z6,fun H7 k7 R7=>?_⟩
  refine⟨_,rfl,?_⟩
  refine q v' H7 ((((((k1.trans k2).trans k3).trans k4).trans k5).trans k6).trans k7) ?_ (u6.kp n R6 k7)
  have e:g+(txt t).length=g+([40]:List Nat).length+(txt a).length+([32]:List Nat).length+x.length+([32]:List Nat).length+y.length+([41]:List Nat).length:=by
   rw [tt]
   simp only [List.length_cons,List.length_append,List.length_nil]
   omega
  rw [e]
  exact R7
theorem scRPart_:FnScope ["self","within"] ["self","within"] (defScope sRPart_):=⟨rfl,rfl,rfl,by decide+kernel,rfl,by decide+kernel,by decide+kernel⟩
theorem ok_part {f:Addr} {fd:FuncData} {d:Nat} (F:Fun K "read_part" "TermReader.read_part" sRPart_ f fd) (M:MkAll P w K mg base N) (D_ahead:DR P w K mg base 1 CR "ahead" ["self"] (spAhead CR)) (D_read_number:DR P w K mg base 4 CR "read_number" ["self"] (spNum_ CR)) (D_read_take:DR P w K mg base 5 CR "read_take" ["self"] (spTakeR N CR)) (D_read_bracket:DR P w K mg base (3*d+5) CR "read_bracket" ["self","within"] (spBracket N CR d)):FnOk P w K mg base CX0 (3*d+6) f fd ["self","within"] (spPart N CR (d+1)):=by
 refine F.ok scRPart_ (fun vs H Q E h=>?_) (fun cdv A outer s H vs Q E hr h=>?_)
 ·obtain⟨rd,z,g,t,r,wi,rfl,_⟩:=h
  rfl
 ·obtain⟨rd,z,g,t,r,wi,rfl,R,zl,hz,nd,hd,hw,ok,q⟩:=h
  obtain⟨dx,hp⟩:=id R
  have R_num:=M.num
  refine⟨_,(pss_cons (ps_if (pt_cmpR op_eq (pe_methD0 (pv 0) D_ahead (hr.mono (by omega)) pass0) pe_str (nomark _)) (pss_one (ps_ret (pe_methD (pv 0) D_read_bracket (hr.mono (by omega)) pass0 (pa_cons (pv 1) pa_nil)))) pss_nil) (pss_cons (ps_if (pt_cmpR op_eq (pe_methD0 (pv 0) D_ahead (hr.mono (by omega)) pass0) pe_str (nomark _)) (pss_one (ps_ret (pe_methD0 (pv 0) D_read_take (hr.mono (by omega)) pass0))) pss_nil) (pss_one (ps_ret (pe_mk R_num (hr.mono (by omega)) rfl pass0 (pa_cons (pe_methD0 (pv 0) D_read_number (hr.mono (by omega)) pass0) pa_nil)))))),?_⟩
  refine⟨_,rfl,rd,CR,dx,_,rfl,hp,rfl,rfl,rd,z,g,rfl,R,zl,rfl,_,rfl,?_⟩
  cases hs:spl t with
  |some w3=>
   obtain⟨a,x,y⟩:=w3
   rw [take1 (c:=40) (r:=txt a++(32::(x++(32::(y++41::r))))) (by rw [hz,spl_txt hs];simp)]
   refine iteTe (decide_eq_true (congrArg V.str (lit_tx [40] rfl).symm)) ?_
   exact⟨_,rfl,rd,CR,dx,_,rfl,hp,rfl,rfl,_,rfl,rd,z,g,t,a,x,y,r,wi,rfl,R,zl,hs,hz,hd,hw,ok,fun v' H1 k1 R1 u1=>q v' H1 k1 R1 u1⟩
  |none=>
   cases t with
   |rest _ _=>cases hs
   |cho _ _ _=>cases hs
   |bin _ _ _=>cases hs
   |take b ss=>
    obtain⟨g1,l1,l3⟩:=ok.2 (b,ss) List.mem_cons_self
    rw [take1 (c:=91) (r:=itx b++(tl ss++93::r)) (by rw [hz,txt_take];simp)]
    refine iteFe (decide_eq_false fun x=>by have:=tx_inj ((V.str.inj x).trans (lit_tx [40] rfl));injection this with h1;omega) ?_
    refine⟨_,rfl,rd,CR,dx,_,rfl,hp,rfl,rfl,rd,z,g,rfl,R,zl,rfl,_,rfl,?_⟩
    rw [take1 (c:=91) (r:=itx b++(tl ss++93::r)) (by rw [hz,txt_take];simp)]
    refine iteTe (decide_eq_true (congrArg V.str (lit_tx [91] rfl).symm)) ?_
    exact⟨_,rfl,rd,CR,dx,_,rfl,hp,rfl,rfl,rd,z,g,b,ss,r,rfl,R,zl,hz,g1,l1,l3,fun v' H1 k1 R1 u1=>q v' H1 k1 R1 u1⟩
   |num m=>
    have h1:=ok.1
    have hz:z.drop g=itx m++r:=hz
    obtain⟨ch,rs,ec,hc⟩:∃c rs,itx m=c::rs/\c≠40/\c≠91:=by
     cases m with
     |ofNat k=>
      rw [show Int.ofNat k=(k:Int)from rfl,itx_nat]
      rcases Nat.eq_zero_or_pos k with h0|h0
      ·exact⟨48,[],by rw [h0,dg_zero],by omega,by omega⟩
      ·obtain⟨c,r,e,h1,h2⟩:=dg_head k h0
       exact⟨c,r,e,by omega,by omega⟩
     |negSucc k=>exact⟨45,_,itx_neg k,by omega,by omega⟩
    rw [take1 (c:=ch) (r:=rs++r) (by rw [hz,ec];rfl)]
    refine iteFe (decide_eq_false fun x=>by have:=tx_inj ((V.str.inj x).trans (lit_tx [40] rfl));injection this with h1;exact hc.1 h1) ?_
    refine⟨_,rfl,rd,CR,dx,_,rfl,hp,rfl,rfl,rd,z,g,rfl,R,zl,rfl,_,rfl,?_⟩
    rw [take1 (c:=ch) (r:=rs++r) (by rw [hz,ec];rfl)]
    refine iteFe (decide_eq_false fun x=>by have:=tx_inj ((V.str.inj x).trans (lit_tx [91] rfl));injection this with h1;exact hc.2 h1) ?_
    refine⟨_,rfl,rd,CR,dx,_,rfl,hp,rfl,rfl,rd,z,g,m,r,rfl,R,zl,hz,nd,by simp only [Wf]at h1;omega,fun H1 k1 R1=>?_⟩
    refine fun x dx nx nd ne=>⟨x,N.num,dx,.int m,rfl,upd_same,M.c1,rfl,?_⟩
    exact q _ _ (k1.same (new3 nx nd)) (R1.same (new3 nx nd)) ⟨x,dx,_,rfl,upd_same,rfl⟩
end
end KY
namespace KY
open PySem PyProof.Rows L2
def spIR (K:PySem.W.Frag):Sp:=fun vs H Q _=>∃(p C dx:Addr) (x:V),vs=[.ref p,x]/\H p=some (.ins C dx [])/\Cf K C FR/\Q .non (upd (upd H p (.ins C dx [("text",x)])) p (.ins C dx [("text",x),("gone",natV 0)]))
def spWritten (N:Cn):Sp:=fun vs H Q _=>∃t:Tm,vs=[.str (tx (txt t))]/\ht t<=4/\TxOk t/\prts t<=40/\∀(v':V) (H':Hp),Same H H'->TrmAt N H' t v'->Q v' H'
def spReadT (N:Cn):Sp:=fun vs H Q _=>∃(t:Tm) (n:Nat),vs=[.str (tx (txt t))]/\ht t<=4/\TxOk t/\prts t<=40/\Ln t n/\∀(v':V) (H':Hp),Same H H'->TrmAt N H' t v'->Q v' H'
section
variable {P:Program} {w:World} {K:PySem.W.Frag} {mg:Str->Option Value} {base:Heap} {CR:Addr} {N:Cn}
theorem scRInit_:FnScope ["self","text"] ["self","text"] (defScope sRInit_):=⟨rfl,rfl,rfl,by decide+kernel,rfl,by decide+kernel,by decide+kernel⟩
theorem ok_rdinit {f:Addr} {fd:FuncData} (F:Fun K "__init__" "TermReader.__init__" sRInit_ f fd):FnOk P w K mg base CX0 1 f fd ["self","text"] (spIR K):=by
 refine F.ok scRInit_ (fun vs H Q E h=>?_) (fun cdv A outer s H vs Q E hr h=>?_)
 ·obtain⟨p,C,dx,x,rfl,_⟩:=h
  rfl
 ·obtain⟨p,C,dx,x,rfl,hp,c,q⟩:=h
  refine⟨_,(pss_cons (ps_fld (pv 0) (pv 1) rfl) (pss_one (ps_fld (pv 0) pe_int rfl))),?_⟩
  refine⟨_,rfl,_,rfl,p,C,dx,_,rfl,hp,c.cl,c.na _ (by simp),by decide,?_⟩
  exact⟨_,rfl,p,C,dx,_,rfl,upd_same,c.cl,c.na _ (by simp),by show(1:Nat)<1000;decide,q⟩
theorem scWritten:FnScope ["text","reader","term"] ["text"] (defScope sWritten):=⟨rfl,rfl,rfl,by decide+kernel,rfl,by decide+kernel,by decide+kernel⟩
theorem ok_written {f:Addr} {fd:FuncData} (F:Fun K "read_written" "read_written" sWritten f fd) (R_rd:Mkr P w K mg base CR "TermReader" ["self","text"] (spIR K)) (c:Cf K CR FR) (n:NotR N CR) (D_read_part:DR P w K mg base 15 CR "read_part" ["self","within"] (spPart N CR 4)) (T:Txt K mg):FnOk P w K mg base CX0 16 f fd ["text"] (spWritten N):=by
 refine F.ok scWritten (fun vs H Q E h=>?_) (fun cdv A outer s H vs Q E hr h=>?_)
 ·obtain⟨t,rfl,_⟩:=h
  rfl
 ·obtain⟨t,rfl,hd,ok,pr,q⟩:=h
  have tl:=txt_len ok
  refine⟨_,(pss_cons (ps_if (pt_not (pt_val (pe_callB call_isinst rfl T.isinstance boot_isinstance (pa_cons (pv 0) (pa_cons (pe_ty rfl T.str boot_str) pa_nil))))) (pss_one ps_never) pss_nil) (pss_cons (ps_set (i:=1) scWritten.nd rfl (Or.inl rfl) (pe_mk R_rd (hr.mono (by omega)) rfl pass0 (pa_cons (pv 0) pa_nil))) (pss_cons (ps_set (i:=2) scWritten.nd rfl (Or.inl rfl) (pe_methD (pv 1) D_read_part (hr.mono (by omega)) pass0 (pa_cons pe_int pa_nil))) (pss_cons (ps_if (pt_cmpR op_ne (pe_fld (pv 1) rfl) (pe_callB call_len_str (by rfl) T.len PySem.boot_len (pa_cons (pv 0) pa_nil)) (nomark _)) (pss_one ps_never) pss_nil) (pss_one (ps_ret (pv 2))))))),?_⟩
  refine⟨_,rfl,_,"str",_,true,rfl,.str _,rfl,_,rfl,?_⟩
  refine iteF ?_
  refine⟨_,rfl,fun x dx nx nd ne=>⟨x,CR,dx,_,rfl,upd_same,c,rfl,?_⟩⟩
  have sN:Same H (upd (upd (upd (upd H dx (.own x)) x (.ins CR dx [])) x (.ins CR dx [("text",.str (tx (txt t)))])) x (.ins CR dx [("text",.str (tx (txt t))),("gone",natV 0)])):=sameUpd nx (new3 nx nd)
  revert sN
  generalize eH:upd (upd (upd (upd H dx (.own x)) x (.ins CR dx [])) x (.ins CR dx [("text",.str (tx (txt t)))])) x (.ins CR dx [("text",.str (tx (txt t))),("gone",natV 0)])=H1
  intro sN
  have hp1:H1 x=some (.ins CR dx [("text",.str (tx (txt t))),("gone",natV 0)]):=by rw [<-eH];exact upd_same
  refine⟨_,rfl,x,CR,dx,_,rfl,hp1,rfl,rfl,x,txt t,0,t,[],0,rfl,⟨dx,hp1⟩,by omega,by simp,(fun _ _ e=>by cases e),hd,by omega,ok,fun v' H2 k2 R2 u2=>?_⟩
  obtain⟨dx2,hp2⟩:=id R2
  have s02:Same H H2:=fun b o e=>k2 b o (sN b o e) fun z=>by rw [z,nx]at e;cases e
  refine⟨_,rfl,x,CR,dx2,_,_,rfl,hp2,c.cl,c.na _ (by simp),rfl,_,rfl,_,rfl,line2 (by rw [tx_len];omega),?_⟩
  refine⟨rfl,_,rfl,?_⟩
  rw [tx_len,Nat.zero_add]
  refine iteNS rfl ?_
  exact⟨_,rfl,q v' H2 s02 u2⟩
theorem scRead:FnScope ["text","term"] ["text"] (defScope sRead):=⟨rfl,rfl,rfl,by decide+kernel,rfl,by decide+kernel,by decide+kernel⟩
theorem ok_readT {f:Addr} {fd:FuncData} (F:Fun K "read_term" "read_term" sRead f fd) (c_written:Cal P w K mg base CX0 16 "read_written" ["text"] (spWritten N)) (c_checkT:Cal P w K mg base CX0 9 "check_term" ["term"] (spCheckT N 4)):FnOk P w K mg base CX0 17 f fd ["text"] (spReadT N):=by
 refine F.ok scRead (fun vs H Q E h=>?_) (fun cdv A outer s H vs Q E hr h=>?_)
 ·obtain⟨t,n,rfl,_⟩:=h
  rfl
 ·obtain⟨t,n,rfl,hd,ok,pr,ln,q⟩:=h
  refine⟨_,(pss_cons (ps_set (i:=1) scRead.nd rfl (Or.inl rfl) (pe_c c_written (hr.mono (by omega)) rfl pass0 (pa_cons (pv 0) pa_nil))) (pss_cons (ps_expr (pe_c c_checkT (hr.mono (by omega)) rfl pass0 (pa_cons (pv 1) pa_nil))) (pss_one (ps_ret (pv 1))))),?_⟩
  refine⟨_,rfl,t,rfl,hd,ok,pr,fun v1 H1 s1 u1=>?_⟩
  obtain⟨p,dx,fs,rfl,hp,hf⟩:=id u1
  refine⟨_,rfl,p,dx,fs,t,n,rfl,hp,hf,hd,ok,ln,fun H2 s2=>?_⟩
  exact⟨_,rfl,q _ H2 (s1.trans s2) (u1.same s2)⟩
end
end KY
namespace KY
open PySem PyProof.Rows L2
def opv (k:Fin 5) (i j:Int):Int:=match k with|0=>i+j|1=>i-j|2=>i*j|3=>min i j|4=>max i j
def val (f:Tk->Int):Tm->Int
 | .num n=>n
 | .take b ss=>f (b,ss)
 | .rest t y=>val f t % y
 | .cho a b c=>if 0<val f a then val f b else val f c
 | .bin k a b=>opv k (val f a) (val f b)
def bnd:Tm->Nat
 | .num _=>41
 | .take _ _=>41
 | .rest _ _=>41
 | .cho _ b c=>max (bnd b) (bnd c)
 | .bin _ a b=>bnd a+bnd b+1
theorem bnd_le:∀t:Tm,bnd t+1<=21*2 ^ ht t
 | .num _=>by show 41+1<=21*2 ^ 1;decide
 | .take _ _=>by show 41+1<=21*2 ^ 1;decide
 | .rest t _=>by
  have:0<2 ^ ht t:=Nat.pow_pos (by decide)
  simp only [bnd,ht,Nat.pow_succ]
  omega
 | .cho a b c=>by
  have h1:=bnd_le b
  have h2:=bnd_le c
  have e1:2 ^ ht b<=2 ^ max (ht a) (max (ht b) (ht c)):=Nat.pow_le_pow_right (by decide) (by omega)
  have e2:2 ^ ht c<=2 ^ max (ht a) (max (ht b) (ht c)):=Nat.pow_le_pow_right (by decide) (by omega)
  simp only [bnd,ht,Nat.pow_succ]
  omega
 | .bin _ a b=>by
  have h1:=bnd_le a
  have h2:=bnd_le b
  have e1:2 ^ ht a<=2 ^ max (ht a) (ht b):=Nat.pow_le_pow_right (by decide) (by omega)
  have e2:2 ^ ht b<=2 ^ max (ht a) (ht b):=Nat.pow_le_pow_right (by decide) (by omega)
  simp only [bnd,ht,Nat.pow_succ]
  omega
theorem opv_bnd (k:Fin 5) {i j:Int} {m n:Nat} (hi:i.natAbs<2 ^ m) (hj:j.natAbs<2 ^ n):(opv k i j).natAbs<2 ^ (m+n+1):=by
 have p1:2 ^ m<=2 ^ (m+n):=Nat.pow_le_pow_right (by decide) (by omega)
 have p2:2 ^ n<=2 ^ (m+n):=Nat.pow_le_pow_right (by decide) (by omega)
 have p3:2 ^ (m+n+1)=2 ^ (m+n)*2:=Nat.pow_succ ..
 have p4:(i*j).natAbs<2 ^ (m+n):=by
  rw [Int.natAbs_mul,Nat.pow_add]
  exact Nat.mul_lt_mul'' hi hj
 generalize 2 ^ (m+n)=M at*
 generalize 2 ^ (m+n+1)=M' at*
 generalize 2 ^ m=A at*
 generalize 2 ^ n=B at*
 match k with
 |0=>show(i+j).natAbs<_;omega
 |1=>show(i-j).natAbs<_;omega
 |2=>show(i*j).natAbs<_;omega
 |3=>show(min i j).natAbs<_;omega
 |4=>show(max i j).natAbs<_;omega
theorem val_bnd {f:Tk->Int}:∀t:Tm,Wf t->(∀x∈raw t,(f x).natAbs<2 ^ 41)->(val f t).natAbs<2 ^ bnd t
 | .num n,h,_=>by
  have h1:=h.1
  have h2:=h.2
  show n.natAbs<2 ^ 41
  omega
 | .take b ss,_,h=>h (b,ss) List.mem_cons_self
 | .rest t y,h,_=>by
  obtain⟨h1,h2,_⟩:=h
  show(val f t % y).natAbs<2 ^ 41
  have e1:=Int.emod_nonneg (val f t) (show y≠0 by omega)
  have e2:=Int.emod_lt_of_pos (val f t) h1
  omega
 | .cho a b c,h,g=>by
  have h1:=val_bnd b h.2.1 fun x hx=>g x (by simp only [raw,List.mem_append];exact .inr (.inl hx))
  have h2:=val_bnd c h.2.2 fun x hx=>g x (by simp only [raw,List.mem_append];exact .inr (.inr hx))
  have e1:2 ^ bnd b<=2 ^ max (bnd b) (bnd c):=Nat.pow_le_pow_right (by decide) (by omega)
  have e2:2 ^ bnd c<=2 ^ max (bnd b) (bnd c):=Nat.pow_le_pow_right (by decide) (by omega)
  simp only [val,bnd]
  split<;>omega
 | .bin k a b,h,g=>opv_bnd k (val_bnd a h.1 fun x hx=>g x (by simp only [raw,List.mem_append];exact .inl hx)) (val_bnd b h.2 fun x hx=>g x (by simp only [raw,List.mem_append];exact .inr hx))
theorem val_B {f:Tk->Int} {t:Tm} (h:ht t<=6) (w:Wf t) (g:∀x∈raw t,(f x).natAbs<2 ^ 41):(val f t).natAbs<2 ^ 2000:=by
 have h1:=val_bnd t w g
 have h2:=bnd_le t
 have h3:2 ^ ht t<=2 ^ 6:=Nat.pow_le_pow_right (by decide) h
 exact Nat.lt_of_lt_of_le h1 (Nat.pow_le_pow_right (by decide) (by omega))
def kyOf (x:Tk):PKey:=(.inl x.1,x.2.map .inl)
theorem pky_kd {H:Hp} {x:TkR} (h:PKy H x):PKd H (kyOf x.1) x.2:=by
 obtain⟨q,h1,h2⟩:=h
 refine⟨q,h1,?_⟩
 rw [h2]
 unfold kyOf
 rw [List.map_map]
 rfl
def WAt (P:Program) (w:World) (H:Hp) (dd:Addr) (f:Tk->Int) (ks:List Tk):Prop:=∃kvs,PDict P w H dd kvs/\∀x∈ks,valV kvs (kyOf x)=some (.int (f x))/\(f x).natAbs<2 ^ 41
theorem pdict_keep {P:Program} {w:World} {H H':Hp} {a:Addr} {kvs:List (PKey×V)} (h1:∀o,H a=some o->H' a=some o) (h2:∀c ys,H c=some (.tup ys)->H' c=some (.tup ys)) (h:PDict P w H a kvs):PDict P w H' a kvs:=let⟨z,xs,e,k⟩:=h;⟨z,xs,h1 _ e,k.mono h2⟩
theorem WAt.same {P:Program} {w:World} {H H':Hp} {dd:Addr} {f:Tk->Int} {ks:List Tk} (s:Same H H') (h:WAt P w H dd f ks):WAt P w H' dd f ks:=let⟨kvs,e,k⟩:=h;⟨kvs,pdict_keep (fun _ e=>s _ _ e) (fun _ _ e=>s _ _ e) e,k⟩
def lStmt (b:Bool):Stmt:=(loopBody ((defBody sAlike).getD 2 sAlike)).getD (if b then 1 else 0) sAlike
def lamOf (st:Stmt):Arguments×Expr×Scope×Pos:=match st with
 | .Assign _ (.Call _ (.Lambda a b sc p::_) _ _) _=>(a,b,sc,p)
 |_=>(defArgs st,.Constant .none 0 ⟨0,0,0,0⟩,defScope st,⟨0,0,0,0⟩)
abbrev lArgs (b:Bool):Arguments:=(lamOf (lStmt b)).1
abbrev lBody (b:Bool):Expr:=(lamOf (lStmt b)).2.1
abbrev lScope (b:Bool):Scope:=(lamOf (lStmt b)).2.2.1
abbrev lPos (b:Bool):Pos:=(lamOf (lStmt b)).2.2.2
abbrev lQ:Str:=(("_law_alike":Str)++".<locals>.")++"<lambda>"
structure See where
 fl:Addr
 cell:Addr
 dd:Addr
 c:Addr
 pm:Value
 ct:Value
 f:Tk->Int
 ks:List Tk
 b:Bool
theorem l_nocell:∀b,∀z∈(lScope b).names,z.2≠ .cell:=by intro b;cases b<;>decide+kernel
abbrev See.obj (z:See):Obj:=PySem.W.kla_obj "<lambda>" lQ (lArgs z.b) (lBody z.b) (lScope z.b) [("_law_some",z.cell)] z.pm z.c z.ct
abbrev See.fd (z:See):FuncData:=PySem.W.kla_fn "<lambda>" lQ (lArgs z.b) (lBody z.b) (lScope z.b) [("_law_some",z.cell)] z.pm (.ref z.c) z.ct
structure SeesAt (P:Program) (w:World) (z:See) (H:Hp):Prop where
 fn:H z.fl=some (LamO z.fl z.obj)
 cd:H z.c=some (CodO z.c lQ)
 wa:WAt P w H z.dd z.f z.ks
theorem SeesAt.same {P:Program} {w:World} {z:See} {H H':Hp} (s:Same H H') (h:SeesAt P w z H):SeesAt P w z H':=⟨s _ _ h.fn,s _ _ h.cd,h.wa.same s⟩
def spSee (P:Program) (w:World) (z:See):Sp:=fun vs H Q _=>∃q x,vs=[.ref q]/\SeesAt P w z H/\PKy H (x,q)/\x∈z.ks/\Q (.int (z.f x)) H
def spVal (P:Program) (w:World) (N:Cn) (z:See) (d:Nat) (C:Addr):Sp:=fun vs H Q _=>∃(p dx:Addr) (fs:List (Str×V)) (t:Tm),vs=[.ref p,.ref z.fl]/\H p=some (.ins (cls N t) dx fs)/\FldAt N H fs t/\cls N t=C/\ht t<=d/\Wf t/\(∀x∈raw t,x∈z.ks)/\SeesAt P w z H/\
 ∀H',Same H H'->Q (.int (val z.f t)) H'
section
variable {P:Program} {w:World} {K:PySem.W.Frag} {mg:Str->Option Value} {base:Heap} {N:Cn} {z:See}
theorem ok_see (hb:base.IsCell z.cell (some (.ref z.dd))):FnOk P w K mg base CX0 1 z.fl z.fd ["_law_take"] (spSee P w z):=by
 obtain⟨fl,cell,dd,c,pm,ct,f,ks,b⟩:=z
 cases b
 all_goals
  refine lam_of (k:=0) (v:= .ref dd) (u:= .ref dd) rfl rfl rfl rfl rfl (fun y hy=>?_) (l_nocell _) hb rfl (fun vs H Q E h=>?_) (fun vs H Q E h=>?_) fun A outer s H a Q E hr h=>?_
  ·have:=PySem.mem_of_lookup hy
   have h2:(y,NameKind.free)∈[(("_law_take":Str),NameKind.local),(("_law_some":Str),NameKind.free)]:=this
   simp only [List.mem_cons,List.not_mem_nil,or_false,Prod.mk.injEq]at h2
   rcases h2 with ⟨_,h2⟩|⟨h2,_⟩
   ·cases h2
   ·exact h2
  ·obtain⟨q,x,rfl,_⟩:=h
   rfl
  ·obtain⟨q,x,_,S,_⟩:=h
   exact⟨S.fn,S.cd⟩
  ·obtain⟨q,x,e,S,ky,hx,hq⟩:=h
   cases e
   obtain⟨kvs,pd,l⟩:=S.wa
   refine⟨_,pe_pget (by have:=hr.un;show(A.deeper _).units+2<cLine;omega) (pv 1) (pv 0) (fun _ _=>rfl),?_⟩
   exact⟨_,rfl,_,rfl,dd,q,kvs,kyOf x,.int (f x),rfl,rfl,pd,pky_kd ky,(l x hx).1,hq⟩
theorem ob_see:∀vs H Q E,spSee P w z vs H Q E->∃o d,H z.fl=some (LamO z.fl o)/\o.data= .func d:=fun vs H Q E ⟨_,_,_,S,_⟩=>⟨_,_,S.fn,rfl⟩
theorem b_see:Binds K z.fd ["_law_take"] []:=Binds.all fun us hl=>by
 obtain⟨fl,cell,dd,c,pm,ct,f,ks,b⟩:=z
 match us,hl,b with
 | [_],_,true=>rfl
 | [_],_,false=>rfl
end
end KY
namespace KY
open PySem PyProof.Rows L2
abbrev VPs:List Str:=["self","see"]
abbrev DVal (P:Program) (w:World) (K:PySem.W.Frag) (mg:Str->Option Value) (base:Heap) (N:Cn) (z:See) (d:Nat):Prop:=Dis P w K mg base CX0 (d+1) (IsC N) "value_by" VPs (spVal P w N z d)
abbrev NoV (N:Cn):Prop:=∀(t:Tm) (fs:List (Str×V)) (H:Hp),FldAt N H fs t->fs.lookup ("value_by":Str)=none
section
variable {P:Program} {w:World} {K:PySem.W.Frag} {mg:Str->Option Value} {base:Heap} {N:Cn} {z:See}
theorem scNValue:FnScope ["self","see"] ["self","see"] (defScope sNValue):=⟨rfl,rfl,rfl,by decide+kernel,rfl,by decide+kernel,by decide+kernel⟩
theorem ok_nvalue {f C:Addr} {fd:FuncData} {d:Nat} (F:Fun K "value_by" "Number.value_by" sNValue f fd) (c:Cf K C ["value"]) (hC:∀t,cls N t=C->∃n,t= .num n):FnOk P w K mg base CX0 (d+1) f fd VPs (spVal P w N z d C):=by
 refine F.ok scNValue (fun vs H Q E h=>?_) (fun cdv A outer s H vs Q E hr h=>?_)
 ·obtain⟨p,dx,fs,t,rfl,_⟩:=h
  rfl
 ·obtain⟨p,dx,fs,t,rfl,hp,hf,hc,hd,wf,rk,S,q⟩:=h
  refine⟨_,(pss_one (ps_ret (pe_fld (pv 0) rfl))),?_⟩
  obtain⟨n,rfl⟩:=hC t hc
  rw [hc]at hp
  obtain rfl:=hf
  exact⟨_,rfl,p,C,dx,_,_,rfl,hp,c.cl,c.na _ (by simp),rfl,q H (Same.refl H)⟩
theorem scKValue:FnScope ["self","see"] ["self","see"] (defScope sKValue):=⟨rfl,rfl,rfl,by decide+kernel,rfl,by decide+kernel,by decide+kernel⟩
theorem ok_kvalue {f C:Addr} {fd:FuncData} {d:Nat} (F:Fun K "value_by" "Take.value_by" sKValue f fd) (c:Cf K C ["back","steps"]) (hC:∀t,cls N t=C->∃b ss,t= .take b ss) (F_see:FnOk P w K mg base CX0 1 z.fl z.fd ["_law_take"] (spSee P w z)):FnOk P w K mg base CX0 (d+2) f fd VPs (spVal P w N z (d+1) C):=by
 refine F.ok scKValue (fun vs H Q E h=>?_) (fun cdv A outer s H vs Q E hr h=>?_)
 ·obtain⟨p,dx,fs,t,rfl,_⟩:=h
  rfl
 ·obtain⟨p,dx,fs,t,rfl,hp,hf,hc,hd,wf,rk,S,q⟩:=h
  refine⟨_,(pss_one (ps_ret (pe_callV (i:=1) F_see (hr.mono (by omega)) b_see ob_see (pa_cons (pe_tup (pa_cons (pe_fld (pv 0) rfl) (pa_cons (pe_fld (pv 0) rfl) pa_nil))) pa_nil)))),?_⟩
  obtain⟨b,ss,rfl⟩:=hC t hc
  rw [hc]at hp
  obtain⟨u,rfl,hu⟩:=hf
  refine⟨rfl,_,rfl,p,C,dx,_,_,rfl,hp,c.cl,c.na _ (by simp),rfl,_,rfl,p,C,dx,_,_,rfl,hp,c.cl,c.na _ (by simp),rfl,by show 2<=sizeLine;decide,fun t1 n1=>?_⟩
  generalize e:upd H t1 _=H1
  obtain⟨s1,e1⟩:=new_of n1 e
  exact⟨t1,(b,ss),rfl,S.same s1,⟨u,e1,s1 _ _ hu⟩,rk _ List.mem_cons_self,q H1 s1⟩
theorem scAValue:FnScope ["self","see"] ["self","see"] (defScope sAValue):=⟨rfl,rfl,rfl,by decide+kernel,rfl,by decide+kernel,by decide+kernel⟩
theorem ok_avalue {f C:Addr} {fd:FuncData} {d:Nat} (F:Fun K "value_by" "Added.value_by" sAValue f fd) (c:Cf K C ["one","other"]) (hC:∀t,cls N t=C->∃a b,t= .bin 0 a b) (D_value:DVal P w K mg base N z d) (nV:NoV N):FnOk P w K mg base CX0 (d+2) f fd VPs (spVal P w N z (d+1) C):=by
 refine F.ok scAValue (fun vs H Q E h=>?_) (fun cdv A outer s H vs Q E hr h=>?_)
 ·obtain⟨p,dx,fs,t,rfl,_⟩:=h
  rfl
 ·obtain⟨p,dx,fs,t,rfl,hp,hf,hc,hd,wf,rk,S,q⟩:=h
  refine⟨_,(pss_one (ps_ret (pe_op op_add (pe_methD (pe_fld (pv 0) rfl) D_value (hr.mono (by omega)) pass0 (pa_cons (pv 1) pa_nil)) (pe_methD (pe_fld (pv 0) rfl) D_value (hr.mono (by omega)) pass0 (pa_cons (pv 1) pa_nil))))),?_⟩
  obtain⟨a,b,rfl⟩:=hC t hc
  rw [hc]at hp
  obtain⟨pa,da,fa,pb,db,fb,rfl,⟨ha,ga⟩,hb,gb⟩:=hf
  have hd':max (ht a) (ht b)+1<=d+1:=hd
  have rk':∀x,x∈raw a∨x∈raw b->x∈z.ks:=fun x hx=>rk x (List.mem_append.mpr hx)
  refine⟨_,rfl,p,C,dx,_,_,rfl,hp,c.cl,c.na _ (by simp),rfl,pa,_,da,fa,rfl,ha,isC N a,nV a fa H ga,_,rfl,pa,da,fa,a,rfl,ha,ga,rfl,by omega,wf.1,fun x hx=>rk' x (.inl hx),S,fun H1 s1=>?_⟩
  refine⟨_,rfl,p,C,dx,_,_,rfl,s1 _ _ hp,c.cl,c.na _ (by simp),rfl,pb,_,db,fb,rfl,s1 _ _ hb,isC N b,nV b fb H gb,_,rfl,pb,db,fb,b,rfl,s1 _ _ hb,gb.same s1,rfl,by omega,wf.2,fun x hx=>rk' x (.inr hx),S.same s1,fun H2 s2=>?_⟩
  exact⟨_,_,rfl,rfl,q H2 (s1.trans s2)⟩
theorem scLValue:FnScope ["self","see"] ["self","see"] (defScope sLValue):=⟨rfl,rfl,rfl,by decide+kernel,rfl,by decide+kernel,by decide+kernel⟩
theorem ok_lvalue {f C:Addr} {fd:FuncData} {d:Nat} (F:Fun K "value_by" "Lessened.value_by" sLValue f fd) (c:Cf K C ["one","other"]) (hC:∀t,cls N t=C->∃a b,t= .bin 1 a b) (D_value:DVal P w K mg base N z d) (nV:NoV N):FnOk P w K mg base CX0 (d+2) f fd VPs (spVal P w N z (d+1) C):=by
 refine F.ok scLValue (fun vs H Q E h=>?_) (fun cdv A outer s H vs Q E hr h=>?_)
 ·obtain⟨p,dx,fs,t,rfl,_⟩:=h
  rfl
 ·obtain⟨p,dx,fs,t,rfl,hp,hf,hc,hd,wf,rk,S,q⟩:=h
  refine⟨_,(pss_one (ps_ret (pe_op op_sub (pe_methD (pe_fld (pv 0) rfl) D_value (hr.mono (by omega)) pass0 (pa_cons (pv 1) pa_nil)) (pe_methD (pe_fld (pv 0) rfl) D_value (hr.mono (by omega)) pass0 (pa_cons (pv 1) pa_nil))))),?_⟩
  obtain⟨a,b,rfl⟩:=hC t hc
  rw [hc]at hp
  obtain⟨pa,da,fa,pb,db,fb,rfl,⟨ha,ga⟩,hb,gb⟩:=hf
  have hd':max (ht a) (ht b)+1<=d+1:=hd
  have rk':∀x,x∈raw a∨x∈raw b->x∈z.ks:=fun x hx=>rk x (List.mem_append.mpr hx)
  refine⟨_,rfl,p,C,dx,_,_,rfl,hp,c.cl,c.na _ (by simp),rfl,pa,_,da,fa,rfl,ha,isC N a,nV a fa H ga,_,rfl,pa,da,fa,a,rfl,ha,ga,rfl,by omega,wf.1,fun x hx=>rk' x (.inl hx),S,fun H1 s1=>?_⟩
  refine⟨_,rfl,p,C,dx,_,_,rfl,s1 _ _ hp,c.cl,c.na _ (by simp),rfl,pb,_,db,fb,rfl,s1 _ _ hb,isC N b,nV b fb H gb,_,rfl,pb,db,fb,b,rfl,s1 _ _ hb,gb.same s1,rfl,by omega,wf.2,fun x hx=>rk' x (.inr hx),S.same s1,fun H2 s2=>?_⟩
  exact⟨_,_,rfl,rfl,q H2 (s1.trans s2)⟩
theorem scMValue:FnScope ["self","see"] ["self","see"] (defScope sMValue):=⟨rfl,rfl,rfl,by decide+kernel,rfl,by decide+kernel,by decide+kernel⟩
theorem ok_mvalue {f C:Addr} {fd:FuncData} {d:Nat} (F:Fun K "value_by" "Multiplied.value_by" sMValue f fd) (c:Cf K C ["one","other"]) (hC:∀t,cls N t=C->∃a b,t= .bin 2 a b) (D_value:DVal P w K mg base N z d) (nV:NoV N) (d5:d<=5):FnOk P w K mg base CX0 (d+2) f fd VPs (spVal P w N z (d+1) C):=by
 refine F.ok scMValue (fun vs H Q E h=>?_) (fun cdv A outer s H vs Q E hr h=>?_)
 ·obtain⟨p,dx,fs,t,rfl,_⟩:=h
  rfl
 ·obtain⟨p,dx,fs,t,rfl,hp,hf,hc,hd,wf,rk,S,q⟩:=h
  refine⟨_,(pss_one (ps_ret (pe_op op_mulB (pe_methD (pe_fld (pv 0) rfl) D_value (hr.mono (by omega)) pass0 (pa_cons (pv 1) pa_nil)) (pe_methD (pe_fld (pv 0) rfl) D_value (hr.mono (by omega)) pass0 (pa_cons (pv 1) pa_nil))))),?_⟩
  obtain⟨a,b,rfl⟩:=hC t hc
  rw [hc]at hp
  obtain⟨pa,da,fa,pb,db,fb,rfl,⟨ha,ga⟩,hb,gb⟩:=hf
  have hd':max (ht a) (ht b)+1<=d+1:=hd
  have rk':∀x,x∈raw a∨x∈raw b->x∈z.ks:=fun x hx=>rk x (List.mem_append.mpr hx)
  refine⟨_,rfl,p,C,dx,_,_,rfl,hp,c.cl,c.na _ (by simp),rfl,pa,_,da,fa,rfl,ha,isC N a,nV a fa H ga,_,rfl,pa,da,fa,a,rfl,ha,ga,rfl,by omega,wf.1,fun x hx=>rk' x (.inl hx),S,fun H1 s1=>?_⟩
  refine⟨_,rfl,p,C,dx,_,_,rfl,s1 _ _ hp,c.cl,c.na _ (by simp),rfl,pb,_,db,fb,rfl,s1 _ _ hb,isC N b,nV b fb H gb,_,rfl,pb,db,fb,b,rfl,s1 _ _ hb,gb.same s1,rfl,by omega,wf.2,fun x hx=>rk' x (.inr hx),S.same s1,fun H2 s2=>?_⟩
  have Bx:∀y∈z.ks,(z.f y).natAbs<2 ^ 41:=fun y hy=>let⟨_,_,l⟩:=S.wa;(l y hy).2
  exact⟨_,_,rfl,rfl,⟨val_B (by omega) wf.1 fun x hx=>Bx x (rk' x (.inl hx)),val_B (by omega) wf.2 fun x hx=>Bx x (rk' x (.inr hx))⟩,q H2 (s1.trans s2)⟩
theorem scIValue:FnScope ["self","see"] ["self","see"] (defScope sIValue):=⟨rfl,rfl,rfl,by decide+kernel,rfl,by decide+kernel,by decide+kernel⟩
theorem ok_ivalue {f C:Addr} {fd:FuncData} {d:Nat} (F:Fun K "value_by" "Least.value_by" sIValue f fd) (c:Cf K C ["one","other"]) (hC:∀t,cls N t=C->∃a b,t= .bin 3 a b) (D_value:DVal P w K mg base N z d) (nV:NoV N) (T:Txt K mg):FnOk P w K mg base CX0 (d+2) f fd VPs (spVal P w N z (d+1) C):=by
 refine F.ok scIValue (fun vs H Q E h=>?_) (fun cdv A outer s H vs Q E hr h=>?_)
 ·obtain⟨p,dx,fs,t,rfl,_⟩:=h
  rfl
 ·obtain⟨p,dx,fs,t,rfl,hp,hf,hc,hd,wf,rk,S,q⟩:=h
  refine⟨_,(pss_one (ps_ret (pe_callB (call_min2 rfl) rfl T.min boot_min (pa_cons (pe_methD (pe_fld (pv 0) rfl) D_value (hr.mono (by omega)) pass0 (pa_cons (pv 1) pa_nil)) (pa_cons (pe_methD (pe_fld (pv 0) rfl) D_value (hr.mono (by omega)) pass0 (pa_cons (pv 1) pa_nil)) pa_nil))))),?_⟩
  obtain⟨a,b,rfl⟩:=hC t hc
  rw [hc]at hp
  obtain⟨pa,da,fa,pb,db,fb,rfl,⟨ha,ga⟩,hb,gb⟩:=hf
  have hd':max (ht a) (ht b)+1<=d+1:=hd
  have rk':∀x,x∈raw a∨x∈raw b->x∈z.ks:=fun x hx=>rk x (List.mem_append.mpr hx)
  refine⟨_,rfl,p,C,dx,_,_,rfl,hp,c.cl,c.na _ (by simp),rfl,pa,_,da,fa,rfl,ha,isC N a,nV a fa H ga,_,rfl,pa,da,fa,a,rfl,ha,ga,rfl,by omega,wf.1,fun x hx=>rk' x (.inl hx),S,fun H1 s1=>?_⟩
  refine⟨_,rfl,p,C,dx,_,_,rfl,s1 _ _ hp,c.cl,c.na _ (by simp),rfl,pb,_,db,fb,rfl,s1 _ _ hb,isC N b,nV b fb H gb,_,rfl,pb,db,fb,b,rfl,s1 _ _ hb,gb.same s1,rfl,by omega,wf.2,fun x hx=>rk' x (.inr hx),S.same s1,fun H2 s2=>?_⟩
  refine⟨_,_,rfl,?_⟩
  have:=q H2 (s1.trans s2)
  rw [show val z.f (.bin 3 a b)=(if val z.f b<val z.f a then val z.f b else val z.f a)from by show min (val z.f a) (val z.f b)=_;split<;>omega]at this
  exact this
theorem scXValue:FnScope ["self","see"] ["self","see"] (defScope sXValue):=⟨rfl,rfl,rfl,by decide+kernel,rfl,by decide+kernel,by decide+kernel⟩
theorem ok_xvalue {f C:Addr} {fd:FuncData} {d:Nat} (F:Fun K "value_by" "Most.value_by" sXValue f fd) (c:Cf K C ["one","other"]) (hC:∀t,cls N t=C->∃a b,t= .bin 4 a b) (D_value:DVal P w K mg base N z d) (nV:NoV N) (T:Txt K mg):FnOk P w K mg base CX0 (d+2) f fd VPs (spVal P w N z (d+1) C):=by
 refine F.ok scXValue (fun vs H Q E h=>?_) (fun cdv A outer s H vs Q E hr h=>?_)
 ·obtain⟨p,dx,fs,t,rfl,_⟩:=h
  rfl
 ·obtain⟨p,dx,fs,t,rfl,hp,hf,hc,hd,wf,rk,S,q⟩:=h
  refine⟨_,(pss_one (ps_ret (pe_callB (call_max2 rfl) rfl T.max boot_max (pa_cons (pe_methD (pe_fld (pv 0) rfl) D_value (hr.mono (by omega)) pass0 (pa_cons (pv 1) pa_nil)) (pa_cons (pe_methD (pe_fld (pv 0) rfl) D_value (hr.mono (by omega)) pass0 (pa_cons (pv 1) pa_nil)) pa_nil))))),?_⟩
  obtain⟨a,b,rfl⟩:=hC t hc
  rw [hc]at hp
  obtain⟨pa,da,fa,pb,db,fb,rfl,⟨ha,ga⟩,hb,gb⟩:=hf
  have hd':max (ht a) (ht b)+1<=d+1:=hd
  have rk':∀x,x∈raw a∨x∈raw b->x∈z.ks:=fun x hx=>rk x (List.mem_append.mpr hx)
  refine⟨_,rfl,p,C,dx,_,_,rfl,hp,c.cl,c.na _ (by simp),rfl,pa,_,da,fa,rfl,ha,isC N a,nV a fa H ga,_,rfl,pa,da,fa,a,rfl,ha,ga,rfl,by omega,wf.1,fun x hx=>rk' x (.inl hx),S,fun H1 s1=>?_⟩
  refine⟨_,rfl,p,C,dx,_,_,rfl,s1 _ _ hp,c.cl,c.na _ (by simp),rfl,pb,_,db,fb,rfl,s1 _ _ hb,isC N b,nV b fb H gb,_,rfl,pb,db,fb,b,rfl,s1 _ _ hb,gb.same s1,rfl,by omega,wf.2,fun x hx=>rk' x (.inr hx),S.same s1,fun H2 s2=>?_⟩
  refine⟨_,_,rfl,?_⟩
  have:=q H2 (s1.trans s2)
  rw [show val z.f (.bin 4 a b)=(if val z.f b>val z.f a then val z.f b else val z.f a)from by show max (val z.f a) (val z.f b)=_;split<;>omega]at this
  exact this
theorem scRValue:FnScope ["self","see"] ["self","see"] (defScope sRValue):=⟨rfl,rfl,rfl,by decide+kernel,rfl,by decide+kernel,by decide+kernel⟩
theorem ok_rvalue {f C:Addr} {fd:FuncData} {d:Nat} (F:Fun K "value_by" "Rest.value_by" sRValue f fd) (c:Cf K C ["one","by"]) (hC:∀t,cls N t=C->∃a y,t= .rest a y) (D_value:DVal P w K mg base N z d) (nV:NoV N):FnOk P w K mg base CX0 (d+2) f fd VPs (spVal P w N z (d+1) C):=by
 refine F.ok scRValue (fun vs H Q E h=>?_) (fun cdv A outer s H vs Q E hr h=>?_)
 ·obtain⟨p,dx,fs,t,rfl,_⟩:=h
  rfl
 ·obtain⟨p,dx,fs,t,rfl,hp,hf,hc,hd,wf,rk,S,q⟩:=h
  refine⟨_,(pss_one (ps_ret (pe_op op_mod (pe_methD (pe_fld (pv 0) rfl) D_value (hr.mono (by omega)) pass0 (pa_cons (pv 1) pa_nil)) (pe_fld (pv 0) rfl)))),?_⟩
  obtain⟨a,y,rfl⟩:=hC t hc
  rw [hc]at hp
  obtain⟨pa,da,fa,rfl,ha,ga⟩:=hf
  have hd':ht a+1<=d+1:=hd
  refine⟨_,rfl,p,C,dx,_,_,rfl,hp,c.cl,c.na _ (by simp),rfl,pa,_,da,fa,rfl,ha,isC N a,nV a fa H ga,_,rfl,pa,da,fa,a,rfl,ha,ga,rfl,by omega,wf.2.2,rk,S,fun H1 s1=>?_⟩
  exact⟨_,rfl,p,C,dx,_,_,rfl,s1 _ _ hp,c.cl,c.na _ (by simp),rfl,_,_,rfl,rfl,(by have:=wf.1;omega),q H1 s1⟩
theorem scCValue:FnScope ["self","see"] ["self","see"] (defScope sCValue):=⟨rfl,rfl,rfl,by decide+kernel,rfl,by decide+kernel,by decide+kernel⟩
theorem ok_cvalue {f C:Addr} {fd:FuncData} {d:Nat} (F:Fun K "value_by" "Chosen.value_by" sCValue f fd) (c:Cf K C ["test","one","other"]) (hC:∀t,cls N t=C->∃a b e,t= .cho a b e) (D_value:DVal P w K mg base N z d) (nV:NoV N):FnOk P w K mg base CX0 (d+2) f fd VPs (spVal P w N z (d+1) C):=by
 refine F.ok scCValue (fun vs H Q E h=>?_) (fun cdv A outer s H vs Q E hr h=>?_)
 ·obtain⟨p,dx,fs,t,rfl,_⟩:=h
  rfl
 ·obtain⟨p,dx,fs,t,rfl,hp,hf,hc,hd,wf,rk,S,q⟩:=h
  refine⟨_,(pss_cons (ps_if (pt_cmpR op_gt (pe_methD (pe_fld (pv 0) rfl) D_value (hr.mono (by omega)) pass0 (pa_cons (pv 1) pa_nil)) pe_int (nomark _)) (pss_one (ps_ret (pe_methD (pe_fld (pv 0) rfl) D_value (hr.mono (by omega)) pass0 (pa_cons (pv 1) pa_nil)))) pss_nil) (pss_one (ps_ret (pe_methD (pe_fld (pv 0) rfl) D_value (hr.mono (by omega)) pass0 (pa_cons (pv 1) pa_nil))))),?_⟩
  obtain⟨a,b,e,rfl⟩:=hC t hc
  rw [hc]at hp
  obtain⟨pa,da,fa,pb,db,fb,pe,de,fe,rfl,⟨ha,ga⟩,⟨hb,gb⟩,he,ge⟩:=hf
  have hd':max (ht a) (max (ht b) (ht e))+1<=d+1:=hd
  have rk':∀x,x∈raw a∨x∈raw b∨x∈raw e->x∈z.ks:=fun x hx=>rk x (by simp only [raw,List.mem_append];exact hx)
  refine⟨_,rfl,p,C,dx,_,_,rfl,hp,c.cl,c.na _ (by simp),rfl,pa,_,da,fa,rfl,ha,isC N a,nV a fa H ga,_,rfl,pa,da,fa,a,rfl,ha,ga,rfl,by omega,wf.1,fun x hx=>rk' x (.inl hx),S,fun H1 s1=>⟨_,_,rfl,rfl,_,rfl,?_⟩⟩
  by_cases p0:0<val z.f a
  ·refine iteTe (decide_eq_true p0) ?_
   refine⟨_,rfl,p,C,dx,_,_,rfl,s1 _ _ hp,c.cl,c.na _ (by simp),rfl,pb,_,db,fb,rfl,s1 _ _ hb,isC N b,nV b fb H gb,_,rfl,pb,db,fb,b,rfl,s1 _ _ hb,gb.same s1,rfl,by omega,wf.2.1,fun x hx=>rk' x (.inr (.inl hx)),S.same s1,fun H2 s2=>?_⟩
   have:=q H2 (s1.trans s2)
   rw [val,if_pos p0]at this
   exact this
  ·refine iteFe (decide_eq_false p0) ?_
   refine⟨_,rfl,p,C,dx,_,_,rfl,s1 _ _ hp,c.cl,c.na _ (by simp),rfl,pe,_,de,fe,rfl,s1 _ _ he,isC N e,nV e fe H ge,_,rfl,pe,de,fe,e,rfl,s1 _ _ he,ge.same s1,rfl,by omega,wf.2.2,fun x hx=>rk' x (.inr (.inr hx)),S.same s1,fun H2 s2=>?_⟩
   have:=q H2 (s1.trans s2)
   rw [val,if_neg p0]at this
   exact this
end
end KY
namespace KY
open PySem PyProof.Rows L2
structure Kq (K:PySem.W.Frag) (N:Cn):Prop where
 cl:∀C,IsC N C->Cls K C
 at_:∀C,IsC N C->PySem.W.findIn K (.ref C) "__class__"=some (some (.builtin "object.__class__"))
 hn:PySem.W.specialIn K (.builtin "object.__class__") "__get__"=some (some (.builtin "getset_descriptor.__get__"))
 tk:PySem.W.takesIn K (.builtin "object.__class__")=some true
 mr:∀C,IsC N C->PySem.W.mroIn K C (.type "object")=some true
 nd:(clsL N).Nodup
 no:∀C∈clsL N,∀D∈clsL N,C≠D->PySem.W.kitOne K (.ref C) (.ref D)=some false
theorem Kq.ty {K:PySem.W.Frag} {N:Cn} (k:Kq K N) {H:Hp} {p dx:Addr} {fs:List (Str×V)} {C:Addr} (hC:IsC N C) (e:H p=some (.ins C dx fs)):TyOf K H (.ref p) (.ref C):= .ins e (k.cl C hC) (k.at_ C hC) k.hn k.tk (k.mr C hC)
theorem Kq.is {K:PySem.W.Frag} {N:Cn} (k:Kq K N) (t:Tm) {j:Nat} {D:Addr} (h:(clsL N)[j]? =some D):PySem.W.kitOne K (.ref (cls N t)) (.ref D)=some (decide (tag t=j)):=by
 have ht:=cls_at N t
 by_cases e:tag t=j
 ·rw [e,h]at ht
  rw [decide_eq_true e,Option.some.inj ht]
  unfold PySem.W.kitOne
  rw [if_pos (by simp)]
 ·rw [decide_eq_false e]
  refine k.no _ (List.mem_of_getElem? ht) _ (List.mem_of_getElem? h) fun z=>e ?_
  rw [z]at ht
  exact(List.getElem?_inj (List.getElem?_eq_some_iff.mp ht).1 k.nd).mp (ht.trans h.symm)
def kindV (t:Tm):List V:=[.bl (decide (tag t=0)),.bl (decide (tag t=1)),.bl (decide (tag t=2)),.bl (decide (tag t=3)),.bl (decide (tag t=4)),.bl (decide (tag t=5)),.bl (decide (tag t=6)),.bl (decide (tag t=7)),.bl (decide (tag t=8))]
def spKind (N:Cn):Sp:=fun vs H Q _=>∃(p dx:Addr) (fs:List (Str×V)) (t:Tm),vs=[.ref p]/\H p=some (.ins (cls N t) dx fs)/\∀(l:Addr) (H':Hp),Same H H'->H' l=some (.lst (kindV t))->Q (.ref l) H'
structure Mg (mg:Str->Option Value) (N:Cn):Prop where
 num:mg "Number"=some (.ref N.num)
 take:mg "Take"=some (.ref N.take)
 rest:mg "Rest"=some (.ref N.rest)
 cho:mg "Chosen"=some (.ref N.cho)
 bin:∀k,mg (bnm k)=some (.ref (N.bin k))
section
variable {P:Program} {w:World} {K:PySem.W.Frag} {mg:Str->Option Value} {base:Heap} {N:Cn}
theorem scKind:FnScope ["_law_term","_law_some"] ["_law_term"] (defScope sKind):=⟨rfl,rfl,rfl,by decide+kernel,rfl,by decide+kernel,by decide+kernel⟩
theorem ok_kind {f:Addr} {fd:FuncData} (F:Fun K "_law_kind" "_law_kind" sKind f fd) (Z:Kq K N) (g:Mg mg N) (T:Txt K mg):FnOk P w K mg base CX0 1 f fd ["_law_term"] (spKind N):=by
 refine F.ok scKind (fun vs H Q E h=>?_) (fun cdv A outer s H vs Q E hr h=>?_)
 ·obtain⟨p,dx,fs,t,rfl,_⟩:=h
  rfl
 ·obtain⟨p,dx,fs,t,rfl,hp,q⟩:=h
  have m_Number:=g.num
  have m_Take:=g.take
  have m_Rest:=g.rest
  have m_Chosen:=g.cho
  have m_Added:mg "Added"=some (.ref (N.bin 0)):=g.bin 0
  have m_Lessened:mg "Lessened"=some (.ref (N.bin 1)):=g.bin 1
  have m_Multiplied:mg "Multiplied"=some (.ref (N.bin 2)):=g.bin 2
  have m_Least:mg "Least"=some (.ref (N.bin 3)):=g.bin 3
  have m_Most:mg "Most"=some (.ref (N.bin 4)):=g.bin 4
  refine⟨_,(pss_cons (ps_set (i:=1) scKind.nd rfl (Or.inl rfl) (pe_lst (pa_cons (pe_callB (call_isC (K:=K) rfl) rfl T.isinstance boot_isinstance (pa_cons (pv 0) (pa_cons (pe_glob (v:= .ref N.num) rfl m_Number rfl) pa_nil))) (pa_cons (pe_callB (call_isC (K:=K) rfl) rfl T.isinstance boot_isinstance (pa_cons (pv 0) (pa_cons (pe_glob (v:= .ref N.take) rfl m_Take rfl) pa_nil))) (pa_cons (pe_callB (call_isC (K:=K) rfl) rfl T.isinstance boot_isinstance (pa_cons (pv 0) (pa_cons (pe_glob (v:= .ref N.rest) rfl m_Rest rfl) pa_nil))) (pa_cons (pe_callB (call_isC (K:=K) rfl) rfl T.isinstance boot_isinstance (pa_cons (pv 0) (pa_cons (pe_glob (v:= .ref N.cho) rfl m_Chosen rfl) pa_nil))) pa_nil)))))) (pss_cons (ps_set (i:=1) scKind.nd rfl (Or.inl rfl) (pe_op op_cat (pv 1) (pe_lst (pa_cons (pe_callB (call_isC (K:=K) rfl) rfl T.isinstance boot_isinstance (pa_cons (pv 0) (pa_cons (pe_glob (v:= .ref (N.bin 0)) rfl m_Added rfl) pa_nil))) (pa_cons (pe_callB (call_isC (K:=K) rfl) rfl T.isinstance boot_isinstance (pa_cons (pv 0) (pa_cons (pe_glob (v:= .ref (N.bin 1)) rfl m_Lessened rfl) pa_nil))) (pa_cons (pe_callB (call_isC (K:=K) rfl) rfl T.isinstance boot_isinstance (pa_cons (pv 0) (pa_cons (pe_glob (v:= .ref (N.bin 2)) rfl m_Multiplied rfl) pa_nil))) pa_nil)))))) (pss_one (ps_ret (pe_op op_cat (pv 1) (pe_lst (pa_cons (pe_callB (call_isC (K:=K) rfl) rfl T.isinstance boot_isinstance (pa_cons (pv 0) (pa_cons (pe_glob (v:= .ref (N.bin 3)) rfl m_Least rfl) pa_nil))) (pa_cons (pe_callB (call_isC (K:=K) rfl) rfl T.isinstance boot_isinstance (pa_cons (pv 0) (pa_cons (pe_glob (v:= .ref (N.bin 4)) rfl m_Most rfl) pa_nil))) pa_nil)))))))),?_⟩
  have ty:=Z.ty (isC N t) hp
  refine⟨_,rfl,_,N.num,_,_,rfl,ty,Z.is t (j:=0) rfl,_,rfl,_,N.take,_,_,rfl,ty,Z.is t (j:=1) rfl,_,rfl,_,N.rest,_,_,rfl,ty,Z.is t (j:=2) rfl,_,rfl,_,N.cho,_,_,rfl,ty,Z.is t (j:=3) rfl,by show 4<=sizeLine;decide,fun l1 n1=>?_⟩
  generalize e:upd H l1 _=H1
  obtain⟨s1,e1⟩:=new_of n1 e
  have ty1:=Z.ty (isC N t) (s1 _ _ hp)
  refine⟨_,rfl,_,rfl,_,N.bin 0,_,_,rfl,ty1,Z.is t (j:=4) rfl,_,rfl,_,N.bin 1,_,_,rfl,ty1,Z.is t (j:=5) rfl,_,rfl,_,N.bin 2,_,_,rfl,ty1,Z.is t (j:=6) rfl,by show 3<=sizeLine;decide,fun l2 n2=>?_⟩
  generalize e:upd H1 l2 _=H2
  obtain⟨s2,e2⟩:=new_of n2 e
  refine⟨l1,l2,_,_,rfl,rfl,s2 _ _ e1,e2,by show 4+3<=sizeLine;decide,fun l3 n3=>?_⟩
  generalize e:upd H2 l3 _=H3
  obtain⟨s3,e3⟩:=new_of n3 e
  have s03:=(s1.trans s2).trans s3
  have ty3:=Z.ty (isC N t) (s03 _ _ hp)
  refine⟨_,rfl,_,rfl,_,N.bin 3,_,_,rfl,ty3,Z.is t (j:=7) rfl,_,rfl,_,N.bin 4,_,_,rfl,ty3,Z.is t (j:=8) rfl,by show 2<=sizeLine;decide,fun l4 n4=>?_⟩
  generalize e:upd H3 l4 _=H4
  obtain⟨s4,e4⟩:=new_of n4 e
  refine⟨l3,l4,_,_,rfl,rfl,s4 _ _ e3,e4,by show 4+3+2<=sizeLine;decide,fun l5 n5=>?_⟩
  exact q l5 _ ((s03.trans s4).trans (sameNew n5)) upd_same
end
end KY
namespace KY
open PySem PyProof.Rows L2
structure DisA (P:Program) (w:World) (K:PySem.W.Frag) (mg:Str->Option Value) (base:Heap) (k:Nat) (Cs:Addr->Prop) (m:Str) (ps:List Str) (ok:See->Prop) (sp:See->Addr->Sp):Prop where
 ex:∀C,Cs C->Cls K C/\∃f fd,Meth K C m f/\(∀z,ok z->FnOk P w K mg base CX0 k f fd ps (sp z C))/\Binds K fd ps []
theorem DisA.one {P:Program} {w:World} {K:PySem.W.Frag} {mg:Str->Option Value} {base:Heap} {k:Nat} {Cs:Addr->Prop} {m:Str} {ps:List Str} {ok:See->Prop} {sp:See->Addr->Sp} (D:DisA P w K mg base k Cs m ps ok sp) {z:See} (hz:ok z):Dis P w K mg base CX0 k Cs m ps (sp z):=
 ⟨fun C hC=>let⟨c,f,fd,h1,h2,h3⟩:=D.ex C hC;⟨c,f,fd,h1,h2 z hz,h3⟩⟩
theorem DisA.some {P:Program} {w:World} {K:PySem.W.Frag} {mg:Str->Option Value} {base:Heap} {k:Nat} {Cs:Addr->Prop} {m:Str} {ps:List Str} {ok ok':See->Prop} {sp:See->Addr->Sp} (D:DisA P w K mg base k Cs m ps ok sp) (h:∀z,ok' z->ok z):
  Dis P w K mg base CX0 k Cs m ps (fun C vs H Q E=>∃z,ok' z/\sp z C vs H Q E):=
 ⟨fun C hC=>let⟨c,f,fd,h1,h2,h3⟩:=D.ex C hC;⟨c,f,fd,h1,⟨fun vs H Q E ⟨z,hz,q⟩=>(h2 z (h z hz)).len vs H Q E q,fun A outer s H args us vs Q E hr e0 hb hv ⟨z,hz,q⟩=>(h2 z (h z hz)).run A outer s H args us vs Q E hr e0 hb hv q⟩,h3⟩⟩
abbrev IsCl (base:Heap) (z:See):Prop:=base.IsCell z.cell (some (.ref z.dd))
abbrev DValA (P:Program) (w:World) (K:PySem.W.Frag) (mg:Str->Option Value) (base:Heap) (N:Cn) (d:Nat):Prop:=DisA P w K mg base (d+1) (IsC N) "value_by" VPs (IsCl base) (fun z=>spVal P w N z d)
theorem FldAt.keepP {N:Cn} {Pt:Addr} {H H':Hp} (s:KpP Pt H H') (n:∀b o,H b=some o->(∀ps,o≠ .tbl ps)->b≠Pt):∀{t:Tm} {fs:List (Str×V)},FldAt N H fs t->FldAt N H' fs t
 | .num _,_,h=>h
 | .take _ _,_,⟨q,e,h⟩=>⟨q,e,s _ _ (n _ _ h (by intro _ z;cases z)) h⟩
 | .rest _ _,_,⟨p,dx,gs,e,h,h2⟩=>⟨p,dx,gs,e,s _ _ (n _ _ h (by intro _ z;cases z)) h,h2.keepP s n⟩
 | .cho _ _ _,_,⟨p,dp,ps,q,dq,qs,r,dr,rs,e,⟨h1,g1⟩,⟨h2,g2⟩,h3,g3⟩=>⟨p,dp,ps,q,dq,qs,r,dr,rs,e,⟨s _ _ (n _ _ h1 (by intro _ z;cases z)) h1,g1.keepP s n⟩,⟨s _ _ (n _ _ h2 (by intro _ z;cases z)) h2,g2.keepP s n⟩,s _ _ (n _ _ h3 (by intro _ z;cases z)) h3,g3.keepP s n⟩
 | .bin _ _ _,_,⟨p,dp,ps,q,dq,qs,e,⟨h1,g1⟩,h2,g2⟩=>⟨p,dp,ps,q,dq,qs,e,⟨s _ _ (n _ _ h1 (by intro _ z;cases z)) h1,g1.keepP s n⟩,s _ _ (n _ _ h2 (by intro _ z;cases z)) h2,g2.keepP s n⟩
theorem WAt.keepP {P:Program} {w:World} {Pt:Addr} {H H':Hp} {dd:Addr} {f:Tk->Int} {ks:List Tk} (s:KpP Pt H H') (n:∀b o,H b=some o->(∀ps,o≠ .tbl ps)->b≠Pt) (h:WAt P w H dd f ks):WAt P w H' dd f ks:=by
 obtain⟨kvs,⟨z,xs,e,k⟩,l⟩:=h
 exact⟨kvs,⟨z,xs,s _ _ (n _ _ e (by intro _ z;cases z)) e,k.mono fun c ys e=>s _ _ (n _ _ e (by intro _ z;cases z)) e⟩,l⟩
theorem TrmAt.keepP {N:Cn} {Pt:Addr} {H H':Hp} (s:KpP Pt H H') (n:∀b o,H b=some o->(∀ps,o≠ .tbl ps)->b≠Pt) {t:Tm} {v:V} (h:TrmAt N H t v):TrmAt N H' t v:=let⟨p,dx,fs,e,h1,h2⟩:=h;⟨p,dx,fs,e,s _ _ (n _ _ h1 (by intro _ z;cases z)) h1,h2.keepP s n⟩
theorem dtks_self {H:Hp} {ps:List TkR} (h:∀x∈ps,PKy H x):(dTks (ps.map (·.1))).eq (dTks (ps.map (·.1)))=true:=by
 unfold dTks
 rw [D.eq]
 exact DensN.refl _ (dens_tks h)
abbrev LP:List Pos:=[lPos false,lPos true]
theorem lp_in (b:Bool):lPos b∈LP:=by cases b<;>simp
theorem lp_ne (b:Bool):∀p∈LP,p=lPos b∨¬(p.line=(lPos b).line/\p.col=(lPos b).col):=by cases b<;>decide+kernel
def spAlike (P:Program) (w:World) (N:Cn) (Pt:Addr):Sp:=fun vs H Q _=>∃(v1 v2:V) (t:Tm) (wl:Addr) (dds:List (Addr×(Tk->Int))) (ks:List Tk),vs=[v1,v2,.ref wl]/\TrmAt N H t v1/\TrmAt N H t v2/\H wl=some (.lst (dds.map fun x=>V.ref x.1))/\ht t<=4/\Wf t/\(∀x∈raw t,x∈ks)/\ks.length<18/\(∀x∈dds,WAt P w H x.1 x.2 ks)/\TabS H Pt LP lQ/\
 ∀H',KpP Pt H H'->TabS H' Pt LP lQ->Q (.bl true) H'
section
variable {P:Program} {w:World} {K:PySem.W.Frag} {mg:Str->Option Value} {base:Heap} {N:Cn}
theorem scAlike:FnScope ["_law_one","_law_other","_law_worths","_law_some","_law_left","_law_right"] ["_law_one","_law_other","_law_worths"] (defScope sAlike):=⟨rfl,rfl,rfl,by decide+kernel,rfl,by decide+kernel,by decide+kernel⟩
theorem ok_alike {f cc Pt:Addr} {oc kV doc pm ct:Value} {od an:Option Addr} {osl:Array (Option Value)}
  (lk:K.lookup f=some ⟨oc,od,.func (PySem.W.fnOf "_law_alike" "_law_alike" (defArgs sAlike) (defBody sAlike) (defScope sAlike) .none kV doc pm an (.ref cc) ct),osl⟩) (hcd:PySem.W.codeIn K (.ref cc) "_law_alike"=true)
  (hC:PySem.W.CodeHd base cc Pt) (hB:BltM mg base) (DV:∀base,DValA P w K mg base N 4) (nV:NoV N) (D_takes:Dis P w K mg base CX0 5 (IsC N) "takes" ["self"] (spTakes N 4)) (D_depth:Dis P w K mg base CX0 5 (IsC N) "depth" ["self"] (spNum N ht 4)) (D_parts:Dis P w K mg base CX0 5 (IsC N) "parts" ["self"] (spNum N prts 4))
  (nT:∀(t:Tm) (fs:List (Str×V)) H,FldAt N H fs t->fs.lookup ("takes":Str)=none/\fs.lookup ("depth":Str)=none/\fs.lookup ("parts":Str)=none) (T:Txt K mg):
  FnOk P w K mg base CX0 6 f (PySem.W.fnOf "_law_alike" "_law_alike" (defArgs sAlike) (defBody sAlike) (defScope sAlike) .none kV doc pm an (.ref cc) ct) ["_law_one","_law_other","_law_worths"] (spAlike P w N Pt):=by
 refine fn_of lk hcd scAlike (fun vs H Q E h=>?_) (fun A outer s H vs Q E hr h=>?_)
 ·obtain⟨v1,v2,t,wl,dds,ks,rfl,_⟩:=h
  rfl
 ·obtain⟨v1,v2,t,wl,dds,ks,rfl,t1,t2,hw,hd,wf,rk,kl,W,tb,q⟩:=h
  have hu:=hu_of2 hr
  have DD:∀(v:V) (base:Heap) (u:Value),RelV v u->base.IsCell (s.heap.objs.size+1) (some u)->Dis P w K mg base CX0 5 (IsC N) "value_by" VPs (fun C vs H Q E=>∃z:See,(z.cell=s.heap.objs.size+1/\V.ref z.dd=v)/\spVal P w N z 4 C vs H Q E):=fun v base u r c=>by
   refine(DV base).some fun z hz=>?_
   obtain⟨h1,rfl⟩:=hz
   obtain rfl:u=Value.ref z.dd:=r
   unfold IsCl
   rw [h1]
   exact c
  refine⟨_,PSs.nox (pss_cons (ps_if (PW.pt (pw_or (pt_cmpR (op_neD hu) (pe_methD0 (pv 0) D_takes (hr.mono (by omega)) pass0) (pe_methD0 (pv 1) D_takes (hr.mono (by omega)) pass0) (nomark _)) (pw_or1 (pt_cmpR op_ne (pe_methD0 (pv 0) D_depth (hr.mono (by omega)) pass0) (pe_methD0 (pv 1) D_depth (hr.mono (by omega)) pass0) (nomark _))))) (pss_one (ps_ret pe_bl)) pss_nil) (pss_cons (ps_if (pt_cmpR op_ne (pe_methD0 (pv 0) D_parts (hr.mono (by omega)) pass0) (pe_methD0 (pv 1) D_parts (hr.mono (by omega)) pass0) (nomark _)) (pss_one (ps_ret pe_bl)) pss_nil) (pss_cons (ps_for PassesOwn.never rfl (pi_list (pv 2)) (pg_name (i:=3) scAlike.nd rfl (Or.inr rfl)) (pss_cons (ps_set (i:=4) scAlike.nd rfl (Or.inl rfl) (pe_methDBv (c:=s.heap.objs.size+1) (y:="_law_some") (i:=3) (pv 0) DD (hr.mono (by omega)) (pa_cons (pe_lamS (lp_in false) (lp_ne false) hC rfl hB) pa_nil) rfl rfl rfl rfl)) (pss_cons (ps_set (i:=5) scAlike.nd rfl (Or.inl rfl) (pe_methDBv (c:=s.heap.objs.size+1) (y:="_law_some") (i:=3) (pv 1) DD (hr.mono (by omega)) (pa_cons (pe_lamS (lp_in true) (lp_ne true) hC rfl hB) pa_nil) rfl rfl rfl rfl)) (pss_one (ps_if (pt_cmpR op_ne (pv 4) (pv 5) (nomark _)) (pss_one (ps_ret pe_bl)) pss_nil))))) (pss_one (ps_ret pe_bl))))),?_⟩
  obtain⟨p1,dx1,f1,rfl,h1,g1⟩:=id t1
  obtain⟨p2,dx2,f2,rfl,h2,g2⟩:=id t2
  obtain⟨n1,n2,n3⟩:=nT t f1 H g1
  obtain⟨m1,m2,m3⟩:=nT t f2 H g2
  refine⟨_,rfl,p1,_,dx1,f1,rfl,h1,isC N t,n1,p1,dx1,f1,t,rfl,h1,g1,rfl,hd,⟨ks,kl,rk⟩,fun l1 ps1 H1 s1 _ e1 pk1 is1=>?_⟩
  refine⟨_,rfl,p2,_,dx2,f2,rfl,s1 _ _ h2,isC N t,m1,p2,dx2,f2,t,rfl,s1 _ _ h2,g2.same s1,rfl,hd,⟨ks,kl,rk⟩,fun l2 ps2 H2 s2 _ e2 pk2 is2=>?_⟩
  have un:=is1.uniq is2
  have d2:=dep_tks (ps2.map (·.1))
  refine⟨dTks (ps1.map (·.1)),dTks (ps2.map (·.1)),DenN.den K (Av:=Av0) _ ⟨l1,_,rfl,id,s2 _ _ e1,dens_tks fun x hx=>(pk1 x hx).same s2⟩,DenN.den K (Av:=Av0) _ ⟨l2,_,rfl,id,e2,dens_tks pk2⟩,by rw [un];simp only [dTks,D.dep];omega,_,rfl,?_⟩
  rw [un,dtks_self pk2]
  refine iteF ?_
  have s02:=s1.trans s2
  refine⟨_,rfl,p1,_,dx1,f1,rfl,s02 _ _ h1,isC N t,n2,p1,dx1,f1,t,rfl,s02 _ _ h1,g1.same s02,rfl,hd,fun H3 s3=>?_⟩
  have s03:=s02.trans s3
  refine⟨_,rfl,p2,_,dx2,f2,rfl,s03 _ _ h2,isC N t,m2,p2,dx2,f2,t,rfl,s03 _ _ h2,g2.same s03,rfl,hd,fun H4 s4=>⟨rfl,_,rfl,?_⟩⟩
  have s04:=s03.trans s4
  refine iteNS rfl ?_
  refine⟨_,rfl,p1,_,dx1,f1,rfl,s04 _ _ h1,isC N t,n3,p1,dx1,f1,t,rfl,s04 _ _ h1,g1.same s04,rfl,hd,fun H5 s5=>?_⟩
  have s05:=s04.trans s5
  refine⟨_,rfl,p2,_,dx2,f2,rfl,s05 _ _ h2,isC N t,m3,p2,dx2,f2,t,rfl,s05 _ _ h2,g2.same s05,rfl,hd,fun H6 s6=>⟨rfl,_,rfl,?_⟩⟩
  have s06:=s05.trans s6
  refine iteNS rfl ?_
  have nP:∀b o,H b=some o->(∀ps,o≠ .tbl ps)->b≠Pt:=fun b o e n=>tb.ne e n
  refine⟨_,rfl,wl,rfl,⟨_,SqL.of (s06 _ _ hw)⟩,?_⟩
  refine for_list (K:=K) (a:=wl) (xs:=dds.map fun x=>V.ref x.1) (fun i σ H7=>(∃v3 v4 v5,σ=[some (.ref p1),some (.ref p2),some (.ref wl),v3,v4,v5])/\KpP Pt H H7/\TabS H7 Pt LP lQ) ⟨⟨_,_,_,rfl⟩,KpP.of s06,tb.same s06⟩ (fun i σ H7 _ ⟨_,k7,_⟩=>SqL.of (k7 _ _ (nP _ _ hw (by intro _ z;cases z)) hw)) ?_ ?_
  ·rintro i x σ H7 hx ⟨⟨v3,v4,v5,rfl⟩,k7,tb7⟩
   obtain⟨⟨dd,g⟩,rfl,hm⟩:=get_map hx
   have Wd:=W _ (List.mem_of_getElem? hm)
   refine⟨_,rfl,_,rfl,p1,_,dx1,f1,rfl,k7 _ _ (nP _ _ h1 (by intro _ z;cases z)) h1,isC N t,nV t f1 H g1,tb7,fun c1 fl ctv H8 k8 tb8 hc1 hfl nfl=>?_⟩
   have k08:=k7.trans k8
   refine⟨⟨fl,s.heap.objs.size+1,dd,c1,_,ctv,g,ks,false⟩,⟨rfl,rfl⟩,p1,dx1,f1,t,rfl,k08 _ _ (nP _ _ h1 (by intro _ z;cases z)) h1,g1.keepP k08 nP,rfl,hd,wf,rk,⟨hfl,hc1,Wd.keepP k08 nP⟩,fun H9 s9=>?_⟩
   have k09:=k08.trans (KpP.of s9)
   refine⟨_,rfl,_,rfl,p2,_,dx2,f2,rfl,k09 _ _ (nP _ _ h2 (by intro _ z;cases z)) h2,isC N t,nV t f2 H g2,tb8.same s9,fun c2 fl2 ctv2 HA kA tbA hc2 hfl2 nfl2=>?_⟩
   have k0A:=k09.trans kA
   refine⟨⟨fl2,s.heap.objs.size+1,dd,c2,_,ctv2,g,ks,true⟩,⟨rfl,rfl⟩,p2,dx2,f2,t,rfl,k0A _ _ (nP _ _ h2 (by intro _ z;cases z)) h2,g2.keepP k0A nP,rfl,hd,wf,rk,⟨hfl2,hc2,Wd.keepP k0A nP⟩,fun HB sB=>?_⟩
   refine⟨_,rfl,_,rfl,rfl,_,rfl,iteNS rfl ?_⟩
   exact⟨⟨_,_,_,rfl⟩,k0A.trans (KpP.of sB),tbA.same sB⟩
  ·rintro σ H7 ⟨_,k7,tb7⟩
   exact q H7 k7 tb7
end
end KY
namespace KY
open PySem PyProof.Rows L2
theorem hu_4 {A:Around} {k:Nat} (hr:Room k A):A.units+4<cLine:=by have:=hr.un;omega
def Wo (v:V):Prop:=∃n:Int,v= .int n/\n.natAbs<2 ^ 41
theorem fold_get:∀(kvs acc:List (PKey×V)) (k:PKey),((valV acc k).isSome=true∨k∈kvs.map (·.1))->(∀k v,valV acc k=some v->Wo v)->(∀y∈kvs,Wo y.2)->∃v,valV (kvs.foldl (fun d x=>putK d x.1 x.2) acc) k=some v/\Wo v
 | [],acc,k,h,g,_=>by
  rcases h with h|h
  ·obtain⟨v,hv⟩:=Option.isSome_iff_exists.mp h
   exact⟨v,hv,g k v hv⟩
  ·exact nomatch h
 |y::kvs,acc,k,h,g,gk=>by
  refine fold_get kvs (putK acc y.1 y.2) k ?_ (fun j v e=>?_) fun z hz=>gk z (List.mem_cons_of_mem _ hz)
  ·rw [valV_put]
   by_cases e:k=y.1
   ·rw [if_pos e];exact .inl rfl
   ·rw [if_neg e]
    rcases h with h|h
    ·exact .inl h
    ·rcases List.mem_cons.mp h with h|h
     ·exact absurd h e
     ·exact .inr h
  ·rw [valV_put]at e
   by_cases ej:j=y.1
   ·rw [if_pos ej]at e
    rw [<-Option.some.inj e]
    exact gk y List.mem_cons_self
   ·rw [if_neg ej]at e
    exact g j v e
theorem dAll_get {kvs:List (PKey×V)} {k:PKey} (h:k∈kvs.map (·.1)) (g:∀y∈kvs,Wo y.2):∃v,valV (dAll kvs) k=some v/\Wo v:=fold_get kvs [] k (.inr h) (fun k v e=>by rw [valV_nil]at e;cases e) g
theorem prl_mono {H H':Hp} {vs:List V} {kvs:List (PKey×V)} (k:∀c zs,H c=some (.tup zs)->H' c=some (.tup zs)) (h:PrL H vs kvs):PrL H' vs kvs:=Paired.mapP h fun v x ⟨p,b,e,h1,h2⟩=>⟨p,b,e,k _ _ h1,h2.mono k⟩
abbrev kvOf (L:List (TkR×Int)):List (PKey×V):=L.map fun y=>(kyOf y.1.1,V.int y.2)
theorem Kp.kpN {a:Addr} {H H':Hp} (k:Kp a H H') (w:WellAt H a):KpN H H':=fun c o h n=>k c o h fun z=>by
 obtain⟨_,_,_,e⟩:=w
 rw [z,e]at h
 cases h
 exact n _ rfl
theorem KpN.trans {H H1 H2:Hp} (a:KpN H H1) (b:KpN H1 H2):KpN H H2:=fun c o h n=>b c o (a c o h n) n
theorem KpN.tup {H H':Hp} (k:KpN H H'):∀c zs,H c=some (.tup zs)->H' c=some (.tup zs):=fun c zs e=>k _ _ e (by intro _ z;cases z)
theorem WAt.kpN {P:Program} {w:World} {H H':Hp} {dd:Addr} {f:Tk->Int} {ks:List Tk} (s:KpN H H') (h:WAt P w H dd f ks):WAt P w H' dd f ks:=by
 obtain⟨kvs,⟨z,xs,e,k⟩,l⟩:=h
 exact⟨kvs,⟨z,xs,s _ _ e (by intro _ z;cases z),k.mono s.tup⟩,l⟩
theorem SomeAt.same {H H':Hp} {so:Addr} {ps:List TkR} (s:Same H H') (h:SomeAt H so ps):SomeAt H' so ps:=⟨s _ _ h.at_,fun x hx=>(h.pk x hx).same s,h.len⟩
theorem _root_.L2.TabS.kpN {H H':Hp} {Pt:Addr} {L:List Pos} {q:Str} (s:KpN H H') (t:TabS H Pt L q):TabS H' Pt L q:=by
 obtain⟨ps,e,ok,c⟩:=t
 refine⟨ps,s _ _ e (by intro _ z;cases z),ok,fun p hp=>?_⟩
 rcases c p hp with c|⟨c',e1,e2⟩
 ·exact .inl c
 ·exact .inr ⟨c',e1,s _ _ e2 (by intro _ z;cases z)⟩
theorem call_dictPw {X:Cx} {P:Program} {w:World} (h1:X.prog=P) (h2:X.w=w) (hc:X.calm=true) (hu:X.A.units+4<cLine):CallR X (.type "dict") (rDictP P w):=by
 subst h1 h2
 exact call_dictP hc hu
theorem kpn_upd {H:Hp} {a:Addr} {xs:List V} {o:HO} (h:H a=some (.lst xs)):KpN H (upd H a o):=fun c u e n=>by
 rw [upd_ne fun z=>by rw [z,h]at e;cases e;exact n _ rfl]
 exact e
def spLaw (K:PySem.W.Frag) (Pt:Addr):Sp:=fun vs H Q _=>∃(a:Addr) (ns:List Int),vs=[.ref a]/\SqL K H a (ns.map V.int)/\H Pt=some (.tbl #[])/\∀H',Q (.bl true) H'
section
variable {P:Program} {w:World} {K:PySem.W.Frag} {mg:Str->Option Value} {base:Heap} {N:Cn} {Pt:Addr}
abbrev NLaw:List Str:=["_law_script","_law_well_here","_law_some","_law_told_here","_law_term","_law_due","_law_text_here","_law_again","_law_worths"]
theorem scLaw:FnScope ["_law_script","_law_well_here","_law_some","_law_told_here","_law_term","_law_due","_law_text_here","_law_again","_law_worths"] ["_law_script"] (defScope sLaw):=⟨rfl,rfl,rfl,by decide+kernel,rfl,by decide+kernel,by decide+kernel⟩
abbrev NL:List Str:=["_law_script","_law_well_here","_law_some","_law_told_here","_law_term","_law_due","_law_text_here","_law_again","_law_worths"]
abbrev XL (P:Program) (w:World) (K:PySem.W.Frag) (mg:Str->Option Value) (base:Heap) (f:Addr) (cdv:Value) (A:Around) (outer:List Env) (s:Shared) (H:Hp) (E:XK):Cx:=(cxOf CX0 P w K mg base NL "law" (defScope sLaw) f cdv A outer s H E).nox
theorem law_rest {f:Addr} {cdv:Value} {A:Around} {outer:List Env} {s:Shared} {H:Hp} {E:XK} (hr:Room 17 (XL P w K mg base f cdv A outer s H E).A) (c_draw:Cal P w K mg base CX0 1 "_law_draw" ["_law_well_here","_law_most"] spDraw) (c_readT:Cal P w K mg base CX0 17 "read_term" ["text"] (spReadT N)) (c_alike:Cal P w K mg base CX0 6 "_law_alike" ["_law_one","_law_other","_law_worths"] (spAlike P w N Pt)) (D_shown:DSh P w K mg base N 4) (nS:NoS N) (T:Txt K mg):
  ∃t,PSs (XL P w K mg base f cdv A outer s H E) ((defBody sLaw).drop 9) t/\∀(nx:L2.St->Hp->Prop) (Q:VK) (a0 wp so:Addr) (ps:List TkR) (v v1 v2 v6:V) (tm:Tm) (n:Nat) (H6:Hp),WellAt H6 wp->so≠wp->SomeAt H6 so ps->ht tm<=4->TxOk tm->Ln tm n->(∀x∈raw tm,x∈ps.map (·.1))->TrmAt N H6 tm v1->TrmAt N H6 tm v2->TabS H6 Pt LP lQ->(∀H',Q (.bl true) H')->
   t {nx:=nx,rt:=Q} [some (.ref a0),some (.ref wp),some (.ref so),some v,some v1,some (.str (tx (txt tm))),some v6,some v2,none] H6:=by
 refine⟨_,(pss_cons (ps_cpC (i:=8) scLaw.nd rfl (Or.inl rfl) (own:=["_law_k"]) (cap:=[("_law_well_here",1),("_law_some",2)]) (defScope sLaw) NLaw rfl rfl (fun x h=>cell_has h) (by decide+kernel) rfl (pi_range1 rfl T.range (pa_cons pe_int pa_nil)) (fun cs cf C s2 H2 fp=>(pg_name (i:=0) (show(["_law_k","_law_well_here","_law_some"]:List Str).Nodup by decide+kernel) rfl (Or.inl rfl) (Or.inr rfl))) (fun cs cf C s2 H2 fp=>(pe_callTy (call_dictPw (P:=P) (w:=w) rfl rfl rfl (hu_4 hr)) rfl T.dict boot_dict (pa_cons (pe_cpN (own:=["_law_take"]) (icap:=[("_law_well_here",1)]) (g:=gName 0) (defScope sLaw) cf rfl rfl (by decide+kernel) rfl (pi_listK (K:=K) rfl (pv 2)) (fun cl C' s3 H3 fp'=>(pg_name (i:=0) (show(["_law_take","_law_well_here"]:List Str).Nodup by decide+kernel) rfl (Or.inl rfl) (Or.inr rfl))) (fun cl C' s3 H3 fp'=>(pe_tup (pa_cons (pv 0) (pa_cons (pe_c c_draw (hr.mono (by omega)) rfl pass0 (pa_cons (pv 1) (pa_cons (pe_op op_pow pe_int pe_int) pa_nil))) pa_nil))))) pa_nil)))) (pss_one (ps_ret (pe_and (pe_c c_alike (hr.mono (by omega)) rfl pass0 (pa_cons (pv 7) (pa_cons (pv 4) (pa_cons (pv 8) pa_nil)))) (pe_one (pe_cmpR op_eq (pe_methD0 (pe_c c_readT (hr.mono (by omega)) rfl pass0 (pa_cons (pe_methD0 (pv 7) D_shown (hr.mono (by omega)) pass0) pa_nil)) D_shown (hr.mono (by omega)) pass0) (pv 5) (nomark _))))))),?_⟩
 intro nx Q a0 wp so ps v v1 v2 v6 tm n H6 w6 nso S hd ok ln rk u1 u2 tb k
 have p40:prts tm<=40:=by
  have h1:=prts_le tm
  have h2:3 ^ ht tm<=3 ^ 4:=Nat.pow_le_pow_right (by decide) hd
  omega
 refine⟨2,rfl,by omega,by omega,fun D hD=>?_⟩
 have hDa:D≠wp:=w6.ne hD
 refine comp_range (fun i acc σ H2=>∃(v0:Option V) (dds:List (Addr×(Tk->Int))),σ=[v0,some (.ref wp),some (.ref so)]/\Kp wp H6 H2/\WellAt H2 wp/\H2 D=some (.lst acc)/\acc=(dds.map fun x=>V.ref x.1)/\dds.length=i/\∀x∈dds,WAt P w H2 x.1 x.2 (ps.map (·.1))) ⟨_,[],rfl,(Kp.of (Same.refl H6)).new hD,w6.new hD,upd_same,rfl,rfl,fun _ h=>nomatch h⟩ ?_ ?_
 ·rintro i acc σ H2 hi ⟨v0,dds,rfl,k2,w2,hD2,rfl,hll,wa⟩
  have S2:=S.kp k2 w6 nso
  have p8:=S2.len
  refine⟨_,rfl,so,rfl,⟨_,SqL.of S2.at_⟩,fun D2 hDD=>?_⟩
  have hDDa:D2≠wp:=w2.ne hDD
  refine comp_list (K:=K) (a:=so) (xs:=ps.map fun x=>V.ref x.2) (fun i acc σ H3=>∃(v0:Option V) (L:List (TkR×Int)),σ=[v0,some (.ref wp)]/\Kp wp H2 H3/\WellAt H3 wp/\H3 D2=some (.lst acc)/\PrL H3 acc (kvOf L)/\L.map (·.1)=ps.take i/\∀y∈L,y.2.natAbs<2 ^ 41) ⟨_,[],rfl,(Kp.of (Same.refl H2)).new hDD,w2.new hDD,upd_same,.nil,rfl,fun _ h=>nomatch h⟩
   (fun i acc σ H3 _ ⟨_,_,_,k3,_⟩=>SqL.of (k3 _ _ S2.at_ nso)) ?_ ?_
  ·rintro j x acc σ H3 hj hx ⟨v0,L,rfl,k3,w3,hD3,pr,el,bl⟩
   rw [List.length_map]at hj
   have hx':x= .ref ps[j].2:=by
    rw [List.getElem?_map,List.getElem?_eq_getElem hj]at hx
    exact(Option.some.inj hx).symm
   subst hx'
   refine⟨_,rfl,_,rfl,_,_,rfl,rfl,⟨by decide,by decide,by decide⟩,wp,10 ^ 9,rfl,w3,by decide,by decide,fun r H5 hr5 k5 w5=>?_⟩
   refine⟨by show 2<=sizeLine;decide,fun t ht=>?_⟩
   have hD5:H5 D2=some (.lst acc):=k5 _ _ hD3 hDDa
   have tD:t≠D2:=Ne.symm (ne_of_none hD5 ht)
   have la:acc.length=L.length:=by rw [Paired.length pr,List.length_map]
   have ll:L.length=j:=by have:=congrArg List.length el;rw [List.length_map,List.length_take]at this;omega
   have up:∀c zs,H5 c=some (.tup zs)->upd (upd H5 t (.tup [V.ref ps[j].2,V.int (r:Int)])) D2 (.lst (acc++[V.ref t])) c=some (.tup zs):=fun c zs e=>by
    have cD:c≠D2:=fun z=>by rw [z,hD5]at e;cases e
    rw [upd_ne cD,upd_ne (ne_of_none e ht)]
    exact e
   have hky:PKy H5 ps[j]:=(S2.pk ps[j] (List.getElem_mem hj)).mono fun c zs e=>(k3.trans k5).tup w2 e
   refine cturn (by rw [upd_ne (Ne.symm tD)];exact hD5) (small (by omega)) (by rw [List.length_map];exact hj) ⟨_,L++[(ps[j],(r:Int))],rfl,((k3.trans k5).new ht).upd hDD,(w5.new ht).upd hDDa,upd_same,?_,?_,fun y hy=>?_⟩
   ·rw [show kvOf (L++[(ps[j],(r:Int))])=kvOf L++[(kyOf ps[j].1,V.int (r:Int))]from List.map_append]
    exact Paired.snoc' (prl_mono (fun c zs e=>up c zs (k5.tup w3 e)) pr) ⟨t,ps[j].2,rfl,by rw [upd_ne tD,upd_same],(pky_kd hky).mono up⟩
   ·rw [List.map_append,el,List.take_succ,List.getElem?_eq_getElem hj]
    rfl
   ·rcases List.mem_append.mp hy with z|z
    ·exact bl y z
    ·rw [List.mem_singleton.mp z]
     show(r:Int).natAbs<2 ^ 41
     omega
  ·rintro acc σ H3 ⟨v0,L,rfl,k3,w3,hD3,pr,el,bl⟩
   rw [List.length_map,List.take_length]at el
   refine⟨D2,acc,kvOf L,rfl,hD3,pr,fun dd H4 hdd s4 _ pd=>?_⟩
   have G:∀y∈kvOf L,Wo y.2:=fun y hy=>by
    obtain⟨z,hz,rfl⟩:=List.mem_map.mp hy
    exact⟨z.2,rfl,bl z hz⟩
   have at_:∀x∈ps.map (·.1),∃v,valV (dAll (kvOf L)) (kyOf x)=some v/\Wo v:=fun x hx=>by
    refine dAll_get ?_ G
    obtain⟨y,hy,rfl⟩:=List.mem_map.mp hx
    rw [<-el]at hy
    obtain⟨z,hz,rfl⟩:=List.mem_map.mp hy
    exact List.mem_map.mpr ⟨_,List.mem_map.mpr ⟨z,hz,rfl⟩,rfl⟩
   obtain⟨fW,W4⟩:∃fW:Tk->Int,WAt P w H4 dd fW (ps.map (·.1)):=⟨(fun x=>match valV (dAll (kvOf L)) (kyOf x)with|some (.int n)=>n|_=>0),_,pd,fun x hx=>by
    obtain⟨v,e,n,rfl,hn⟩:=at_ x hx
    simp only [e]
    exact⟨trivial,hn⟩⟩
   have hD4:H4 D=some (.lst (dds.map fun x=>V.ref x.1)):=s4 _ _ (k3 _ _ hD2 hDa)
   have n24:KpN H2 H4:=(k3.kpN w2).trans (KpN.of s4)
   refine cturn hD4 (small (by rw [List.length_map];omega)) hi ⟨_,dds++[(dd,fW)],rfl,(k2.trans (k3.same s4)).upd hD,(w3.same s4).upd hDa,upd_same,by rw [List.map_append];rfl,by rw [List.length_append,hll];rfl,fun x hx=>?_⟩
   rcases List.mem_append.mp hx with m|m
   ·exact((wa x m).kpN n24).kpN (kpn_upd hD4)
   ·rw [List.mem_singleton.mp m]
    exact W4.kpN (kpn_upd hD4)
 ·rintro acc σ H2 ⟨v0,dds,rfl,k2,w2,hD2,rfl,hll,wa⟩
  have n02:KpN H6 H2:=k2.kpN w6
  have tb2:=tb.kpN n02
  have t1:=u1.keep n02
  have t2:=u2.keep n02
  refine⟨_,rfl,_,rfl,_,rfl,v2,v1,tm,D,dds,ps.map (·.1),rfl,t2,t1,hD2,hd,ok.1,rk,by rw [List.length_map];have:=S.len;omega,wa,tb2,fun H3 k3 tb3=>?_⟩
  refine⟨true,rfl,iteT ?_⟩
  have nP:∀b o,H2 b=some o->(∀ps,o≠ .tbl ps)->b≠Pt:=fun b o e n=>tb2.ne e n
  have t3:=t2.keepP k3 nP
  obtain⟨p2,d2,f2,rfl,h2,g2⟩:=t3
  refine⟨_,rfl,p2,_,d2,f2,rfl,h2,isC N tm,nS tm f2 H3 g2,p2,d2,f2,tm,rfl,h2,g2,rfl,hd,ok,p40,fun H4 s4=>?_⟩
  refine⟨tm,n,rfl,hd,ok,p40,ln,fun v' H5 s5 u5=>?_⟩
  obtain⟨p3,d3,f3,rfl,h3,g3⟩:=u5
  refine⟨p3,_,d3,f3,rfl,h3,isC N tm,nS tm f3 H5 g3,p3,d3,f3,tm,rfl,h3,g3,rfl,hd,ok,p40,fun H6' s6=>?_⟩
  refine⟨_,rfl,rfl,?_⟩
  rw [decide_eq_true rfl]
  exact k H6'
theorem den_kind {H:Hp} {l:Addr} {t:Tm} (h:H l=some (.lst (kindV t))):DenN Av0 H (.ls ((kindV t).map D.fl)) (.ref l):=by
 refine⟨l,_,rfl,id,h,?_⟩
 exact⟨_,_,rfl,⟨rfl,rfl⟩,_,_,rfl,⟨rfl,rfl⟩,_,_,rfl,⟨rfl,rfl⟩,_,_,rfl,⟨rfl,rfl⟩,_,_,rfl,⟨rfl,rfl⟩,_,_,rfl,⟨rfl,rfl⟩,_,_,rfl,⟨rfl,rfl⟩,_,_,rfl,⟨rfl,rfl⟩,_,_,rfl,⟨rfl,rfl⟩,rfl⟩
theorem kind_self (t:Tm):(D.ls ((kindV t).map D.fl)).eq (D.ls ((kindV t).map D.fl))=true:=by simp [kindV,D.eq,D.eqs,eqV]
theorem kind_dep (t:Tm):(D.ls ((kindV t).map D.fl)).dep<=2:=by simp [kindV,D.dep,D.deps]
theorem ok_law {f:Addr} {fd:FuncData} (F:Fun K "law" "law" sLaw f fd) (c_well:Cal P w K mg base CX0 2 "_law_well" ["_law_script","_law_k"] (spWell K)) (c_draw:Cal P w K mg base CX0 1 "_law_draw" ["_law_well_here","_law_most"] spDraw) (c_some:Cal P w K mg base CX0 3 "_law_some_takes" ["_law_well_here","_law_lines"] spSome)
  (c_told:Cal P w K mg base CX0 6 "_law_told" ["_law_well_here","_law_some","_law_deep"] (spTold 4)) (c_made:Cal P w K mg base CX0 6 "_law_made" ["_law_told_here"] (spMade N 4)) (c_text:Cal P w K mg base CX0 5 "_law_text" ["_law_told_here"] (spText 4)) (c_kind:Cal P w K mg base CX0 1 "_law_kind" ["_law_term"] (spKind N))
  (c_readT:Cal P w K mg base CX0 17 "read_term" ["text"] (spReadT N)) (c_alike:Cal P w K mg base CX0 6 "_law_alike" ["_law_one","_law_other","_law_worths"] (spAlike P w N Pt)) (D_shown:DSh P w K mg base N 4) (nS:NoS N) (T:Txt K mg):FnOk P w K mg base CX0 18 f fd ["_law_script"] (spLaw K Pt):=by
 refine F.ok scLaw (fun vs H Q E h=>?_) (fun cdv A outer s H vs Q E hr h=>?_)
 ·obtain⟨a,ns,rfl,_⟩:=h
  rfl
 ·obtain⟨a0,ns0,rfl,hS,hPt,k⟩:=h
  have hu:=hu_of2 hr
  have tb0:TabS H Pt LP lQ:=⟨#[],hPt,True.intro,fun _ _=> .inl rfl⟩
  obtain⟨tR,hR,rR⟩:=law_rest (f:=f) (cdv:=cdv) (A:=A) (outer:=outer) (s:=s) (H:=H) (E:=E) hr c_draw c_readT c_alike D_shown nS T
  refine⟨_,(pss_cons (ps_set (i:=1) scLaw.nd rfl (Or.inr rfl) (pe_c c_well (hr.mono (by omega)) rfl pass0 (pa_cons (pv 0) (pa_cons pe_int pa_nil)))) (pss_cons (ps_set (i:=2) scLaw.nd rfl (Or.inr rfl) (pe_c c_some (hr.mono (by omega)) rfl pass0 (pa_cons (pv 1) (pa_cons (pe_op op_add pe_int (pe_c c_draw (hr.mono (by omega)) rfl pass0 (pa_cons (pv 1) (pa_cons pe_int pa_nil)))) pa_nil)))) (pss_cons (ps_set (i:=3) scLaw.nd rfl (Or.inl rfl) (pe_c c_told (hr.mono (by omega)) rfl pass0 (pa_cons (pv 1) (pa_cons (pv 2) (pa_cons pe_int pa_nil))))) (pss_cons (ps_set (i:=4) scLaw.nd rfl (Or.inl rfl) (pe_c c_made (hr.mono (by omega)) rfl pass0 (pa_cons (pv 3) pa_nil))) (pss_cons (ps_set (i:=5) scLaw.nd rfl (Or.inl rfl) (pe_c c_text (hr.mono (by omega)) rfl pass0 (pa_cons (pv 3) pa_nil))) (pss_cons (ps_set (i:=6) scLaw.nd rfl (Or.inl rfl) (pe_methD0 (pv 4) D_shown (hr.mono (by omega)) pass0)) (pss_cons (ps_if (PW.pt (pw_or (pt_not (pt_val (pe_callB call_isinst rfl T.isinstance boot_isinstance (pa_cons (pv 6) (pa_cons (pe_ty rfl T.str boot_str) pa_nil))))) (pw_or1 (pt_cmpR op_ne (pv 6) (pv 5) (nomark _))))) (pss_one (ps_ret pe_bl)) pss_nil) (pss_cons (ps_set (i:=7) scLaw.nd rfl (Or.inl rfl) (pe_c c_readT (hr.mono (by omega)) rfl pass0 (pa_cons (pv 5) pa_nil))) (pss_cons (ps_if (PW.pt (pw_or (pt_cmpR (op_neD hu) (pe_c c_kind (hr.mono (by omega)) rfl pass0 (pa_cons (pv 7) pa_nil)) (pe_c c_kind (hr.mono (by omega)) rfl pass0 (pa_cons (pv 4) pa_nil)) (nomark _)) (pw_or1 (pt_cmpR op_ne (pe_methD0 (pv 7) D_shown (hr.mono (by omega)) pass0) (pv 5) (nomark _))))) (pss_one (ps_ret pe_bl)) pss_nil) hR))))))))),?_⟩
  refine⟨_,rfl,a0,ns0,0,rfl,hS,fun wp H1 s1 hw w1=>?_⟩
  refine⟨_,rfl,_,rfl,wp,3,rfl,w1,by decide,by decide,fun n1 H2 hn1 k2 w2=>⟨_,_,rfl,rfl,?_⟩⟩
  refine⟨wp,1+n1,rfl,w2,by omega,fun so ps H3 k3 w3 hso e3 pk3 len3=>?_⟩
  have nso:so≠wp:=w2.ne hso
  have n03:KpN H H3:=(KpN.of s1).trans ((k2.kpN w1).trans (k3.kpN w2))
  have S3:SomeAt H3 so ps:=⟨e3,fun x hx=>(pk3 x hx).1,by omega⟩
  refine⟨_,rfl,_,rfl,wp,so,ps,3,rfl,w3,nso,S3,by decide,fun v t H4 k4 w4 tu h4 f4 r4=>?_⟩
  have S4:=S3.kp k4 w3 nso
  have n04:=n03.trans (k4.kpN w3)
  have p40:prts t<=40:=by
   have h1:=prts_le t
   have h2:3 ^ ht t<=3 ^ 4:=Nat.pow_le_pow_right (by decide) h4
   omega
  have pr:∀x∈raw t,x.2.length=1+n1/\GoodT x:=fun x hx=>by
   obtain⟨y,hy,rfl⟩:=List.mem_map.mp (r4 x hx)
   exact(pk3 y hy).2
  have ok:TxOk t:=⟨f4,fun x hx=>⟨(pr x hx).2,by rw [(pr x hx).1];omega,by rw [(pr x hx).1];omega⟩⟩
  have ln:Ln t (1+n1):=⟨by omega,fun x hx=>(pr x hx).1,ps.map (·.1),by rw [List.length_map];omega,r4⟩
  refine⟨_,rfl,v,t,rfl,tu,h4,fun v1 H5 s5 u1=>?_⟩
  refine⟨_,rfl,v,t,rfl,tu.same s5,h4,ok,p40,fun H6 s6=>?_⟩
  obtain⟨p1,d1,f1,rfl,h1,g1⟩:=u1.same s6
  refine⟨_,rfl,p1,_,d1,f1,rfl,h1,isC N t,nS t f1 H6 g1,p1,d1,f1,t,rfl,h1,g1,rfl,h4,ok,p40,fun H7 s7=>?_⟩
  refine⟨_,rfl,_,"str",_,true,rfl,.str _,rfl,_,rfl,iteF ?_⟩
  refine⟨_,rfl,_,rfl,rfl,_,rfl,iteNS rfl ?_⟩
  refine⟨_,rfl,t,1+n1,rfl,h4,ok,p40,ln,fun v2 H8 s8 u2=>?_⟩
  obtain⟨p2,d2,f2,rfl,h2,g2⟩:=u2
  refine⟨_,rfl,p2,d2,f2,t,rfl,h2,fun l1 H9 s9 e9=>?_⟩
  have s79:=s7.trans (s8.trans s9)
  refine⟨_,rfl,p1,d1,f1,t,rfl,s79 _ _ h1,fun l2 HA sA eA=>?_⟩
  have dk:=kind_dep t
  refine⟨_,_,DenN.den K (Av:=Av0) _ (den_kind (sA _ _ e9)),DenN.den K (Av:=Av0) _ (den_kind eA),by omega,_,rfl,?_⟩
  rw [kind_self]
  refine iteF ?_
  have s8A:=s9.trans sA
  refine⟨_,rfl,p2,_,d2,f2,rfl,s8A _ _ h2,isC N t,nS t f2 H8 g2,p2,d2,f2,t,rfl,s8A _ _ h2,g2.same s8A,rfl,h4,ok,p40,fun HB sB=>?_⟩
  refine⟨_,rfl,rfl,_,rfl,iteNS rfl ?_⟩
  have s8B:=s8A.trans sB
  have s6B:=s7.trans (s8.trans s8B)
  have s4B:=s5.trans (s6.trans s6B)
  exact rR _ Q a0 wp so ps v (.ref p1) (.ref p2) _ t (1+n1) HB (w4.same s4B) nso (S4.same s4B) h4 ok ln r4 ⟨p1,d1,f1,rfl,s6B _ _ h1,g1.same s6B⟩ ⟨p2,d2,f2,rfl,s8B _ _ h2,g2.same s8B⟩ ((tb0.kpN n04).same s4B) k
end
end KY
namespace KY
open PySem PyProof.Rows L2
theorem knS {us:List Value} {n:Nat} {P:List Value->Prop} (h:us.length=n+1) (k:∀a t,t.length=n->P (a::t)):P us:=by
 cases us with
 |nil=>cases h
 |cons a t=>exact k a t (Nat.succ.inj h)
theorem kn1 {us:List Value} {P:List Value->Prop} (h:us.length=1) (k:∀a,P [a]):P us:=knS h fun a t ht=>by cases t with|nil=>exact k a|cons=>cases ht
theorem kn2 {us:List Value} {P:List Value->Prop} (h:us.length=2) (k:∀a b,P [a,b]):P us:=knS h fun a t ht=>kn1 (P:=fun t=>P (a::t)) ht fun b=>k a b
theorem kn3 {us:List Value} {P:List Value->Prop} (h:us.length=3) (k:∀a b c,P [a,b,c]):P us:=knS h fun a t ht=>kn2 (P:=fun t=>P (a::t)) ht fun b c=>k a b c
theorem kn4 {us:List Value} {P:List Value->Prop} (h:us.length=4) (k:∀a b c d,P [a,b,c,d]):P us:=knS h fun a t ht=>kn3 (P:=fun t=>P (a::t)) ht fun b c d=>k a b c d
theorem kb1 {fd:FuncData} {ps:List Str} {us:List Value} (h:us.length=1) (k:∀a,bindArgs fd ⟨[a],[]⟩=pure (ps.zip [a])):bindArgs fd ⟨us,[]⟩=pure (ps.zip us):=kn1 (P:=fun us=>bindArgs fd ⟨us,[]⟩=pure (ps.zip us)) h k
theorem kb2 {fd:FuncData} {ps:List Str} {us:List Value} (h:us.length=2) (k:∀a b,bindArgs fd ⟨[a,b],[]⟩=pure (ps.zip [a,b])):bindArgs fd ⟨us,[]⟩=pure (ps.zip us):=kn2 (P:=fun us=>bindArgs fd ⟨us,[]⟩=pure (ps.zip us)) h k
theorem kb3 {fd:FuncData} {ps:List Str} {us:List Value} (h:us.length=3) (k:∀a b c,bindArgs fd ⟨[a,b,c],[]⟩=pure (ps.zip [a,b,c])):bindArgs fd ⟨us,[]⟩=pure (ps.zip us):=kn3 (P:=fun us=>bindArgs fd ⟨us,[]⟩=pure (ps.zip us)) h k
theorem kb4 {fd:FuncData} {ps:List Str} {us:List Value} (h:us.length=4) (k:∀a b c d,bindArgs fd ⟨[a,b,c,d],[]⟩=pure (ps.zip [a,b,c,d])):bindArgs fd ⟨us,[]⟩=pure (ps.zip us):=kn4 (P:=fun us=>bindArgs fd ⟨us,[]⟩=pure (ps.zip us)) h k
theorem no_names {N:Cn} (m:Str) (hm:∀x∈(["value","back","steps","one","by","test","other"]:List Str),(m==x)=false):∀(t:Tm) (fs:List (Str×V)) (H:Hp),FldAt N H fs t->fs.lookup m=none:=by
 have g:∀{fs:List (Str×V)},(∀p∈fs,(m==p.1)=false)->fs.lookup m=none:=fun{fs}=>by
  induction fs with
  |nil=>intro _;rfl
  |cons p l ih=>
   intro h
   rw [List.lookup_cons,h p List.mem_cons_self]
   exact ih fun q hq=>h q (List.mem_cons_of_mem _ hq)
 intro t fs H h
 cases t with
 |num n=>
  subst h
  exact g fun p hp=>by rw [List.mem_singleton.mp hp];exact hm _ (by simp)
 |take b ss=>
  obtain⟨q,rfl,_⟩:=h
  refine g fun p hp=>hm _ ?_
  simp only [List.mem_cons,List.not_mem_nil,or_false]at hp
  rcases hp with rfl|rfl<;>simp
 |rest a y=>
  obtain⟨_,_,_,rfl,_⟩:=h
  refine g fun p hp=>hm _ ?_
  simp only [List.mem_cons,List.not_mem_nil,or_false]at hp
  rcases hp with rfl|rfl<;>simp
 |cho a b c=>
  obtain⟨_,_,_,_,_,_,_,_,_,rfl,_⟩:=h
  refine g fun p hp=>hm _ ?_
  simp only [List.mem_cons,List.not_mem_nil,or_false]at hp
  rcases hp with rfl|rfl|rfl<;>simp
 |bin k a b=>
  obtain⟨_,_,_,_,_,_,rfl,_⟩:=h
  refine g fun p hp=>hm _ ?_
  simp only [List.mem_cons,List.not_mem_nil,or_false]at hp
  rcases hp with rfl|rfl<;>simp
structure CV (P:Program) (w:World) (K:PySem.W.Frag) (mg:Str->Option Value) (N:Cn) (C:Addr):Prop where
 ex:∃f fd,Meth K C "value_by" f/\Binds K fd VPs []/\∀(base:Heap) (z:See) (d:Nat),d<=5->IsCl base z->DVal P w K mg base N z d->FnOk P w K mg base CX0 (d+2) f fd VPs (spVal P w N z (d+1) C)
section
variable {P:Program} {w:World} {K:PySem.W.Frag} {mg:Str->Option Value} {base:Heap} {N:Cn}
theorem dis_inner {f1 f2 f3 f4:Addr} {g1 g2 g3 g4:FuncData} (nd:(clsL N).Nodup) (F1:Fun K "inner" "Term.inner" sTInner f1 g1) (F2:Fun K "inner" "Paired.inner" sPInner f2 g2) (F3:Fun K "inner" "Rest.inner" sRInner f3 g3) (F4:Fun K "inner" "Chosen.inner" sCInner f4 g4)
  (b1:Binds K g1 ["self"] []) (b2:Binds K g2 ["self"] []) (b3:Binds K g3 ["self"] []) (b4:Binds K g4 ["self"] [])
  (c1:Cf K N.num ["value"]) (c2:Cf K N.take ["back","steps"]) (c3:Cf K N.rest ["one","by"]) (c4:Cf K N.cho ["test","one","other"]) (c5:∀k,Cf K (N.bin k) ["one","other"])
  (m1:Meth K N.num "inner" f1) (m2:Meth K N.take "inner" f1) (m3:Meth K N.rest "inner" f3) (m4:Meth K N.cho "inner" f4) (m5:∀k,Meth K (N.bin k) "inner" f2):Dis P w K mg base CX0 1 (IsC N) "inner" ["self"] (spInner N):=by
 refine⟨fun C hC=>?_⟩
 rcases hC with rfl|rfl|rfl|rfl|⟨k,rfl⟩
 ·exact⟨c1.cl,f1,g1,m1,ok_tinner F1 fun t h=>(is_num nd h).1,b1⟩
 ·exact⟨c2.cl,f1,g1,m2,ok_tinner F1 (fun t h=>by obtain⟨b,ss,rfl⟩:=is_take nd h;rfl),b1⟩
 ·exact⟨c3.cl,f3,g3,m3,ok_rinner F3 c3 fun t h=>is_rest nd h,b3⟩
 ·exact⟨c4.cl,f4,g4,m4,ok_cinner F4 c4 fun t h=>is_cho nd h,b4⟩
 ·exact⟨(c5 k).cl,f2,g2,m5 k,ok_pinner F2 (c5 k) fun t h=>is_bin nd h,b2⟩
theorem dis_takes {f1 f2:Addr} {g1 g2:FuncData} (nd:(clsL N).Nodup) (F1:Fun K "takes" "Term.takes" sTTakes f1 g1) (F2:Fun K "takes" "Take.takes" sKTakes f2 g2) (b1:Binds K g1 ["self"] []) (b2:Binds K g2 ["self"] []) (cl:∀C,IsC N C->Cls K C) (c2:Cf K N.take ["back","steps"])
  (m1:∀C,IsC N C->C≠N.take->Meth K C "takes" f1) (m2:Meth K N.take "takes" f2) (D_inner:Dis P w K mg base CX0 1 (IsC N) "inner" ["self"] (spInner N)) (T:Txt K mg) (nT:∀(t:Tm) (fs:List (Str×V)) H,FldAt N H fs t->fs.lookup ("takes":Str)=none/\fs.lookup ("inner":Str)=none):
  ∀d,Dis P w K mg base CX0 (d+1) (IsC N) "takes" ["self"] (spTakes N d)
 |0=>⟨fun C hC=>⟨cl C hC,by
   have no:∀vs H Q E,¬spTakes N 0 C vs H Q E:=fun vs H Q E ⟨_,_,_,t,_,_,_,_,h,_⟩=>absurd (ht_pos t) (by omega)
   by_cases e:C=N.take
   ·subst e
    exact⟨f2,g2,m2,fn_none no,b2⟩
   ·exact⟨f1,g1,m1 C hC e,fn_none no,b1⟩⟩⟩
 |d+1=>⟨fun C hC=>⟨cl C hC,by
   by_cases e:C=N.take
   ·subst e
    exact⟨f2,g2,m2,ok_ktakes F2 c2 fun t h=>is_take nd h,b2⟩
   ·exact⟨f1,g1,m1 C hC e,ok_ttakes F1 D_inner (dis_takes nd F1 F2 b1 b2 cl c2 m1 m2 D_inner T nT d) T (fun t h b ss z=>e (by rw [<-h,z];rfl)) nT,b1⟩⟩⟩
theorem dis_depth {f1:Addr} {g1:FuncData} (F1:Fun K "depth" "Term.depth" sTDepth f1 g1) (b1:Binds K g1 ["self"] []) (cl:∀C,IsC N C->Cls K C) (m1:∀C,IsC N C->Meth K C "depth" f1) (D_inner:Dis P w K mg base CX0 1 (IsC N) "inner" ["self"] (spInner N)) (T:Txt K mg)
  (nI:∀(t:Tm) (fs:List (Str×V)) H,FldAt N H fs t->fs.lookup ("inner":Str)=none) (nD:∀(t:Tm) (fs:List (Str×V)) H,FldAt N H fs t->fs.lookup ("depth":Str)=none):∀d,Dis P w K mg base CX0 (d+1) (IsC N) "depth" ["self"] (spNum N ht d)
 |0=>⟨fun C hC=>⟨cl C hC,f1,g1,m1 C hC,fn_none (fun vs H Q E ⟨_,_,_,t,_,_,_,_,h,_⟩=>absurd (ht_pos t) (by omega)),b1⟩⟩
 |d+1=>⟨fun C hC=>⟨cl C hC,f1,g1,m1 C hC,ok_tdepth F1 D_inner (dis_depth F1 b1 cl m1 D_inner T nI nD d) T nI nD,b1⟩⟩
theorem dis_parts {f1:Addr} {g1:FuncData} (F1:Fun K "parts" "Term.parts" sTParts f1 g1) (b1:Binds K g1 ["self"] []) (cl:∀C,IsC N C->Cls K C) (m1:∀C,IsC N C->Meth K C "parts" f1) (D_inner:Dis P w K mg base CX0 1 (IsC N) "inner" ["self"] (spInner N)) (T:Txt K mg)
  (nI:∀(t:Tm) (fs:List (Str×V)) H,FldAt N H fs t->fs.lookup ("inner":Str)=none) (nD:∀(t:Tm) (fs:List (Str×V)) H,FldAt N H fs t->fs.lookup ("parts":Str)=none):∀d,d<=4->Dis P w K mg base CX0 (d+1) (IsC N) "parts" ["self"] (spNum N prts d)
 |0,_=>⟨fun C hC=>⟨cl C hC,f1,g1,m1 C hC,fn_none (fun vs H Q E ⟨_,_,_,t,_,_,_,_,h,_⟩=>absurd (ht_pos t) (by omega)),b1⟩⟩
 |d+1,hd=>⟨fun C hC=>⟨cl C hC,f1,g1,m1 C hC,ok_tparts F1 D_inner (dis_parts F1 b1 cl m1 D_inner T nI nD d (by omega)) T nI nD (prts_small (by omega)),b1⟩⟩
theorem cal_told {f:Addr} {fd:FuncData} (F:Fun K "_law_told" "_law_told" sTold f fd) (m:mg "_law_told"=some (.ref f)) (k:PySem.W.keepIn K (.ref f)=true) (b:Binds K fd ["_law_well_here","_law_some","_law_deep"] []) (c_draw:Cal P w K mg base CX0 1 "_law_draw" ["_law_well_here","_law_most"] spDraw) (c_number:Cal P w K mg base CX0 2 "_law_number" ["_law_well_here"] spNumber) (T:Txt K mg):
  ∀d,Cal P w K mg base CX0 (d+2) "_law_told" ["_law_well_here","_law_some","_law_deep"] (spTold d)
 |0=>⟨_,_,fn_none (fun vs H Q E ⟨_,_,_,e,_,_,_,_,h,_⟩=>absurd h (by omega)),m,k,b⟩
 |d+1=>⟨_,_,ok_told F c_draw c_number (cal_told F m k b c_draw c_number T d) T,m,k,b⟩
theorem cal_made {f:Addr} {fd:FuncData} (F:Fun K "_law_made" "_law_made" sMade f fd) (m:mg "_law_made"=some (.ref f)) (k:PySem.W.keepIn K (.ref f)=true) (b:Binds K fd ["_law_told_here"] [])
  (st:∀d,Cal P w K mg base CX0 (d+2) "_law_made" ["_law_told_here"] (spMade N d)->FnOk P w K mg base CX0 (d+3) f fd ["_law_told_here"] (spMade N (d+1))):∀d,Cal P w K mg base CX0 (d+2) "_law_made" ["_law_told_here"] (spMade N d)
 |0=>⟨_,_,fn_none (fun vs H Q E ⟨_,t,_,_,h,_⟩=>absurd (ht_pos t) (by omega)),m,k,b⟩
 |d+1=>⟨_,_,st d (cal_made F m k b st d),m,k,b⟩
theorem cal_ff {f:Addr} {fd:FuncData} (F:Fun K "first_fault" "first_fault" sFirst f fd) (m:mg "first_fault"=some (.ref f)) (k:PySem.W.keepIn K (.ref f)=true) (b:Binds K fd ["term"] []) (D_inner:Dis P w K mg base CX0 1 (IsC N) "inner" ["self"] (spInner N)) (D_fault:Dis P w K mg base CX0 4 (IsC N) "own_fault" ["self"] (spFault N))
  (nI:∀(t:Tm) (fs:List (Str×V)) H,FldAt N H fs t->fs.lookup ("inner":Str)=none) (nF:∀(t:Tm) (fs:List (Str×V)) H,FldAt N H fs t->fs.lookup ("own_fault":Str)=none):∀d,Cal P w K mg base CX0 (d+4) "first_fault" ["term"] (spFF N d)
 |0=>⟨_,_,fn_none (fun vs H Q E ⟨_,_,_,t,_,_,_,h,_⟩=>absurd (ht_pos t) (by omega)),m,k,b⟩
 |d+1=>⟨_,_,ok_ff F (cal_ff F m k b D_inner D_fault nI nF d) D_inner D_fault nI nF,m,k,b⟩
theorem is_num' {N:Cn} (nd:(clsL N).Nodup) {t:Tm} (h:cls N t=N.num):∃n,t= .num n:=by
 have:=tag_of nd (u:= .num 0) h
 cases t<;>simp [tag]at this<;>first|exact⟨_,rfl⟩|omega
theorem dis_fault {f1 f2 f3 f4:Addr} {g1 g2 g3 g4:FuncData} (nd:(clsL N).Nodup) (F1:Fun K "own_fault" "Term.own_fault" sTFault f1 g1) (F2:Fun K "own_fault" "Number.own_fault" sNFault f2 g2) (F3:Fun K "own_fault" "Take.own_fault" sKFault f3 g3) (F4:Fun K "own_fault" "Rest.own_fault" sRFault f4 g4)
  (b1:Binds K g1 ["self"] []) (b2:Binds K g2 ["self"] []) (b3:Binds K g3 ["self"] []) (b4:Binds K g4 ["self"] [])
  (c1:Cf K N.num ["value"]) (c2:Cf K N.take ["back","steps"]) (c3:Cf K N.rest ["one","by"]) (c4:Cf K N.cho ["test","one","other"]) (c5:∀k,Cf K (N.bin k) ["one","other"])
  (c_within:Cal P w K mg base CX0 2 "is_within" PW3 spWithin) (c_areSteps:Cal P w K mg base CX0 3 "are_steps" ["thing"] spAreSteps) (T:Txt K mg)
  (m1:Meth K N.num "own_fault" f2) (m2:Meth K N.take "own_fault" f3) (m3:Meth K N.rest "own_fault" f4) (m4:Meth K N.cho "own_fault" f1) (m5:∀k,Meth K (N.bin k) "own_fault" f1):Dis P w K mg base CX0 4 (IsC N) "own_fault" ["self"] (spFault N):=by
 refine⟨fun C hC=>?_⟩
 rcases hC with rfl|rfl|rfl|rfl|⟨k,rfl⟩
 ·exact⟨c1.cl,f2,g2,m1,(ok_nfault F2 c1 (fun t h=>is_num' nd h) c_within T).mono (by decide),b2⟩
 ·exact⟨c2.cl,f3,g3,m2,ok_kfault F3 c2 (fun t h=>is_take nd h) c_within c_areSteps T,b3⟩
 ·exact⟨c3.cl,f4,g4,m3,(ok_rfault F4 c3 (fun t h=>is_rest nd h) c_within T).mono (by decide),b4⟩
 ·exact⟨c4.cl,f1,g1,m4,(ok_tfault F1).mono (by decide),b1⟩
 ·exact⟨(c5 k).cl,f1,g1,m5 k,(ok_tfault F1).mono (by decide),b1⟩
theorem dis_value (cl:∀C,IsC N C->Cls K C) (cv:∀C,IsC N C->CV P w K mg N C):∀d,d<=6->DValA P w K mg base N d
 |0,_=>⟨fun C hC=>by
   obtain⟨f,fd,m,b,_⟩:=(cv C hC).ex
   exact⟨cl C hC,f,fd,m,fun z hz=>fn_none fun vs H Q E ⟨_,_,_,t,_,_,_,_,h,_⟩=>absurd (ht_pos t) (by omega),b⟩⟩
 |d+1,hd=>⟨fun C hC=>by
   obtain⟨f,fd,m,b,k⟩:=(cv C hC).ex
   exact⟨cl C hC,f,fd,m,fun z hz=>k base z d (by omega) hz ((dis_value cl cv d (by omega)).one hz),b⟩⟩
theorem is_bin' {N:Cn} (nd:(clsL N).Nodup) {t:Tm} {k:Fin 5} (h:cls N t=N.bin k):∃a b,t= .bin k a b:=by
 have:=tag_of nd (u:= .bin k (.num 0) (.num 0)) h
 cases t with
 |bin j a b=>
  have e:j=k:=Fin.ext (by simp only [tag]at this;omega)
  exact⟨a,b,by rw [e]⟩
 |_=>simp [tag]at this<;>omega
structure CS (P:Program) (w:World) (K:PySem.W.Frag) (mg:Str->Option Value) (base:Heap) (N:Cn) (C:Addr):Prop where
 ex:∃f fd,Meth K C "shown" f/\Binds K fd ["self"] []/\∀d:Nat,DSh P w K mg base N d->FnOk P w K mg base CX0 (2*d+3) f fd ["self"] (spShown N (d+1) C)
theorem dis_shown (cl:∀C,IsC N C->Cls K C) (cs:∀C,IsC N C->CS P w K mg base N C):∀d,DSh P w K mg base N d
 |0=>⟨fun C hC=>by
   obtain⟨f,fd,m,b,_⟩:=(cs C hC).ex
   exact⟨cl C hC,f,fd,m,fn_none fun vs H Q E ⟨_,_,_,t,_,_,_,_,h,_⟩=>absurd (ht_pos t) (by omega),b⟩⟩
 |d+1=>⟨fun C hC=>by
   obtain⟨f,fd,m,b,k⟩:=(cs C hC).ex
   exact⟨cl C hC,f,fd,m,k d (dis_shown cl cs d),b⟩⟩
theorem dis_shownW {f:Addr} {fd:FuncData} {d:Nat} (F:Fun K "shown_with" "Paired.shown_with" sShownW f fd) (b:Binds K fd ["self","sign"] []) (c5:∀k,Cf K (N.bin k) ["one","other"]) (m:∀k,Meth K (N.bin k) "shown_with" f) (nS:NoS N) (D:DSh P w K mg base N d):DSW P w K mg base N d:=
 ⟨fun C ⟨k,e⟩=>by
  subst e
  exact⟨(c5 k).cl,f,fd,m k,ok_shownW F (c5 k) D nS,b⟩⟩
theorem cal_text {f:Addr} {fd:FuncData} (F:Fun K "_law_text" "_law_text" sText f fd) (m:mg "_law_text"=some (.ref f)) (k:PySem.W.keepIn K (.ref f)=true) (b:Binds K fd ["_law_told_here"] []) (T:Txt K mg):∀d,Cal P w K mg base CX0 (d+1) "_law_text" ["_law_told_here"] (spText d)
 |0=>⟨_,_,fn_none (fun vs H Q E ⟨_,t,_,_,h,_⟩=>absurd (ht_pos t) (by omega)),m,k,b⟩
 |d+1=>⟨_,_,ok_text F (cal_text F m k b T d) T,m,k,b⟩
theorem dis_rd {CR f:Addr} {fd:FuncData} {k:Nat} {m:Str} {ps:List Str} {sp:Sp} (cl:Cls K CR) (h:Meth K CR m f) (b:Binds K fd ps []) (F:FnOk P w K mg base CX0 k f fd ps sp):DR P w K mg base k CR m ps sp:=⟨fun C hC=>by
 have hC:C=CR:=hC
 subst hC
 exact⟨cl,f,fd,h,F,b⟩⟩
theorem dis_part {CR fB fE fP:Addr} {gB gE gP:FuncData} (cl:Cls K CR) (n:NotR N CR) (M:MkAll P w K mg base N) (T:Txt K mg) (F1:Fun K "read_bracket" "TermReader.read_bracket" sRBrack_ fB gB) (F2:Fun K "read_behind" "TermReader.read_behind" sRBehind_ fE gE) (F3:Fun K "read_part" "TermReader.read_part" sRPart_ fP gP)
  (m1:Meth K CR "read_bracket" fB) (m2:Meth K CR "read_behind" fE) (m3:Meth K CR "read_part" fP) (b1:Binds K gB ["self","within"] []) (b2:Binds K gE ["self","one","word","within"] []) (b3:Binds K gP ["self","within"] [])
  (D_ahead:DR P w K mg base 1 CR "ahead" ["self"] (spAhead CR)) (D_pass_by:DR P w K mg base 2 CR "pass_by" ["self","signs"] (spPass CR)) (D_read_figures:DR P w K mg base 3 CR "read_figures" ["self"] (spFigs CR)) (D_read_number:DR P w K mg base 4 CR "read_number" ["self"] (spNum_ CR)) (D_read_take:DR P w K mg base 5 CR "read_take" ["self"] (spTakeR N CR)) (D_read_word:DR P w K mg base 3 CR "read_word" ["self"] (spWord CR)) (c_pairBy:Cal P w K mg base CX0 3 "pair_by" ["word","one","other"] (spPairBy N)):∀d,DR P w K mg base (3*d+3) CR "read_part" ["self","within"] (spPart N CR d)
 |0=>dis_rd cl m3 b3 (fn_none fun vs H Q E ⟨_,_,_,t,_,_,_,_,_,_,_,h,_⟩=>absurd (ht_pos t) (by omega))
 |d+1=>by
  have D:=dis_part cl n M T F1 F2 F3 m1 m2 m3 b1 b2 b3 D_ahead D_pass_by D_read_figures D_read_number D_read_take D_read_word c_pairBy d
  have DE:=dis_rd cl m2 b2 (ok_behind F2 n M D_pass_by D_read_figures D c_pairBy)
  have DB:=dis_rd cl m1 b1 (ok_brack F1 n D_pass_by D_read_word D DE T)
  exact dis_rd cl m3 b3 (ok_part F3 M D_ahead D_read_number D_read_take DB)
end
end KY
namespace KY
open PySem PyProof.Rows L2
theorem all_mk {l:W.OpenLaw} {w:World} {K:W.Frag} {h:Heap} {mg:Str->Option Value} {fa Cnum Ctake Crest Ccho Cb0 Cb1 Cb2 Cb3 Cb4 CR f10 f11 f12 f13 f14 f15 f16 f17 f18 f19 f20 f21 f22 f23 f24 f25 f26 f27 f28 f29 f30 f31 f32 f33 f34 f35 f36 f37 f38 f39 f40 f41 f42 f43 f44 f45 f46 f47 f48 f49 f50 f51 f52 f53 f54 f55 f56 f57 f58 f59 f60 f61 f62 f63 f64 f65 f66 f67 f68 f69 f70 f71 f72 f73 f74 f75 f76 f77 cc_ Pt aW:Addr} {odW:Option Addr} {nW:Nat} {slW:Array (Option Value)} {tF tW1 tW2 tW3 tW4 tW5 tW6 tW7:Tok} (X:K.In h) (G:h.Ns mainGlobals mg) (hfa:mg "law"=some (.ref fa))
  {p10 s10 p11 s11 p12 s12 p13 s13 p14 s14 p15 s15 p16 s16 p17 s17 p18 s18 p19 s19 p20 s20 p21 s21 p22 s22 p23 s23 p24 s24 p25 s25 p26 s26 p27 s27 p28 s28 p29 s29 p30 s30 p31 s31 p32 s32 p33 s33 p34 s34 p35 s35 p36 s36 p37 s37 p38 s38 p39 s39 p40 s40 p41 s41 p42 s42 p43 s43 p44 s44 p45 s45 p46 s46 p47 s47 p48 s48 p49 s49 p50 s50 p51 s51 p52 s52 p53 s53 p54 s54 p55 s55 p56 s56 p57 s57 p58 s58 p59 s59 p60 s60 p61 s61 p62 s62 p63 s63 p64 s64 p65 s65 p66 s66 p67 s67 p68 s68 p69 s69 p70 s70 p71 s71 p72 s72 p73 s73 p74 s74 p75 s75 p76 s76 p77 s77:Option Addr} {x10 x11 x12 x13 x14 x15 x16 x17 x18 x19 x20 x21 x22 x23 x24 x25 x26 x27 x28 x29 x30 x31 x32 x33 x34 x35 x36 x37 x38 x39 x40 x41 x42 x43 x44 x45 x46 x47 x48 x49 x50 x51 x52 x53 x54 x55 x56 x57 x58 x59 x60 x61 x62 x63 x64 x65 x66 x67 x68 x69 x70 x71 x72 x73 x74 x75 x76 x77:Array (Option Value)} {o10 q10 d10 r10 u10 v10 o11 q11 d11 r11 u11 v11 o12 q12 d12 r12 u12 v12 o13 q13 d13 r13 u13 v13 o14 q14 d14 r14 u14 v14 o15 q15 d15 r15 u15 v15 o16 q16 d16 r16 u16 v16 o17 q17 d17 r17 u17 v17 o18 q18 d18 r18 u18 v18 o19 q19 d19 r19 u19 v19 o20 q20 d20 r20 u20 v20 o21 q21 d21 r21 u21 v21 o22 q22 d22 r22 u22 v22 o23 q23 d23 r23 u23 v23 o24 q24 d24 r24 u24 v24 o25 q25 d25 r25 u25 v25 o26 q26 d26 r26 u26 v26 o27 q27 d27 r27 u27 v27 o28 q28 d28 r28 u28 v28 o29 q29 d29 r29 u29 v29 o30 q30 d30 r30 u30 v30 o31 q31 d31 r31 u31 v31 o32 q32 d32 r32 u32 v32 o33 q33 d33 r33 u33 v33 o34 q34 d34 r34 u34 v34 o35 q35 d35 r35 u35 v35 o36 q36 d36 r36 u36 v36 o37 q37 d37 r37 u37 v37 o38 q38 d38 r38 u38 v38 o39 q39 d39 r39 u39 v39 o40 q40 d40 r40 u40 v40 o41 q41 d41 r41 u41 v41 o42 q42 d42 r42 u42 v42 o43 q43 d43 r43 u43 v43 o44 q44 d44 r44 u44 v44 o45 q45 d45 r45 u45 v45 o46 q46 d46 r46 u46 v46 o47 q47 d47 r47 u47 v47 o48 q48 d48 r48 u48 v48 o49 q49 d49 r49 u49 v49 o50 q50 d50 r50 u50 v50 o51 q51 d51 r51 u51 v51 o52 q52 d52 r52 u52 v52 o53 q53 d53 r53 u53 v53 o54 q54 d54 r54 u54 v54 o55 q55 d55 r55 u55 v55 o56 q56 d56 r56 u56 v56 o57 q57 d57 r57 u57 v57 o58 q58 d58 r58 u58 v58 o59 q59 d59 r59 u59 v59 o60 q60 d60 r60 u60 v60 o61 q61 d61 r61 u61 v61 o62 q62 d62 r62 u62 v62 o63 q63 d63 r63 u63 v63 o64 q64 d64 r64 u64 v64 o65 q65 d65 r65 u65 v65 o66 q66 d66 r66 u66 v66 o67 q67 d67 r67 u67 v67 o68 q68 d68 r68 u68 v68 o69 q69 d69 r69 u69 v69 o70 q70 d70 r70 u70 v70 o71 q71 d71 r71 u71 v71 o72 q72 d72 r72 u72 v72 o73 q73 d73 r73 u73 v73 o74 q74 d74 r74 u74 v74 o75 q75 d75 r75 u75 v75 o76 q76 d76 r76 u76 v76 o77 q77 d77 r77 u77 v77:Value} {t_gn t_gd t_gb t_gst t_mst t_mdp t_mpa t_mtk t_mfi t_mst2 t_mwi:Tok}
  (aCnum:W.nsIn K mainGlobals "Number"=some (some (.ref Cnum)))
  (aCtake:W.nsIn K mainGlobals "Take"=some (some (.ref Ctake)))
  (aCrest:W.nsIn K mainGlobals "Rest"=some (some (.ref Crest)))
  (aCcho:W.nsIn K mainGlobals "Chosen"=some (some (.ref Ccho)))
  (aCb0:W.nsIn K mainGlobals "Added"=some (some (.ref Cb0)))
  (aCb1:W.nsIn K mainGlobals "Lessened"=some (some (.ref Cb1)))
  (aCb2:W.nsIn K mainGlobals "Multiplied"=some (some (.ref Cb2)))
  (aCb3:W.nsIn K mainGlobals "Least"=some (some (.ref Cb3)))
  (aCb4:W.nsIn K mainGlobals "Most"=some (some (.ref Cb4)))
  (aCR:W.nsIn K mainGlobals "TermReader"=some (some (.ref CR)))
  (a10:W.nsIn K mainGlobals "is_whole"=some (some (.ref f10)))
  (l10:K.lookup f10=some ⟨o10,p10,.func (W.fnOf "is_whole" "is_whole" (defArgs sWhole) (defBody sWhole) (defScope sWhole) .none q10 d10 r10 s10 u10 v10),x10⟩)
  (c10:W.codeIn K u10 "is_whole"=true)
  (k10:W.keepIn K (.ref f10)=true)
  (a11:W.nsIn K mainGlobals "is_within"=some (some (.ref f11)))
  (l11:K.lookup f11=some ⟨o11,p11,.func (W.fnOf "is_within" "is_within" (defArgs sWithin) (defBody sWithin) (defScope sWithin) .none q11 d11 r11 s11 u11 v11),x11⟩)
  (c11:W.codeIn K u11 "is_within"=true)
  (k11:W.keepIn K (.ref f11)=true)
  (a12:W.nsIn K mainGlobals "are_steps"=some (some (.ref f12)))
  (l12:K.lookup f12=some ⟨o12,p12,.func (W.fnOf "are_steps" "are_steps" (defArgs sAreSteps) (defBody sAreSteps) (defScope sAreSteps) .none q12 d12 r12 s12 u12 v12),x12⟩)
  (c12:W.codeIn K u12 "are_steps"=true)
  (k12:W.keepIn K (.ref f12)=true)
  (a13:W.nsIn K mainGlobals "lines_of"=some (some (.ref f13)))
  (l13:K.lookup f13=some ⟨o13,p13,.func (W.fnOf "lines_of" "lines_of" (defArgs sLinesOf) (defBody sLinesOf) (defScope sLinesOf) .none q13 d13 r13 s13 u13 v13),x13⟩)
  (c13:W.codeIn K u13 "lines_of"=true)
  (k13:W.keepIn K (.ref f13)=true)
  (a14:W.nsIn K mainGlobals "first_fault"=some (some (.ref f14)))
  (l14:K.lookup f14=some ⟨o14,p14,.func (W.fnOf "first_fault" "first_fault" (defArgs sFirst) (defBody sFirst) (defScope sFirst) .none q14 d14 r14 s14 u14 v14),x14⟩)
  (c14:W.codeIn K u14 "first_fault"=true)
  (k14:W.keepIn K (.ref f14)=true)
  (a15:W.nsIn K mainGlobals "check_term"=some (some (.ref f15)))
  (l15:K.lookup f15=some ⟨o15,p15,.func (W.fnOf "check_term" "check_term" (defArgs sCheckT) (defBody sCheckT) (defScope sCheckT) .none q15 d15 r15 s15 u15 v15),x15⟩)
  (c15:W.codeIn K u15 "check_term"=true)
  (k15:W.keepIn K (.ref f15)=true)
  (a16:W.nsIn K mainGlobals "pair_by"=some (some (.ref f16)))
  (l16:K.lookup f16=some ⟨o16,p16,.func (W.fnOf "pair_by" "pair_by" (defArgs sPair) (defBody sPair) (defScope sPair) .none q16 d16 r16 s16 u16 v16),x16⟩)
  (c16:W.codeIn K u16 "pair_by"=true)
  (k16:W.keepIn K (.ref f16)=true)
  (a17:W.nsIn K mainGlobals "read_written"=some (some (.ref f17)))
  (l17:K.lookup f17=some ⟨o17,p17,.func (W.fnOf "read_written" "read_written" (defArgs sWritten) (defBody sWritten) (defScope sWritten) .none q17 d17 r17 s17 u17 v17),x17⟩)
  (c17:W.codeIn K u17 "read_written"=true)
  (k17:W.keepIn K (.ref f17)=true)
  (a18:W.nsIn K mainGlobals "read_term"=some (some (.ref f18)))
  (l18:K.lookup f18=some ⟨o18,p18,.func (W.fnOf "read_term" "read_term" (defArgs sRead) (defBody sRead) (defScope sRead) .none q18 d18 r18 s18 u18 v18),x18⟩)
  (c18:W.codeIn K u18 "read_term"=true)
  (k18:W.keepIn K (.ref f18)=true)
  (a19:W.nsIn K mainGlobals "_law_cell_at"=some (some (.ref f19)))
  (l19:K.lookup f19=some ⟨o19,p19,.func (W.fnOf "_law_cell_at" "_law_cell_at" (defArgs sCell) (defBody sCell) (defScope sCell) .none q19 d19 r19 s19 u19 v19),x19⟩)
  (c19:W.codeIn K u19 "_law_cell_at"=true)
  (k19:W.keepIn K (.ref f19)=true)
  (a20:W.nsIn K mainGlobals "_law_well"=some (some (.ref f20)))
  (l20:K.lookup f20=some ⟨o20,p20,.func (W.fnOf "_law_well" "_law_well" (defArgs sWell) (defBody sWell) (defScope sWell) .none q20 d20 r20 s20 u20 v20),x20⟩)
  (c20:W.codeIn K u20 "_law_well"=true)
  (k20:W.keepIn K (.ref f20)=true)
  (a21:W.nsIn K mainGlobals "_law_draw"=some (some (.ref f21)))
  (l21:K.lookup f21=some ⟨o21,p21,.func (W.fnOf "_law_draw" "_law_draw" (defArgs sDraw) (defBody sDraw) (defScope sDraw) .none q21 d21 r21 s21 u21 v21),x21⟩)
  (c21:W.codeIn K u21 "_law_draw"=true)
  (k21:W.keepIn K (.ref f21)=true)
  (a22:W.nsIn K mainGlobals "_law_steps"=some (some (.ref f22)))
  (l22:K.lookup f22=some ⟨o22,p22,.func (W.fnOf "_law_steps" "_law_steps" (defArgs sSteps) (defBody sSteps) (defScope sSteps) .none q22 d22 r22 s22 u22 v22),x22⟩)
  (c22:W.codeIn K u22 "_law_steps"=true)
  (k22:W.keepIn K (.ref f22)=true)
  (a23:W.nsIn K mainGlobals "_law_some_takes"=some (some (.ref f23)))
  (l23:K.lookup f23=some ⟨o23,p23,.func (W.fnOf "_law_some_takes" "_law_some_takes" (defArgs sSome) (defBody sSome) (defScope sSome) .none q23 d23 r23 s23 u23 v23),x23⟩)
  (c23:W.codeIn K u23 "_law_some_takes"=true)
  (k23:W.keepIn K (.ref f23)=true)
  (a24:W.nsIn K mainGlobals "_law_number"=some (some (.ref f24)))
  (l24:K.lookup f24=some ⟨o24,p24,.func (W.fnOf "_law_number" "_law_number" (defArgs sNumber) (defBody sNumber) (defScope sNumber) .none q24 d24 r24 s24 u24 v24),x24⟩)
  (c24:W.codeIn K u24 "_law_number"=true)
  (k24:W.keepIn K (.ref f24)=true)
  (a25:W.nsIn K mainGlobals "_law_told"=some (some (.ref f25)))
  (l25:K.lookup f25=some ⟨o25,p25,.func (W.fnOf "_law_told" "_law_told" (defArgs sTold) (defBody sTold) (defScope sTold) .none q25 d25 r25 s25 u25 v25),x25⟩)
  (c25:W.codeIn K u25 "_law_told"=true)
  (k25:W.keepIn K (.ref f25)=true)
  (a26:W.nsIn K mainGlobals "_law_made"=some (some (.ref f26)))
  (l26:K.lookup f26=some ⟨o26,p26,.func (W.fnOf "_law_made" "_law_made" (defArgs sMade) (defBody sMade) (defScope sMade) .none q26 d26 r26 s26 u26 v26),x26⟩)
  (c26:W.codeIn K u26 "_law_made"=true)
  (k26:W.keepIn K (.ref f26)=true)
  (a27:W.nsIn K mainGlobals "_law_text"=some (some (.ref f27)))
  (l27:K.lookup f27=some ⟨o27,p27,.func (W.fnOf "_law_text" "_law_text" (defArgs sText) (defBody sText) (defScope sText) .none q27 d27 r27 s27 u27 v27),x27⟩)
  (c27:W.codeIn K u27 "_law_text"=true)
  (k27:W.keepIn K (.ref f27)=true)
  (a28:W.nsIn K mainGlobals "_law_alike"=some (some (.ref f28)))
  (l28:K.lookup f28=some ⟨o28,p28,.func (W.fnOf "_law_alike" "_law_alike" (defArgs sAlike) (defBody sAlike) (defScope sAlike) .none q28 d28 r28 s28 u28 v28),x28⟩)
  (c28:W.codeIn K u28 "_law_alike"=true)
  (k28:W.keepIn K (.ref f28)=true)
  (a29:W.nsIn K mainGlobals "_law_kind"=some (some (.ref f29)))
  (l29:K.lookup f29=some ⟨o29,p29,.func (W.fnOf "_law_kind" "_law_kind" (defArgs sKind) (defBody sKind) (defScope sKind) .none q29 d29 r29 s29 u29 v29),x29⟩)
  (c29:W.codeIn K u29 "_law_kind"=true)
  (k29:W.keepIn K (.ref f29)=true)
  (a30:W.nsIn K mainGlobals "law"=some (some (.ref f30)))
  (l30:K.lookup f30=some ⟨o30,p30,.func (W.fnOf "law" "law" (defArgs sLaw) (defBody sLaw) (defScope sLaw) .none q30 d30 r30 s30 u30 v30),x30⟩)
  (c30:W.codeIn K u30 "law"=true)
  (k30:W.keepIn K (.ref f30)=true)
  (a31:W.findIn K (.ref Cnum) "inner"=some (some (.ref f31)))
  (i31:W.isFn K (.ref f31)=true)
  (l31:K.lookup f31=some ⟨o31,p31,.func (W.fnOf "inner" "Term.inner" (defArgs sTInner) (defBody sTInner) (defScope sTInner) .none q31 d31 r31 s31 u31 v31),x31⟩)
  (c31:W.codeIn K u31 "Term.inner"=true)
  (k31:W.keepIn K (.ref f31)=true)
  (a32:W.findIn K (.ref Cnum) "takes"=some (some (.ref f32)))
  (i32:W.isFn K (.ref f32)=true)
  (l32:K.lookup f32=some ⟨o32,p32,.func (W.fnOf "takes" "Term.takes" (defArgs sTTakes) (defBody sTTakes) (defScope sTTakes) .none q32 d32 r32 s32 u32 v32),x32⟩)
  (c32:W.codeIn K u32 "Term.takes"=true)
  (k32:W.keepIn K (.ref f32)=true)
  (a33:W.findIn K (.ref Cnum) "depth"=some (some (.ref f33)))
  (i33:W.isFn K (.ref f33)=true)
  (l33:K.lookup f33=some ⟨o33,p33,.func (W.fnOf "depth" "Term.depth" (defArgs sTDepth) (defBody sTDepth) (defScope sTDepth) .none q33 d33 r33 s33 u33 v33),x33⟩)
  (c33:W.codeIn K u33 "Term.depth"=true)
  (k33:W.keepIn K (.ref f33)=true)
  (a34:W.findIn K (.ref Cnum) "parts"=some (some (.ref f34)))
  (i34:W.isFn K (.ref f34)=true)
  (l34:K.lookup f34=some ⟨o34,p34,.func (W.fnOf "parts" "Term.parts" (defArgs sTParts) (defBody sTParts) (defScope sTParts) .none q34 d34 r34 s34 u34 v34),x34⟩)
  (c34:W.codeIn K u34 "Term.parts"=true)
  (k34:W.keepIn K (.ref f34)=true)
  (a35:W.findIn K (.ref Ccho) "own_fault"=some (some (.ref f35)))
  (i35:W.isFn K (.ref f35)=true)
  (l35:K.lookup f35=some ⟨o35,p35,.func (W.fnOf "own_fault" "Term.own_fault" (defArgs sTFault) (defBody sTFault) (defScope sTFault) .none q35 d35 r35 s35 u35 v35),x35⟩)
  (c35:W.codeIn K u35 "Term.own_fault"=true)
  (k35:W.keepIn K (.ref f35)=true)
  (a36:W.findIn K (.ref Cnum) "__init__"=some (some (.ref f36)))
  (i36:W.isFn K (.ref f36)=true)
  (l36:K.lookup f36=some ⟨o36,p36,.func (W.fnOf "__init__" "Number.__init__" (defArgs sNInit) (defBody sNInit) (defScope sNInit) .none q36 d36 r36 s36 u36 v36),x36⟩)
  (c36:W.codeIn K u36 "Number.__init__"=true)
  (k36:W.keepIn K (.ref f36)=true)
  (a37:W.findIn K (.ref Cnum) "own_fault"=some (some (.ref f37)))
  (i37:W.isFn K (.ref f37)=true)
  (l37:K.lookup f37=some ⟨o37,p37,.func (W.fnOf "own_fault" "Number.own_fault" (defArgs sNFault) (defBody sNFault) (defScope sNFault) .none q37 d37 r37 s37 u37 v37),x37⟩)
  (c37:W.codeIn K u37 "Number.own_fault"=true)
  (k37:W.keepIn K (.ref f37)=true)
  (a38:W.findIn K (.ref Ctake) "__init__"=some (some (.ref f38)))
  (i38:W.isFn K (.ref f38)=true)
  (l38:K.lookup f38=some ⟨o38,p38,.func (W.fnOf "__init__" "Take.__init__" (defArgs sKInit) (defBody sKInit) (defScope sKInit) .none q38 d38 r38 s38 u38 v38),x38⟩)
  (c38:W.codeIn K u38 "Take.__init__"=true)
  (k38:W.keepIn K (.ref f38)=true)
  (a39:W.findIn K (.ref Ctake) "takes"=some (some (.ref f39)))
  (i39:W.isFn K (.ref f39)=true)
  (l39:K.lookup f39=some ⟨o39,p39,.func (W.fnOf "takes" "Take.takes" (defArgs sKTakes) (defBody sKTakes) (defScope sKTakes) .none q39 d39 r39 s39 u39 v39),x39⟩)
  (c39:W.codeIn K u39 "Take.takes"=true)
  (k39:W.keepIn K (.ref f39)=true)
  (a40:W.findIn K (.ref Ctake) "own_fault"=some (some (.ref f40)))
  (i40:W.isFn K (.ref f40)=true)
  (l40:K.lookup f40=some ⟨o40,p40,.func (W.fnOf "own_fault" "Take.own_fault" (defArgs sKFault) (defBody sKFault) (defScope sKFault) .none q40 d40 r40 s40 u40 v40),x40⟩)
  (c40:W.codeIn K u40 "Take.own_fault"=true)
  (k40:W.keepIn K (.ref f40)=true)
  (a41:W.findIn K (.ref Cb0) "__init__"=some (some (.ref f41)))
  (i41:W.isFn K (.ref f41)=true)
  (l41:K.lookup f41=some ⟨o41,p41,.func (W.fnOf "__init__" "Paired.__init__" (defArgs sPInit) (defBody sPInit) (defScope sPInit) .none q41 d41 r41 s41 u41 v41),x41⟩)
  (c41:W.codeIn K u41 "Paired.__init__"=true)
  (k41:W.keepIn K (.ref f41)=true)
  (a42:W.findIn K (.ref Cb0) "inner"=some (some (.ref f42)))
  (i42:W.isFn K (.ref f42)=true)
  (l42:K.lookup f42=some ⟨o42,p42,.func (W.fnOf "inner" "Paired.inner" (defArgs sPInner) (defBody sPInner) (defScope sPInner) .none q42 d42 r42 s42 u42 v42),x42⟩)
  (c42:W.codeIn K u42 "Paired.inner"=true)
  (k42:W.keepIn K (.ref f42)=true)
  (a43:W.findIn K (.ref Crest) "__init__"=some (some (.ref f43)))
  (i43:W.isFn K (.ref f43)=true)
  (l43:K.lookup f43=some ⟨o43,p43,.func (W.fnOf "__init__" "Rest.__init__" (defArgs sRInit) (defBody sRInit) (defScope sRInit) .none q43 d43 r43 s43 u43 v43),x43⟩)
  (c43:W.codeIn K u43 "Rest.__init__"=true)
  (k43:W.keepIn K (.ref f43)=true)
  (a44:W.findIn K (.ref Crest) "inner"=some (some (.ref f44)))
  (i44:W.isFn K (.ref f44)=true)
  (l44:K.lookup f44=some ⟨o44,p44,.func (W.fnOf "inner" "Rest.inner" (defArgs sRInner) (defBody sRInner) (defScope sRInner) .none q44 d44 r44 s44 u44 v44),x44⟩)
  (c44:W.codeIn K u44 "Rest.inner"=true)
  (k44:W.keepIn K (.ref f44)=true)
  (a45:W.findIn K (.ref Crest) "own_fault"=some (some (.ref f45)))
  (i45:W.isFn K (.ref f45)=true)
  (l45:K.lookup f45=some ⟨o45,p45,.func (W.fnOf "own_fault" "Rest.own_fault" (defArgs sRFault) (defBody sRFault) (defScope sRFault) .none q45 d45 r45 s45 u45 v45),x45⟩)
  (c45:W.codeIn K u45 "Rest.own_fault"=true)
  (k45:W.keepIn K (.ref f45)=true)
  (a46:W.findIn K (.ref Ccho) "__init__"=some (some (.ref f46)))
  (i46:W.isFn K (.ref f46)=true)
  (l46:K.lookup f46=some ⟨o46,p46,.func (W.fnOf "__init__" "Chosen.__init__" (defArgs sCInit) (defBody sCInit) (defScope sCInit) .none q46 d46 r46 s46 u46 v46),x46⟩)
  (c46:W.codeIn K u46 "Chosen.__init__"=true)
  (k46:W.keepIn K (.ref f46)=true)
  (a47:W.findIn K (.ref Ccho) "inner"=some (some (.ref f47)))
  (i47:W.isFn K (.ref f47)=true)
  (l47:K.lookup f47=some ⟨o47,p47,.func (W.fnOf "inner" "Chosen.inner" (defArgs sCInner) (defBody sCInner) (defScope sCInner) .none q47 d47 r47 s47 u47 v47),x47⟩)
  (c47:W.codeIn K u47 "Chosen.inner"=true)
  (k47:W.keepIn K (.ref f47)=true)
  (a48:W.findIn K (.ref Cb0) "shown_with"=some (some (.ref f48)))
  (i48:W.isFn K (.ref f48)=true)
  (l48:K.lookup f48=some ⟨o48,p48,.func (W.fnOf "shown_with" "Paired.shown_with" (defArgs sShownW) (defBody sShownW) (defScope sShownW) .none q48 d48 r48 s48 u48 v48),x48⟩)
  (c48:W.codeIn K u48 "Paired.shown_with"=true)
  (k48:W.keepIn K (.ref f48)=true)
  (a49:W.findIn K (.ref Cnum) "value_by"=some (some (.ref f49)))
  (i49:W.isFn K (.ref f49)=true)
  (l49:K.lookup f49=some ⟨o49,p49,.func (W.fnOf "value_by" "Number.value_by" (defArgs sNValue) (defBody sNValue) (defScope sNValue) .none q49 d49 r49 s49 u49 v49),x49⟩)
  (c49:W.codeIn K u49 "Number.value_by"=true)
  (k49:W.keepIn K (.ref f49)=true)
  (a50:W.findIn K (.ref Ctake) "value_by"=some (some (.ref f50)))
  (i50:W.isFn K (.ref f50)=true)
  (l50:K.lookup f50=some ⟨o50,p50,.func (W.fnOf "value_by" "Take.value_by" (defArgs sKValue) (defBody sKValue) (defScope sKValue) .none q50 d50 r50 s50 u50 v50),x50⟩)
  (c50:W.codeIn K u50 "Take.value_by"=true)
  (k50:W.keepIn K (.ref f50)=true)
  (a51:W.findIn K (.ref Crest) "value_by"=some (some (.ref f51)))
  (i51:W.isFn K (.ref f51)=true)
  (l51:K.lookup f51=some ⟨o51,p51,.func (W.fnOf "value_by" "Rest.value_by" (defArgs sRValue) (defBody sRValue) (defScope sRValue) .none q51 d51 r51 s51 u51 v51),x51⟩)
  (c51:W.codeIn K u51 "Rest.value_by"=true)
  (k51:W.keepIn K (.ref f51)=true)
  (a52:W.findIn K (.ref Ccho) "value_by"=some (some (.ref f52)))
  (i52:W.isFn K (.ref f52)=true)
  (l52:K.lookup f52=some ⟨o52,p52,.func (W.fnOf "value_by" "Chosen.value_by" (defArgs sCValue) (defBody sCValue) (defScope sCValue) .none q52 d52 r52 s52 u52 v52),x52⟩)
  (c52:W.codeIn K u52 "Chosen.value_by"=true)
  (k52:W.keepIn K (.ref f52)=true)
  (a53:W.findIn K (.ref Cb0) "value_by"=some (some (.ref f53)))
  (i53:W.isFn K (.ref f53)=true)
  (l53:K.lookup f53=some ⟨o53,p53,.func (W.fnOf "value_by" "Added.value_by" (defArgs sAValue) (defBody sAValue) (defScope sAValue) .none q53 d53 r53 s53 u53 v53),x53⟩)
  (c53:W.codeIn K u53 "Added.value_by"=true)
  (k53:W.keepIn K (.ref f53)=true)
  (a54:W.findIn K (.ref Cb1) "value_by"=some (some (.ref f54)))
  (i54:W.isFn K (.ref f54)=true)
  (l54:K.lookup f54=some ⟨o54,p54,.func (W.fnOf "value_by" "Lessened.value_by" (defArgs sLValue) (defBody sLValue) (defScope sLValue) .none q54 d54 r54 s54 u54 v54),x54⟩)
  (c54:W.codeIn K u54 "Lessened.value_by"=true)
  (k54:W.keepIn K (.ref f54)=true)
  (a55:W.findIn K (.ref Cb2) "value_by"=some (some (.ref f55)))
  (i55:W.isFn K (.ref f55)=true)
  (l55:K.lookup f55=some ⟨o55,p55,.func (W.fnOf "value_by" "Multiplied.value_by" (defArgs sMValue) (defBody sMValue) (defScope sMValue) .none q55 d55 r55 s55 u55 v55),x55⟩)
  (c55:W.codeIn K u55 "Multiplied.value_by"=true)
  (k55:W.keepIn K (.ref f55)=true)
  (a56:W.findIn K (.ref Cb3) "value_by"=some (some (.ref f56)))
  (i56:W.isFn K (.ref f56)=true)
  (l56:K.lookup f56=some ⟨o56,p56,.func (W.fnOf "value_by" "Least.value_by" (defArgs sIValue) (defBody sIValue) (defScope sIValue) .none q56 d56 r56 s56 u56 v56),x56⟩)
  (c56:W.codeIn K u56 "Least.value_by"=true)
  (k56:W.keepIn K (.ref f56)=true)
  (a57:W.findIn K (.ref Cb4) "value_by"=some (some (.ref f57)))
  (i57:W.isFn K (.ref f57)=true)
  (l57:K.lookup f57=some ⟨o57,p57,.func (W.fnOf "value_by" "Most.value_by" (defArgs sXValue) (defBody sXValue) (defScope sXValue) .none q57 d57 r57 s57 u57 v57),x57⟩)
  (c57:W.codeIn K u57 "Most.value_by"=true)
  (k57:W.keepIn K (.ref f57)=true)
  (a58:W.findIn K (.ref Cnum) "shown"=some (some (.ref f58)))
  (i58:W.isFn K (.ref f58)=true)
  (l58:K.lookup f58=some ⟨o58,p58,.func (W.fnOf "shown" "Number.shown" (defArgs sNShown) (defBody sNShown) (defScope sNShown) .none q58 d58 r58 s58 u58 v58),x58⟩)
  (c58:W.codeIn K u58 "Number.shown"=true)
  (k58:W.keepIn K (.ref f58)=true)
  (a59:W.findIn K (.ref Ctake) "shown"=some (some (.ref f59)))
  (i59:W.isFn K (.ref f59)=true)
  (l59:K.lookup f59=some ⟨o59,p59,.func (W.fnOf "shown" "Take.shown" (defArgs sKShown) (defBody sKShown) (defScope sKShown) .none q59 d59 r59 s59 u59 v59),x59⟩)
  (c59:W.codeIn K u59 "Take.shown"=true)
  (k59:W.keepIn K (.ref f59)=true)
  (a60:W.findIn K (.ref Crest) "shown"=some (some (.ref f60)))
  (i60:W.isFn K (.ref f60)=true)
  (l60:K.lookup f60=some ⟨o60,p60,.func (W.fnOf "shown" "Rest.shown" (defArgs sRShown) (defBody sRShown) (defScope sRShown) .none q60 d60 r60 s60 u60 v60),x60⟩)
  (c60:W.codeIn K u60 "Rest.shown"=true)
  (k60:W.keepIn K (.ref f60)=true)
  (a61:W.findIn K (.ref Ccho) "shown"=some (some (.ref f61)))
  (i61:W.isFn K (.ref f61)=true)
  (l61:K.lookup f61=some ⟨o61,p61,.func (W.fnOf "shown" "Chosen.shown" (defArgs sCShown) (defBody sCShown) (defScope sCShown) .none q61 d61 r61 s61 u61 v61),x61⟩)
  (c61:W.codeIn K u61 "Chosen.shown"=true)
  (k61:W.keepIn K (.ref f61)=true)
  (a62:W.findIn K (.ref Cb0) "shown"=some (some (.ref f62)))
  (i62:W.isFn K (.ref f62)=true)
  (l62:K.lookup f62=some ⟨o62,p62,.func (W.fnOf "shown" "Added.shown" (defArgs sAShown) (defBody sAShown) (defScope sAShown) .none q62 d62 r62 s62 u62 v62),x62⟩)
  (c62:W.codeIn K u62 "Added.shown"=true)
  (k62:W.keepIn K (.ref f62)=true)
  (a63:W.findIn K (.ref Cb1) "shown"=some (some (.ref f63)))
  (i63:W.isFn K (.ref f63)=true)
  (l63:K.lookup f63=some ⟨o63,p63,.func (W.fnOf "shown" "Lessened.shown" (defArgs sLShown) (defBody sLShown) (defScope sLShown) .none q63 d63 r63 s63 u63 v63),x63⟩)
  (c63:W.codeIn K u63 "Lessened.shown"=true)
  (k63:W.keepIn K (.ref f63)=true)
  (a64:W.findIn K (.ref Cb2) "shown"=some (some (.ref f64)))
  (i64:W.isFn K (.ref f64)=true)
  (l64:K.lookup f64=some ⟨o64,p64,.func (W.fnOf "shown" "Multiplied.shown" (defArgs sMShown) (defBody sMShown) (defScope sMShown) .none q64 d64 r64 s64 u64 v64),x64⟩)
  (c64:W.codeIn K u64 "Multiplied.shown"=true)
  (k64:W.keepIn K (.ref f64)=true)
  (a65:W.findIn K (.ref Cb3) "shown"=some (some (.ref f65)))
  (i65:W.isFn K (.ref f65)=true)
  (l65:K.lookup f65=some ⟨o65,p65,.func (W.fnOf "shown" "Least.shown" (defArgs sIShown) (defBody sIShown) (defScope sIShown) .none q65 d65 r65 s65 u65 v65),x65⟩)
  (c65:W.codeIn K u65 "Least.shown"=true)
  (k65:W.keepIn K (.ref f65)=true)
  (a66:W.findIn K (.ref Cb4) "shown"=some (some (.ref f66)))
  (i66:W.isFn K (.ref f66)=true)
  (l66:K.lookup f66=some ⟨o66,p66,.func (W.fnOf "shown" "Most.shown" (defArgs sXShown) (defBody sXShown) (defScope sXShown) .none q66 d66 r66 s66 u66 v66),x66⟩)
  (c66:W.codeIn K u66 "Most.shown"=true)
  (k66:W.keepIn K (.ref f66)=true)
  (a67:W.findIn K (.ref CR) "__init__"=some (some (.ref f67)))
  (i67:W.isFn K (.ref f67)=true)
  (l67:K.lookup f67=some ⟨o67,p67,.func (W.fnOf "__init__" "TermReader.__init__" (defArgs sRInit_) (defBody sRInit_) (defScope sRInit_) .none q67 d67 r67 s67 u67 v67),x67⟩)
  (c67:W.codeIn K u67 "TermReader.__init__"=true)
  (k67:W.keepIn K (.ref f67)=true)
  (a68:W.findIn K (.ref CR) "ahead"=some (some (.ref f68)))
  (i68:W.isFn K (.ref f68)=true)
  (l68:K.lookup f68=some ⟨o68,p68,.func (W.fnOf "ahead" "TermReader.ahead" (defArgs sRAhead_) (defBody sRAhead_) (defScope sRAhead_) .none q68 d68 r68 s68 u68 v68),x68⟩)
  (c68:W.codeIn K u68 "TermReader.ahead"=true)
  (k68:W.keepIn K (.ref f68)=true)
  (a69:W.findIn K (.ref CR) "pass_by"=some (some (.ref f69)))
  (i69:W.isFn K (.ref f69)=true)
  (l69:K.lookup f69=some ⟨o69,p69,.func (W.fnOf "pass_by" "TermReader.pass_by" (defArgs sRPass_) (defBody sRPass_) (defScope sRPass_) .none q69 d69 r69 s69 u69 v69),x69⟩)
  (c69:W.codeIn K u69 "TermReader.pass_by"=true)
  (k69:W.keepIn K (.ref f69)=true)
  (a70:W.findIn K (.ref CR) "figure_is_ahead"=some (some (.ref f70)))
  (i70:W.isFn K (.ref f70)=true)
  (l70:K.lookup f70=some ⟨o70,p70,.func (W.fnOf "figure_is_ahead" "TermReader.figure_is_ahead" (defArgs sRFig_) (defBody sRFig_) (defScope sRFig_) .none q70 d70 r70 s70 u70 v70),x70⟩)
  (c70:W.codeIn K u70 "TermReader.figure_is_ahead"=true)
  (k70:W.keepIn K (.ref f70)=true)
  (a71:W.findIn K (.ref CR) "read_figures"=some (some (.ref f71)))
  (i71:W.isFn K (.ref f71)=true)
  (l71:K.lookup f71=some ⟨o71,p71,.func (W.fnOf "read_figures" "TermReader.read_figures" (defArgs sRFigs_) (defBody sRFigs_) (defScope sRFigs_) .none q71 d71 r71 s71 u71 v71),x71⟩)
  (c71:W.codeIn K u71 "TermReader.read_figures"=true)
  (k71:W.keepIn K (.ref f71)=true)
  (a72:W.findIn K (.ref CR) "read_number"=some (some (.ref f72)))
  (i72:W.isFn K (.ref f72)=true)
  (l72:K.lookup f72=some ⟨o72,p72,.func (W.fnOf "read_number" "TermReader.read_number" (defArgs sRNum_) (defBody sRNum_) (defScope sRNum_) .none q72 d72 r72 s72 u72 v72),x72⟩)
  (c72:W.codeIn K u72 "TermReader.read_number"=true)
  (k72:W.keepIn K (.ref f72)=true)
  (a73:W.findIn K (.ref CR) "read_take"=some (some (.ref f73)))
  (i73:W.isFn K (.ref f73)=true)
  (l73:K.lookup f73=some ⟨o73,p73,.func (W.fnOf "read_take" "TermReader.read_take" (defArgs sRTake_) (defBody sRTake_) (defScope sRTake_) .none q73 d73 r73 s73 u73 v73),x73⟩)
  (c73:W.codeIn K u73 "TermReader.read_take"=true)
  (k73:W.keepIn K (.ref f73)=true)
  (a74:W.findIn K (.ref CR) "read_word"=some (some (.ref f74)))
  (i74:W.isFn K (.ref f74)=true)
  (l74:K.lookup f74=some ⟨o74,p74,.func (W.fnOf "read_word" "TermReader.read_word" (defArgs sRWord_) (defBody sRWord_) (defScope sRWord_) .none q74 d74 r74 s74 u74 v74),x74⟩)
  (c74:W.codeIn K u74 "TermReader.read_word"=true)
  (k74:W.keepIn K (.ref f74)=true)
  (a75:W.findIn K (.ref CR) "read_bracket"=some (some (.ref f75)))
  (i75:W.isFn K (.ref f75)=true)
  (l75:K.lookup f75=some ⟨o75,p75,.func (W.fnOf "read_bracket" "TermReader.read_bracket" (defArgs sRBrack_) (defBody sRBrack_) (defScope sRBrack_) .none q75 d75 r75 s75 u75 v75),x75⟩)
  (c75:W.codeIn K u75 "TermReader.read_bracket"=true)
  (k75:W.keepIn K (.ref f75)=true)
  (a76:W.findIn K (.ref CR) "read_behind"=some (some (.ref f76)))
  (i76:W.isFn K (.ref f76)=true)
  (l76:K.lookup f76=some ⟨o76,p76,.func (W.fnOf "read_behind" "TermReader.read_behind" (defArgs sRBehind_) (defBody sRBehind_) (defScope sRBehind_) .none q76 d76 r76 s76 u76 v76),x76⟩)
  (c76:W.codeIn K u76 "TermReader.read_behind"=true)
  (k76:W.keepIn K (.ref f76)=true)
  (a77:W.findIn K (.ref CR) "read_part"=some (some (.ref f77)))
  (i77:W.isFn K (.ref f77)=true)
  (l77:K.lookup f77=some ⟨o77,p77,.func (W.fnOf "read_part" "TermReader.read_part" (defArgs sRPart_) (defBody sRPart_) (defScope sRPart_) .none q77 d77 r77 s77 u77 v77),x77⟩)
  (c77:W.codeIn K u77 "TermReader.read_part"=true)
  (k77:W.keepIn K (.ref f77)=true)
  (pgCnum:W.plainGet K Cnum Str.empty=true)
  (hdCnum:W.hasDictIn K Cnum=true)
  (poCnum:W.plainOver K Cnum=true)
  (saCnum:W.findIn K (.ref Cnum) "__setattr__"=some (some (.builtin "object.__setattr__")))
  (mkCnum:W.makesIn K Cnum=true)
  (kcCnum:W.keepIn K (.ref Cnum)=true)
  (n_value_Cnum:W.findIn K (.ref Cnum) "value"=some none)
  (klCnum:W.findIn K (.ref Cnum) "__class__"=some (some (.builtin "object.__class__")))
  (mrCnum:W.mroIn K Cnum (.type "object")=some true)
  (kn_Cnum_Ctake:W.kitOne K (.ref Cnum) (.ref Ctake)=some false)
  (kn_Cnum_Crest:W.kitOne K (.ref Cnum) (.ref Crest)=some false)
  (kn_Cnum_Ccho:W.kitOne K (.ref Cnum) (.ref Ccho)=some false)
  (kn_Cnum_Cb0:W.kitOne K (.ref Cnum) (.ref Cb0)=some false)
  (kn_Cnum_Cb1:W.kitOne K (.ref Cnum) (.ref Cb1)=some false)
  (kn_Cnum_Cb2:W.kitOne K (.ref Cnum) (.ref Cb2)=some false)
  (kn_Cnum_Cb3:W.kitOne K (.ref Cnum) (.ref Cb3)=some false)
  (kn_Cnum_Cb4:W.kitOne K (.ref Cnum) (.ref Cb4)=some false)
  (pgCtake:W.plainGet K Ctake Str.empty=true)
  (hdCtake:W.hasDictIn K Ctake=true)
  (poCtake:W.plainOver K Ctake=true)
  (saCtake:W.findIn K (.ref Ctake) "__setattr__"=some (some (.builtin "object.__setattr__")))
  (mkCtake:W.makesIn K Ctake=true)
  (kcCtake:W.keepIn K (.ref Ctake)=true)
  (n_back_Ctake:W.findIn K (.ref Ctake) "back"=some none)
  (n_steps_Ctake:W.findIn K (.ref Ctake) "steps"=some none)
  (klCtake:W.findIn K (.ref Ctake) "__class__"=some (some (.builtin "object.__class__")))
  (mrCtake:W.mroIn K Ctake (.type "object")=some true)
  (kn_Ctake_Cnum:W.kitOne K (.ref Ctake) (.ref Cnum)=some false)
  (kn_Ctake_Crest:W.kitOne K (.ref Ctake) (.ref Crest)=some false)
  (kn_Ctake_Ccho:W.kitOne K (.ref Ctake) (.ref Ccho)=some false)
  (kn_Ctake_Cb0:W.kitOne K (.ref Ctake) (.ref Cb0)=some false)
  (kn_Ctake_Cb1:W.kitOne K (.ref Ctake) (.ref Cb1)=some false)
  (kn_Ctake_Cb2:W.kitOne K (.ref Ctake) (.ref Cb2)=some false)
  (kn_Ctake_Cb3:W.kitOne K (.ref Ctake) (.ref Cb3)=some false)
  (kn_Ctake_Cb4:W.kitOne K (.ref Ctake) (.ref Cb4)=some false)
  (pgCrest:W.plainGet K Crest Str.empty=true)
  (hdCrest:W.hasDictIn K Crest=true)
  (poCrest:W.plainOver K Crest=true)
  (saCrest:W.findIn K (.ref Crest) "__setattr__"=some (some (.builtin "object.__setattr__")))
  (mkCrest:W.makesIn K Crest=true)
  (kcCrest:W.keepIn K (.ref Crest)=true)
  (n_one_Crest:W.findIn K (.ref Crest) "one"=some none)
  (n_by_Crest:W.findIn K (.ref Crest) "by"=some none)
  (klCrest:W.findIn K (.ref Crest) "__class__"=some (some (.builtin "object.__class__")))
  (mrCrest:W.mroIn K Crest (.type "object")=some true)
  (kn_Crest_Cnum:W.kitOne K (.ref Crest) (.ref Cnum)=some false)
  (kn_Crest_Ctake:W.kitOne K (.ref Crest) (.ref Ctake)=some false)
  (kn_Crest_Ccho:W.kitOne K (.ref Crest) (.ref Ccho)=some false)
  (kn_Crest_Cb0:W.kitOne K (.ref Crest) (.ref Cb0)=some false)
  (kn_Crest_Cb1:W.kitOne K (.ref Crest) (.ref Cb1)=some false)
  (kn_Crest_Cb2:W.kitOne K (.ref Crest) (.ref Cb2)=some false)
  (kn_Crest_Cb3:W.kitOne K (.ref Crest) (.ref Cb3)=some false)
  (kn_Crest_Cb4:W.kitOne K (.ref Crest) (.ref Cb4)=some false)
  (pgCcho:W.plainGet K Ccho Str.empty=true)
  (hdCcho:W.hasDictIn K Ccho=true)
  (poCcho:W.plainOver K Ccho=true)
  (saCcho:W.findIn K (.ref Ccho) "__setattr__"=some (some (.builtin "object.__setattr__")))
  (mkCcho:W.makesIn K Ccho=true)
  (kcCcho:W.keepIn K (.ref Ccho)=true)
  (n_test_Ccho:W.findIn K (.ref Ccho) "test"=some none)
  (n_one_Ccho:W.findIn K (.ref Ccho) "one"=some none)
  (n_other_Ccho:W.findIn K (.ref Ccho) "other"=some none)
  (klCcho:W.findIn K (.ref Ccho) "__class__"=some (some (.builtin "object.__class__")))
  (mrCcho:W.mroIn K Ccho (.type "object")=some true)
  (kn_Ccho_Cnum:W.kitOne K (.ref Ccho) (.ref Cnum)=some false)
  (kn_Ccho_Ctake:W.kitOne K (.ref Ccho) (.ref Ctake)=some false)
  (kn_Ccho_Crest:W.kitOne K (.ref Ccho) (.ref Crest)=some false)
  (kn_Ccho_Cb0:W.kitOne K (.ref Ccho) (.ref Cb0)=some false)
  (kn_Ccho_Cb1:W.kitOne K (.ref Ccho) (.ref Cb1)=some false)
  (kn_Ccho_Cb2:W.kitOne K (.ref Ccho) (.ref Cb2)=some false)
  (kn_Ccho_Cb3:W.kitOne K (.ref Ccho) (.ref Cb3)=some false)
  (kn_Ccho_Cb4:W.kitOne K (.ref Ccho) (.ref Cb4)=some false)
  (pgCb0:W.plainGet K Cb0 Str.empty=true)
  (hdCb0:W.hasDictIn K Cb0=true)
  (poCb0:W.plainOver K Cb0=true)
  (saCb0:W.findIn K (.ref Cb0) "__setattr__"=some (some (.builtin "object.__setattr__")))
  (mkCb0:W.makesIn K Cb0=true)
  (kcCb0:W.keepIn K (.ref Cb0)=true)
  (n_one_Cb0:W.findIn K (.ref Cb0) "one"=some none)
  (n_other_Cb0:W.findIn K (.ref Cb0) "other"=some none)
  (klCb0:W.findIn K (.ref Cb0) "__class__"=some (some (.builtin "object.__class__")))
  (mrCb0:W.mroIn K Cb0 (.type "object")=some true)
  (kn_Cb0_Cnum:W.kitOne K (.ref Cb0) (.ref Cnum)=some false)
  (kn_Cb0_Ctake:W.kitOne K (.ref Cb0) (.ref Ctake)=some false)
  (kn_Cb0_Crest:W.kitOne K (.ref Cb0) (.ref Crest)=some false)
  (kn_Cb0_Ccho:W.kitOne K (.ref Cb0) (.ref Ccho)=some false)
  (kn_Cb0_Cb1:W.kitOne K (.ref Cb0) (.ref Cb1)=some false)
  (kn_Cb0_Cb2:W.kitOne K (.ref Cb0) (.ref Cb2)=some false)
  (kn_Cb0_Cb3:W.kitOne K (.ref Cb0) (.ref Cb3)=some false)
  (kn_Cb0_Cb4:W.kitOne K (.ref Cb0) (.ref Cb4)=some false)
  (pgCb1:W.plainGet K Cb1 Str.empty=true)
  (hdCb1:W.hasDictIn K Cb1=true)
  (poCb1:W.plainOver K Cb1=true)
  (saCb1:W.findIn K (.ref Cb1) "__setattr__"=some (some (.builtin "object.__setattr__")))
  (mkCb1:W.makesIn K Cb1=true)
  (kcCb1:W.keepIn K (.ref Cb1)=true)
  (n_one_Cb1:W.findIn K (.ref Cb1) "one"=some none)
  (n_other_Cb1:W.findIn K (.ref Cb1) "other"=some none)
  (klCb1:W.findIn K (.ref Cb1) "__class__"=some (some (.builtin "object.__class__")))
  (mrCb1:W.mroIn K Cb1 (.type "object")=some true)
  (kn_Cb1_Cnum:W.kitOne K (.ref Cb1) (.ref Cnum)=some false)
  (kn_Cb1_Ctake:W.kitOne K (.ref Cb1) (.ref Ctake)=some false)
  (kn_Cb1_Crest:W.kitOne K (.ref Cb1) (.ref Crest)=some false)
  (kn_Cb1_Ccho:W.kitOne K (.ref Cb1) (.ref Ccho)=some false)
  (kn_Cb1_Cb0:W.kitOne K (.ref Cb1) (.ref Cb0)=some false)
  (kn_Cb1_Cb2:W.kitOne K (.ref Cb1) (.ref Cb2)=some false)
  (kn_Cb1_Cb3:W.kitOne K (.ref Cb1) (.ref Cb3)=some false)
  (kn_Cb1_Cb4:W.kitOne K (.ref Cb1) (.ref Cb4)=some false)
  (pgCb2:W.plainGet K Cb2 Str.empty=true)
  (hdCb2:W.hasDictIn K Cb2=true)
  (poCb2:W.plainOver K Cb2=true)
  (saCb2:W.findIn K (.ref Cb2) "__setattr__"=some (some (.builtin "object.__setattr__")))
  (mkCb2:W.makesIn K Cb2=true)
  (kcCb2:W.keepIn K (.ref Cb2)=true)
  (n_one_Cb2:W.findIn K (.ref Cb2) "one"=some none)
  (n_other_Cb2:W.findIn K (.ref Cb2) "other"=some none)
  (klCb2:W.findIn K (.ref Cb2) "__class__"=some (some (.builtin "object.__class__")))
  (mrCb2:W.mroIn K Cb2 (.type "object")=some true)
  (kn_Cb2_Cnum:W.kitOne K (.ref Cb2) (.ref Cnum)=some false)
  (kn_Cb2_Ctake:W.kitOne K (.ref Cb2) (.ref Ctake)=some false)
  (kn_Cb2_Crest:W.kitOne K (.ref Cb2) (.ref Crest)=some false)
  (kn_Cb2_Ccho:W.kitOne K (.ref Cb2) (.ref Ccho)=some false)
  (kn_Cb2_Cb0:W.kitOne K (.ref Cb2) (.ref Cb0)=some false)
  (kn_Cb2_Cb1:W.kitOne K (.ref Cb2) (.ref Cb1)=some false)
  (kn_Cb2_Cb3:W.kitOne K (.ref Cb2) (.ref Cb3)=some false)
  (kn_Cb2_Cb4:W.kitOne K (.ref Cb2) (.ref Cb4)=some false)
  (pgCb3:W.plainGet K Cb3 Str.empty=true)
  (hdCb3:W.hasDictIn K Cb3=true)
  (poCb3:W.plainOver K Cb3=true)
  (saCb3:W.findIn K (.ref Cb3) "__setattr__"=some (some (.builtin "object.__setattr__")))
  (mkCb3:W.makesIn K Cb3=true)
  (kcCb3:W.keepIn K (.ref Cb3)=true)
  (n_one_Cb3:W.findIn K (.ref Cb3) "one"=some none)
  (n_other_Cb3:W.findIn K (.ref Cb3) "other"=some none)
  (klCb3:W.findIn K (.ref Cb3) "__class__"=some (some (.builtin "object.__class__")))
  (mrCb3:W.mroIn K Cb3 (.type "object")=some true)
  (kn_Cb3_Cnum:W.kitOne K (.ref Cb3) (.ref Cnum)=some false)
  (kn_Cb3_Ctake:W.kitOne K (.ref Cb3) (.ref Ctake)=some false)
  (kn_Cb3_Crest:W.kitOne K (.ref Cb3) (.ref Crest)=some false)
  (kn_Cb3_Ccho:W.kitOne K (.ref Cb3) (.ref Ccho)=some false)
  (kn_Cb3_Cb0:W.kitOne K (.ref Cb3) (.ref Cb0)=some false)
  (kn_Cb3_Cb1:W.kitOne K (.ref Cb3) (.ref Cb1)=some false)
  (kn_Cb3_Cb2:W.kitOne K (.ref Cb3) (.ref Cb2)=some false)
  (kn_Cb3_Cb4:W.kitOne K (.ref Cb3) (.ref Cb4)=some false)
  (pgCb4:W.plainGet K Cb4 Str.empty=true)
  (hdCb4:W.hasDictIn K Cb4=true)
  (poCb4:W.plainOver K Cb4=true)
  (saCb4:W.findIn K (.ref Cb4) "__setattr__"=some (some (.builtin "object.__setattr__")))
  (mkCb4:W.makesIn K Cb4=true)
  (kcCb4:W.keepIn K (.ref Cb4)=true)
  (n_one_Cb4:W.findIn K (.ref Cb4) "one"=some none)
  (n_other_Cb4:W.findIn K (.ref Cb4) "other"=some none)
  (klCb4:W.findIn K (.ref Cb4) "__class__"=some (some (.builtin "object.__class__")))
  (mrCb4:W.mroIn K Cb4 (.type "object")=some true)
  (kn_Cb4_Cnum:W.kitOne K (.ref Cb4) (.ref Cnum)=some false)
  (kn_Cb4_Ctake:W.kitOne K (.ref Cb4) (.ref Ctake)=some false)
  (kn_Cb4_Crest:W.kitOne K (.ref Cb4) (.ref Crest)=some false)
  (kn_Cb4_Ccho:W.kitOne K (.ref Cb4) (.ref Ccho)=some false)
  (kn_Cb4_Cb0:W.kitOne K (.ref Cb4) (.ref Cb0)=some false)
  (kn_Cb4_Cb1:W.kitOne K (.ref Cb4) (.ref Cb1)=some false)
  (kn_Cb4_Cb2:W.kitOne K (.ref Cb4) (.ref Cb2)=some false)
  (kn_Cb4_Cb3:W.kitOne K (.ref Cb4) (.ref Cb3)=some false)
  (pgCR:W.plainGet K CR Str.empty=true)
  (hdCR:W.hasDictIn K CR=true)
  (poCR:W.plainOver K CR=true)
  (saCR:W.findIn K (.ref CR) "__setattr__"=some (some (.builtin "object.__setattr__")))
  (mkCR:W.makesIn K CR=true)
  (kcCR:W.keepIn K (.ref CR)=true)
  (n_text_CR:W.findIn K (.ref CR) "text"=some none)
  (n_gone_CR:W.findIn K (.ref CR) "gone"=some none)
  (sp1:W.specialIn K (.builtin "object.__class__") "__get__"=some (some (.builtin "getset_descriptor.__get__")))
  (tk1:W.takesIn K (.builtin "object.__class__")=some true)
  (tc:u28= .ref cc_)
  (td:W.codeHdIn K cc_ Pt=true)
  (tn:K.lookup Pt=none)
  (qF:W.nsIn K mainGlobals "FIGURES"=some (some (.str "0123456789" tF)))
  (aWd:W.nsIn K mainGlobals "WORDS"=some (some (.ref aW)))
  (lWd:K.lookup aW=some ⟨.type "tuple",odW,.seq #[.str "+" tW1,.str "-" tW2,.str "*" tW3,.str "min" tW4,.str "max" tW5,.str "rest" tW6,.str "?" tW7] nW,slW⟩)
  (g_init_Cb1:W.findIn K (.ref Cb1) "__init__"=some (some (.ref f41)))
  (g_init_Cb2:W.findIn K (.ref Cb2) "__init__"=some (some (.ref f41)))
  (g_init_Cb3:W.findIn K (.ref Cb3) "__init__"=some (some (.ref f41)))
  (g_init_Cb4:W.findIn K (.ref Cb4) "__init__"=some (some (.ref f41)))
  (g_inner_Ctake:W.findIn K (.ref Ctake) "inner"=some (some (.ref f31)))
  (g_inner_Cb1:W.findIn K (.ref Cb1) "inner"=some (some (.ref f42)))
  (g_inner_Cb2:W.findIn K (.ref Cb2) "inner"=some (some (.ref f42)))
  (g_inner_Cb3:W.findIn K (.ref Cb3) "inner"=some (some (.ref f42)))
  (g_inner_Cb4:W.findIn K (.ref Cb4) "inner"=some (some (.ref f42)))
  (g_takes_Crest:W.findIn K (.ref Crest) "takes"=some (some (.ref f32)))
  (g_takes_Ccho:W.findIn K (.ref Ccho) "takes"=some (some (.ref f32)))
  (g_takes_Cb0:W.findIn K (.ref Cb0) "takes"=some (some (.ref f32)))
  (g_takes_Cb1:W.findIn K (.ref Cb1) "takes"=some (some (.ref f32)))
  (g_takes_Cb2:W.findIn K (.ref Cb2) "takes"=some (some (.ref f32)))
  (g_takes_Cb3:W.findIn K (.ref Cb3) "takes"=some (some (.ref f32)))
  (g_takes_Cb4:W.findIn K (.ref Cb4) "takes"=some (some (.ref f32)))
  (g_depth_Ctake:W.findIn K (.ref Ctake) "depth"=some (some (.ref f33)))
  (g_depth_Crest:W.findIn K (.ref Crest) "depth"=some (some (.ref f33)))
  (g_depth_Ccho:W.findIn K (.ref Ccho) "depth"=some (some (.ref f33)))
  (g_depth_Cb0:W.findIn K (.ref Cb0) "depth"=some (some (.ref f33)))
  (g_depth_Cb1:W.findIn K (.ref Cb1) "depth"=some (some (.ref f33)))
  (g_depth_Cb2:W.findIn K (.ref Cb2) "depth"=some (some (.ref f33)))
  (g_depth_Cb3:W.findIn K (.ref Cb3) "depth"=some (some (.ref f33)))
  (g_depth_Cb4:W.findIn K (.ref Cb4) "depth"=some (some (.ref f33)))
  (g_parts_Ctake:W.findIn K (.ref Ctake) "parts"=some (some (.ref f34)))
  (g_parts_Crest:W.findIn K (.ref Crest) "parts"=some (some (.ref f34)))
  (g_parts_Ccho:W.findIn K (.ref Ccho) "parts"=some (some (.ref f34)))
  (g_parts_Cb0:W.findIn K (.ref Cb0) "parts"=some (some (.ref f34)))
  (g_parts_Cb1:W.findIn K (.ref Cb1) "parts"=some (some (.ref f34)))
  (g_parts_Cb2:W.findIn K (.ref Cb2) "parts"=some (some (.ref f34)))
  (g_parts_Cb3:W.findIn K (.ref Cb3) "parts"=some (some (.ref f34)))
  (g_parts_Cb4:W.findIn K (.ref Cb4) "parts"=some (some (.ref f34)))
  (g_own_fault_Cb0:W.findIn K (.ref Cb0) "own_fault"=some (some (.ref f35)))
  (g_own_fault_Cb1:W.findIn K (.ref Cb1) "own_fault"=some (some (.ref f35)))
  (g_own_fault_Cb2:W.findIn K (.ref Cb2) "own_fault"=some (some (.ref f35)))
  (g_own_fault_Cb3:W.findIn K (.ref Cb3) "own_fault"=some (some (.ref f35)))
  (g_own_fault_Cb4:W.findIn K (.ref Cb4) "own_fault"=some (some (.ref f35)))
  (g_shown_with_Cb1:W.findIn K (.ref Cb1) "shown_with"=some (some (.ref f48)))
  (g_shown_with_Cb2:W.findIn K (.ref Cb2) "shown_with"=some (some (.ref f48)))
  (g_shown_with_Cb3:W.findIn K (.ref Cb3) "shown_with"=some (some (.ref f48)))
  (g_shown_with_Cb4:W.findIn K (.ref Cb4) "shown_with"=some (some (.ref f48)))
  (nd:[Cnum,Ctake,Crest,Ccho,Cb0,Cb1,Cb2,Cb3,Cb4].Nodup)
  (ndR:CR∉[Cnum,Ctake,Crest,Ccho,Cb0,Cb1,Cb2,Cb3,Cb4])
  (z_isinstance:W.nsIn K mainGlobals "isinstance"=some none)
  (z_int:W.nsIn K mainGlobals "int"=some none)
  (z_list:W.nsIn K mainGlobals "list"=some none)
  (z_tuple:W.nsIn K mainGlobals "tuple"=some none)
  (z_len:W.nsIn K mainGlobals "len"=some none)
  (z_range:W.nsIn K mainGlobals "range"=some none)
  (z_max:W.nsIn K mainGlobals "max"=some none)
  (z_min:W.nsIn K mainGlobals "min"=some none)
  (z_sorted:W.nsIn K mainGlobals "sorted"=some none)
  (z_sum:W.nsIn K mainGlobals "sum"=some none)
  (z_set:W.nsIn K mainGlobals "set"=some none)
  (z_bool:W.nsIn K mainGlobals "bool"=some none)
  (z_all:W.nsIn K mainGlobals "all"=some none)
  (z_any:W.nsIn K mainGlobals "any"=some none)
  (z_str:W.nsIn K mainGlobals "str"=some none)
  (z_dict:W.nsIn K mainGlobals "dict"=some none)
  (q_gn:W.nsIn K mainGlobals "GREATEST_NUMBER"=some (some (.int 1000000000000 t_gn)))
  (q_gd:W.nsIn K mainGlobals "GREATEST_DIVISOR"=some (some (.int 1000000000 t_gd)))
  (q_gb:W.nsIn K mainGlobals "GREATEST_BACK"=some (some (.int 3 t_gb)))
  (q_gst:W.nsIn K mainGlobals "GREATEST_STEP"=some (some (.int 9 t_gst)))
  (q_mst:W.nsIn K mainGlobals "MOST_STEPS_terms"=some (some (.int 3 t_mst)))
  (q_mdp:W.nsIn K mainGlobals "MOST_DEPTH"=some (some (.int 12 t_mdp)))
  (q_mpa:W.nsIn K mainGlobals "MOST_PARTS"=some (some (.int 60 t_mpa)))
  (q_mtk:W.nsIn K mainGlobals "MOST_TAKES"=some (some (.int 6 t_mtk)))
  (q_mfi:W.nsIn K mainGlobals "MOST_FIGURES"=some (some (.int 13 t_mfi)))
  (q_mst2:W.nsIn K mainGlobals "MOST_STEPS_term_texts"=some (some (.int 3 t_mst2)))
  (q_mwi:W.nsIn K mainGlobals "MOST_WITHIN"=some (some (.int 12 t_mwi)))
  :∃fd:FuncData,(∀(s:Shared) (v:Value),BindsTo s fd ⟨[v],[]⟩ [("_law_script",v)])/\K.lookup Pt=none/\(∃c,W.codeHdIn K c Pt=true)/\∀base:Heap,K.In base->base.Ns mainGlobals mg->BltM mg base->FnOk l.prog w K mg base CX0 18 fa fd ["_law_script"] (spLaw K Pt):=by
 subst tc
 have e:=hfa.symm.trans (W.mg_of X G a30)
 cases e
 have T:Txt K mg:=⟨W.mg_none_of X G z_isinstance,W.mg_none_of X G z_int,W.mg_none_of X G z_list,W.mg_none_of X G z_tuple,W.mg_none_of X G z_len,W.mg_none_of X G z_range,W.mg_none_of X G z_max,W.mg_none_of X G z_min,W.mg_none_of X G z_sorted,W.mg_none_of X G z_sum,W.mg_none_of X G z_set,W.mg_none_of X G z_bool,W.mg_none_of X G z_all,W.mg_none_of X G z_any,W.mg_none_of X G z_str,W.mg_none_of X G z_dict,⟨_,W.mg_of X G q_gn⟩,⟨_,W.mg_of X G q_gd⟩,⟨_,W.mg_of X G q_gb⟩,⟨_,W.mg_of X G q_gst⟩,⟨_,W.mg_of X G q_mst⟩,⟨_,W.mg_of X G q_mdp⟩,⟨_,W.mg_of X G q_mpa⟩,⟨_,W.mg_of X G q_mtk⟩,⟨_,W.mg_of X G q_mfi⟩,⟨_,W.mg_of X G q_mst2⟩,⟨_,W.mg_of X G q_mwi⟩⟩
 have F10:=fun_mk (st:=sWhole) l10 c10 k10
 have F11:=fun_mk (st:=sWithin) l11 c11 k11
 have F12:=fun_mk (st:=sAreSteps) l12 c12 k12
 have F13:=fun_mk (st:=sLinesOf) l13 c13 k13
 have F14:=fun_mk (st:=sFirst) l14 c14 k14
 have F15:=fun_mk (st:=sCheckT) l15 c15 k15
 have F16:=fun_mk (st:=sPair) l16 c16 k16
 have F17:=fun_mk (st:=sWritten) l17 c17 k17
 have F18:=fun_mk (st:=sRead) l18 c18 k18
 have F19:=fun_mk (st:=sCell) l19 c19 k19
 have F20:=fun_mk (st:=sWell) l20 c20 k20
 have F21:=fun_mk (st:=sDraw) l21 c21 k21
 have F22:=fun_mk (st:=sSteps) l22 c22 k22
 have F23:=fun_mk (st:=sSome) l23 c23 k23
 have F24:=fun_mk (st:=sNumber) l24 c24 k24
 have F25:=fun_mk (st:=sTold) l25 c25 k25
 have F26:=fun_mk (st:=sMade) l26 c26 k26
 have F27:=fun_mk (st:=sText) l27 c27 k27
 have F28:=fun_mk (st:=sAlike) l28 c28 k28
 have F29:=fun_mk (st:=sKind) l29 c29 k29
 have F30:=fun_mk (st:=sLaw) l30 c30 k30
 have F31:=fun_mk (st:=sTInner) l31 c31 k31
 have F32:=fun_mk (st:=sTTakes) l32 c32 k32
 have F33:=fun_mk (st:=sTDepth) l33 c33 k33
 have F34:=fun_mk (st:=sTParts) l34 c34 k34
 have F35:=fun_mk (st:=sTFault) l35 c35 k35
 have F36:=fun_mk (st:=sNInit) l36 c36 k36
 have F37:=fun_mk (st:=sNFault) l37 c37 k37
 have F38:=fun_mk (st:=sKInit) l38 c38 k38
 have F39:=fun_mk (st:=sKTakes) l39 c39 k39
 have F40:=fun_mk (st:=sKFault) l40 c40 k40
 have F41:=fun_mk (st:=sPInit) l41 c41 k41
 have F42:=fun_mk (st:=sPInner) l42 c42 k42
 have F43:=fun_mk (st:=sRInit) l43 c43 k43
 have F44:=fun_mk (st:=sRInner) l44 c44 k44
 have F45:=fun_mk (st:=sRFault) l45 c45 k45
 have F46:=fun_mk (st:=sCInit) l46 c46 k46
 have F47:=fun_mk (st:=sCInner) l47 c47 k47
 have F48:=fun_mk (st:=sShownW) l48 c48 k48
 have F49:=fun_mk (st:=sNValue) l49 c49 k49
 have F50:=fun_mk (st:=sKValue) l50 c50 k50
 have F51:=fun_mk (st:=sRValue) l51 c51 k51
 have F52:=fun_mk (st:=sCValue) l52 c52 k52
 have F53:=fun_mk (st:=sAValue) l53 c53 k53
 have F54:=fun_mk (st:=sLValue) l54 c54 k54
 have F55:=fun_mk (st:=sMValue) l55 c55 k55
 have F56:=fun_mk (st:=sIValue) l56 c56 k56
 have F57:=fun_mk (st:=sXValue) l57 c57 k57
 have F58:=fun_mk (st:=sNShown) l58 c58 k58
 have F59:=fun_mk (st:=sKShown) l59 c59 k59
 have F60:=fun_mk (st:=sRShown) l60 c60 k60
 have F61:=fun_mk (st:=sCShown) l61 c61 k61
 have F62:=fun_mk (st:=sAShown) l62 c62 k62
 have F63:=fun_mk (st:=sLShown) l63 c63 k63
 have F64:=fun_mk (st:=sMShown) l64 c64 k64
 have F65:=fun_mk (st:=sIShown) l65 c65 k65
 have F66:=fun_mk (st:=sXShown) l66 c66 k66
 have F67:=fun_mk (st:=sRInit_) l67 c67 k67
 have F68:=fun_mk (st:=sRAhead_) l68 c68 k68
 have F69:=fun_mk (st:=sRPass_) l69 c69 k69
 have F70:=fun_mk (st:=sRFig_) l70 c70 k70
 have F71:=fun_mk (st:=sRFigs_) l71 c71 k71
 have F72:=fun_mk (st:=sRNum_) l72 c72 k72
 have F73:=fun_mk (st:=sRTake_) l73 c73 k73
 have F74:=fun_mk (st:=sRWord_) l74 c74 k74
 have F75:=fun_mk (st:=sRBrack_) l75 c75 k75
 have F76:=fun_mk (st:=sRBehind_) l76 c76 k76
 have F77:=fun_mk (st:=sRPart_) l77 c77 k77
 have b10:=F10.binds (ps:=["thing"]) fun _ _ _ _ _ _ us hl=>kb1 hl fun _=>rfl
 have b11:=F11.binds (ps:=["thing","least","most"]) fun _ _ _ _ _ _ us hl=>kb3 hl fun _ _ _=>rfl
 have b12:=F12.binds (ps:=["thing"]) fun _ _ _ _ _ _ us hl=>kb1 hl fun _=>rfl
 have b13:=F13.binds (ps:=["term"]) fun _ _ _ _ _ _ us hl=>kb1 hl fun _=>rfl
 have b14:=F14.binds (ps:=["term"]) fun _ _ _ _ _ _ us hl=>kb1 hl fun _=>rfl
 have b15:=F15.binds (ps:=["term"]) fun _ _ _ _ _ _ us hl=>kb1 hl fun _=>rfl
 have b16:=F16.binds (ps:=["word","one","other"]) fun _ _ _ _ _ _ us hl=>kb3 hl fun _ _ _=>rfl
 have b17:=F17.binds (ps:=["text"]) fun _ _ _ _ _ _ us hl=>kb1 hl fun _=>rfl
 have b18:=F18.binds (ps:=["text"]) fun _ _ _ _ _ _ us hl=>kb1 hl fun _=>rfl
 have b19:=F19.binds (ps:=["_law_script","_law_k"]) fun _ _ _ _ _ _ us hl=>kb2 hl fun _ _=>rfl
 have b20:=F20.binds (ps:=["_law_script","_law_k"]) fun _ _ _ _ _ _ us hl=>kb2 hl fun _ _=>rfl
 have b21:=F21.binds (ps:=["_law_well_here","_law_most"]) fun _ _ _ _ _ _ us hl=>kb2 hl fun _ _=>rfl
 have b22:=F22.binds (ps:=["_law_well_here","_law_lines"]) fun _ _ _ _ _ _ us hl=>kb2 hl fun _ _=>rfl
 have b23:=F23.binds (ps:=["_law_well_here","_law_lines"]) fun _ _ _ _ _ _ us hl=>kb2 hl fun _ _=>rfl
 have b24:=F24.binds (ps:=["_law_well_here"]) fun _ _ _ _ _ _ us hl=>kb1 hl fun _=>rfl
 have b25:=F25.binds (ps:=["_law_well_here","_law_some","_law_deep"]) fun _ _ _ _ _ _ us hl=>kb3 hl fun _ _ _=>rfl
 have b26:=F26.binds (ps:=["_law_told_here"]) fun _ _ _ _ _ _ us hl=>kb1 hl fun _=>rfl
 have b27:=F27.binds (ps:=["_law_told_here"]) fun _ _ _ _ _ _ us hl=>kb1 hl fun _=>rfl
 have b28:=F28.binds (ps:=["_law_one","_law_other","_law_worths"]) fun _ _ _ _ _ _ us hl=>kb3 hl fun _ _ _=>rfl
 have b29:=F29.binds (ps:=["_law_term"]) fun _ _ _ _ _ _ us hl=>kb1 hl fun _=>rfl
 have b31:=F31.binds (ps:=["self"]) fun _ _ _ _ _ _ us hl=>kb1 hl fun _=>rfl
 have b32:=F32.binds (ps:=["self"]) fun _ _ _ _ _ _ us hl=>kb1 hl fun _=>rfl
 have b33:=F33.binds (ps:=["self"]) fun _ _ _ _ _ _ us hl=>kb1 hl fun _=>rfl
 have b34:=F34.binds (ps:=["self"]) fun _ _ _ _ _ _ us hl=>kb1 hl fun _=>rfl
 have b35:=F35.binds (ps:=["self"]) fun _ _ _ _ _ _ us hl=>kb1 hl fun _=>rfl
 have b36:=F36.binds (ps:=["self","value"]) fun _ _ _ _ _ _ us hl=>kb2 hl fun _ _=>rfl
 have b37:=F37.binds (ps:=["self"]) fun _ _ _ _ _ _ us hl=>kb1 hl fun _=>rfl
 have b38:=F38.binds (ps:=["self","back","steps"]) fun _ _ _ _ _ _ us hl=>kb3 hl fun _ _ _=>rfl
 have b39:=F39.binds (ps:=["self"]) fun _ _ _ _ _ _ us hl=>kb1 hl fun _=>rfl
 have b40:=F40.binds (ps:=["self"]) fun _ _ _ _ _ _ us hl=>kb1 hl fun _=>rfl
 have b41:=F41.binds (ps:=["self","one","other"]) fun _ _ _ _ _ _ us hl=>kb3 hl fun _ _ _=>rfl
 have b42:=F42.binds (ps:=["self"]) fun _ _ _ _ _ _ us hl=>kb1 hl fun _=>rfl
 have b43:=F43.binds (ps:=["self","one","by"]) fun _ _ _ _ _ _ us hl=>kb3 hl fun _ _ _=>rfl
 have b44:=F44.binds (ps:=["self"]) fun _ _ _ _ _ _ us hl=>kb1 hl fun _=>rfl
 have b45:=F45.binds (ps:=["self"]) fun _ _ _ _ _ _ us hl=>kb1 hl fun _=>rfl
 have b46:=F46.binds (ps:=["self","test","one","other"]) fun _ _ _ _ _ _ us hl=>kb4 hl fun _ _ _ _=>rfl
 have b47:=F47.binds (ps:=["self"]) fun _ _ _ _ _ _ us hl=>kb1 hl fun _=>rfl
 have b48:=F48.binds (ps:=["self","sign"]) fun _ _ _ _ _ _ us hl=>kb2 hl fun _ _=>rfl
 have b49:=F49.binds (ps:=["self","see"]) fun _ _ _ _ _ _ us hl=>kb2 hl fun _ _=>rfl
 have b50:=F50.binds (ps:=["self","see"]) fun _ _ _ _ _ _ us hl=>kb2 hl fun _ _=>rfl
 have b51:=F51.binds (ps:=["self","see"]) fun _ _ _ _ _ _ us hl=>kb2 hl fun _ _=>rfl
 have b52:=F52.binds (ps:=["self","see"]) fun _ _ _ _ _ _ us hl=>kb2 hl fun _ _=>rfl
 have b53:=F53.binds (ps:=["self","see"]) fun _ _ _ _ _ _ us hl=>kb2 hl fun _ _=>rfl
 have b54:=F54.binds (ps:=["self","see"]) fun _ _ _ _ _ _ us hl=>kb2 hl fun _ _=>rfl
 have b55:=F55.binds (ps:=["self","see"]) fun _ _ _ _ _ _ us hl=>kb2 hl fun _ _=>rfl
 have b56:=F56.binds (ps:=["self","see"]) fun _ _ _ _ _ _ us hl=>kb2 hl fun _ _=>rfl
 have b57:=F57.binds (ps:=["self","see"]) fun _ _ _ _ _ _ us hl=>kb2 hl fun _ _=>rfl
 have b58:=F58.binds (ps:=["self"]) fun _ _ _ _ _ _ us hl=>kb1 hl fun _=>rfl
 have b59:=F59.binds (ps:=["self"]) fun _ _ _ _ _ _ us hl=>kb1 hl fun _=>rfl
 have b60:=F60.binds (ps:=["self"]) fun _ _ _ _ _ _ us hl=>kb1 hl fun _=>rfl
 have b61:=F61.binds (ps:=["self"]) fun _ _ _ _ _ _ us hl=>kb1 hl fun _=>rfl
 have b62:=F62.binds (ps:=["self"]) fun _ _ _ _ _ _ us hl=>kb1 hl fun _=>rfl
 have b63:=F63.binds (ps:=["self"]) fun _ _ _ _ _ _ us hl=>kb1 hl fun _=>rfl
 have b64:=F64.binds (ps:=["self"]) fun _ _ _ _ _ _ us hl=>kb1 hl fun _=>rfl
 have b65:=F65.binds (ps:=["self"]) fun _ _ _ _ _ _ us hl=>kb1 hl fun _=>rfl
 have b66:=F66.binds (ps:=["self"]) fun _ _ _ _ _ _ us hl=>kb1 hl fun _=>rfl
 have b67:=F67.binds (ps:=["self","text"]) fun _ _ _ _ _ _ us hl=>kb2 hl fun _ _=>rfl
 have b68:=F68.binds (ps:=["self"]) fun _ _ _ _ _ _ us hl=>kb1 hl fun _=>rfl
 have b69:=F69.binds (ps:=["self","signs"]) fun _ _ _ _ _ _ us hl=>kb2 hl fun _ _=>rfl
 have b70:=F70.binds (ps:=["self"]) fun _ _ _ _ _ _ us hl=>kb1 hl fun _=>rfl
 have b71:=F71.binds (ps:=["self"]) fun _ _ _ _ _ _ us hl=>kb1 hl fun _=>rfl
 have b72:=F72.binds (ps:=["self"]) fun _ _ _ _ _ _ us hl=>kb1 hl fun _=>rfl
 have b73:=F73.binds (ps:=["self"]) fun _ _ _ _ _ _ us hl=>kb1 hl fun _=>rfl
 have b74:=F74.binds (ps:=["self"]) fun _ _ _ _ _ _ us hl=>kb1 hl fun _=>rfl
 have b75:=F75.binds (ps:=["self","within"]) fun _ _ _ _ _ _ us hl=>kb2 hl fun _ _=>rfl
 have b76:=F76.binds (ps:=["self","one","word","within"]) fun _ _ _ _ _ _ us hl=>kb4 hl fun _ _ _ _=>rfl
 have b77:=F77.binds (ps:=["self","within"]) fun _ _ _ _ _ _ us hl=>kb2 hl fun _ _=>rfl
 have m10:=W.mg_of X G a10
 have m11:=W.mg_of X G a11
 have m12:=W.mg_of X G a12
 have m13:=W.mg_of X G a13
 have m14:=W.mg_of X G a14
 have m15:=W.mg_of X G a15
 have m16:=W.mg_of X G a16
 have m17:=W.mg_of X G a17
 have m18:=W.mg_of X G a18
 have m19:=W.mg_of X G a19
 have m20:=W.mg_of X G a20
 have m21:=W.mg_of X G a21
 have m22:=W.mg_of X G a22
 have m23:=W.mg_of X G a23
 have m24:=W.mg_of X G a24
 have m25:=W.mg_of X G a25
 have m26:=W.mg_of X G a26
 have m27:=W.mg_of X G a27
 have m28:=W.mg_of X G a28
 have m29:=W.mg_of X G a29
 refine⟨W.fnOf "law" "law" (defArgs sLaw) (defBody sLaw) (defScope sLaw) .none q30 d30 r30 s30 u30 v30,fun s v=> .of_eq rfl,tn,⟨_,td⟩,fun base KB GB hB=>?_⟩
 let N:Cn:=⟨Cnum,Ctake,Crest,Ccho,fun k=>match k with|0=>Cb0|1=>Cb1|2=>Cb2|3=>Cb3|4=>Cb4⟩
 have nd:(clsL N).Nodup:=nd
 have c1:Cf K N.num ["value"]:=⟨⟨pgCnum,hdCnum,poCnum,saCnum⟩,fun f hf=>by simp only [List.mem_cons,List.not_mem_nil,or_false]at hf;rcases hf with rfl<;>assumption⟩
 have c2:Cf K N.take ["back","steps"]:=⟨⟨pgCtake,hdCtake,poCtake,saCtake⟩,fun f hf=>by simp only [List.mem_cons,List.not_mem_nil,or_false]at hf;rcases hf with rfl|rfl<;>assumption⟩
 have c3:Cf K N.rest ["one","by"]:=⟨⟨pgCrest,hdCrest,poCrest,saCrest⟩,fun f hf=>by simp only [List.mem_cons,List.not_mem_nil,or_false]at hf;rcases hf with rfl|rfl<;>assumption⟩
 have c4:Cf K N.cho ["test","one","other"]:=⟨⟨pgCcho,hdCcho,poCcho,saCcho⟩,fun f hf=>by simp only [List.mem_cons,List.not_mem_nil,or_false]at hf;rcases hf with rfl|rfl|rfl<;>assumption⟩
 have c5:∀k,Cf K (N.bin k) ["one","other"]:=fun k=>by
  match k with
  |0=>exact⟨⟨pgCb0,hdCb0,poCb0,saCb0⟩,fun f hf=>by simp only [List.mem_cons,List.not_mem_nil,or_false]at hf;rcases hf with rfl|rfl<;>assumption⟩
  |1=>exact⟨⟨pgCb1,hdCb1,poCb1,saCb1⟩,fun f hf=>by simp only [List.mem_cons,List.not_mem_nil,or_false]at hf;rcases hf with rfl|rfl<;>assumption⟩
  |2=>exact⟨⟨pgCb2,hdCb2,poCb2,saCb2⟩,fun f hf=>by simp only [List.mem_cons,List.not_mem_nil,or_false]at hf;rcases hf with rfl|rfl<;>assumption⟩
  |3=>exact⟨⟨pgCb3,hdCb3,poCb3,saCb3⟩,fun f hf=>by simp only [List.mem_cons,List.not_mem_nil,or_false]at hf;rcases hf with rfl|rfl<;>assumption⟩
  |4=>exact⟨⟨pgCb4,hdCb4,poCb4,saCb4⟩,fun f hf=>by simp only [List.mem_cons,List.not_mem_nil,or_false]at hf;rcases hf with rfl|rfl<;>assumption⟩
 have cR:Cf K CR FR:=⟨⟨pgCR,hdCR,poCR,saCR⟩,fun f hf=>by simp only [List.mem_cons,List.not_mem_nil,or_false]at hf;rcases hf with rfl|rfl<;>assumption⟩
 have nR:NotR N CR:=fun t e=>ndR (e▸List.mem_of_getElem? (cls_at N t))
 have cl:∀C,IsC N C->Cls K C:=fun C hC=>by
  rcases hC with rfl|rfl|rfl|rfl|⟨k,rfl⟩
  ·exact c1.cl
  ·exact c2.cl
  ·exact c3.cl
  ·exact c4.cl
  ·exact(c5 k).cl
 have nI:=no_names (N:=N) "inner" (by decide+kernel)
 have nK:=no_names (N:=N) "takes" (by decide+kernel)
 have nD:=no_names (N:=N) "depth" (by decide+kernel)
 have nP:=no_names (N:=N) "parts" (by decide+kernel)
 have nF:=no_names (N:=N) "own_fault" (by decide+kernel)
 have nV:NoV N:=no_names (N:=N) "value_by" (by decide+kernel)
 have nS:NoS N:=no_names (N:=N) "shown" (by decide+kernel)
 have nW:NoW N:=no_names (N:=N) "shown_with" (by decide+kernel)
 have mW:∀k,Meth K (N.bin k) "shown_with" f48:=fun k=>by
  match k with
  |0=>exact⟨a48,i48,k48⟩
  |1=>exact⟨g_shown_with_Cb1,i48,k48⟩
  |2=>exact⟨g_shown_with_Cb2,i48,k48⟩
  |3=>exact⟨g_shown_with_Cb3,i48,k48⟩
  |4=>exact⟨g_shown_with_Cb4,i48,k48⟩
 have D_i:Dis l.prog w K mg base CX0 1 (IsC N) "inner" ["self"] (spInner N):=dis_inner nd F31 F42 F44 F47 b31 b42 b44 b47 c1 c2 c3 c4 c5 ⟨a31,i31,k31⟩ ⟨g_inner_Ctake,i31,k31⟩ ⟨a44,i44,k44⟩ ⟨a47,i47,k47⟩ (fun k=>by
  match k with
  |0=>exact⟨a42,i42,k42⟩
  |1=>exact⟨g_inner_Cb1,i42,k42⟩
  |2=>exact⟨g_inner_Cb2,i42,k42⟩
  |3=>exact⟨g_inner_Cb3,i42,k42⟩
  |4=>exact⟨g_inner_Cb4,i42,k42⟩)
 have D_t:=dis_takes (P:=l.prog) (w:=w) (base:=base) nd F32 F39 b32 b39 cl c2 (fun C hC ne=>by
  rcases hC with rfl|rfl|rfl|rfl|⟨k,rfl⟩
  ·exact⟨a32,i32,k32⟩
  ·exact absurd rfl ne
  ·exact⟨g_takes_Crest,i32,k32⟩
  ·exact⟨g_takes_Ccho,i32,k32⟩
  ·match k with
   |0=>exact⟨g_takes_Cb0,i32,k32⟩
   |1=>exact⟨g_takes_Cb1,i32,k32⟩
   |2=>exact⟨g_takes_Cb2,i32,k32⟩
   |3=>exact⟨g_takes_Cb3,i32,k32⟩
   |4=>exact⟨g_takes_Cb4,i32,k32⟩) ⟨a39,i39,k39⟩ D_i T (fun t fs H h=>⟨nK t fs H h,nI t fs H h⟩) 4
 have D_d:=dis_depth (P:=l.prog) (w:=w) (base:=base) F33 b33 cl (fun C hC=>by
  rcases hC with rfl|rfl|rfl|rfl|⟨k,rfl⟩
  ·exact⟨a33,i33,k33⟩
  ·exact⟨g_depth_Ctake,i33,k33⟩
  ·exact⟨g_depth_Crest,i33,k33⟩
  ·exact⟨g_depth_Ccho,i33,k33⟩
  ·match k with
   |0=>exact⟨g_depth_Cb0,i33,k33⟩
   |1=>exact⟨g_depth_Cb1,i33,k33⟩
   |2=>exact⟨g_depth_Cb2,i33,k33⟩
   |3=>exact⟨g_depth_Cb3,i33,k33⟩
   |4=>exact⟨g_depth_Cb4,i33,k33⟩) D_i T nI nD 4
 have D_p:=dis_parts (P:=l.prog) (w:=w) (base:=base) F34 b34 cl (fun C hC=>by
  rcases hC with rfl|rfl|rfl|rfl|⟨k,rfl⟩
  ·exact⟨a34,i34,k34⟩
  ·exact⟨g_parts_Ctake,i34,k34⟩
  ·exact⟨g_parts_Crest,i34,k34⟩
  ·exact⟨g_parts_Ccho,i34,k34⟩
  ·match k with
   |0=>exact⟨g_parts_Cb0,i34,k34⟩
   |1=>exact⟨g_parts_Cb1,i34,k34⟩
   |2=>exact⟨g_parts_Cb2,i34,k34⟩
   |3=>exact⟨g_parts_Cb3,i34,k34⟩
   |4=>exact⟨g_parts_Cb4,i34,k34⟩) D_i T nI nP 4 (by decide)
 have c_cwhole:Cal l.prog w K mg base CX0 1 "is_whole" ["thing"] spWhole:=⟨_,_,ok_whole F10 T,m10,k10,b10⟩
 have c_cwithin:Cal l.prog w K mg base CX0 2 "is_within" ["thing","least","most"] spWithin:=⟨_,_,ok_within F11 c_cwhole,m11,k11,b11⟩
 have c_careSteps:Cal l.prog w K mg base CX0 3 "are_steps" ["thing"] spAreSteps:=⟨_,_,ok_areSteps F12 c_cwithin T,m12,k12,b12⟩
 have D_f:Dis l.prog w K mg base CX0 4 (IsC N) "own_fault" ["self"] (spFault N):=dis_fault nd F35 F37 F40 F45 b35 b37 b40 b45 c1 c2 c3 c4 c5 c_cwithin c_careSteps T ⟨a37,i37,k37⟩ ⟨a40,i40,k40⟩ ⟨a45,i45,k45⟩ ⟨a35,i35,k35⟩ (fun k=>by
  match k with
  |0=>exact⟨g_own_fault_Cb0,i35,k35⟩
  |1=>exact⟨g_own_fault_Cb1,i35,k35⟩
  |2=>exact⟨g_own_fault_Cb2,i35,k35⟩
  |3=>exact⟨g_own_fault_Cb3,i35,k35⟩
  |4=>exact⟨g_own_fault_Cb4,i35,k35⟩)
 have c_cff:=cal_ff F14 m14 k14 b14 D_i D_f nI nF 4
 have c_clinesOf:Cal l.prog w K mg base CX0 7 "lines_of" ["term"] (spLinesN N 4):=⟨_,_,ok_linesN F13 D_t T (fun t fs H h=>⟨nK t fs H h,nI t fs H h⟩),m13,k13,b13⟩
 have c_ccheck:Cal l.prog w K mg base CX0 9 "check_term" ["term"] (spCheckT N 4):=⟨_,_,ok_checkT F15 c_cff c_clinesOf D_t D_d D_p T (fun t fs H h=>⟨nK t fs H h,nD t fs H h,nP t fs H h⟩),m15,k15,b15⟩
 have c_ccell:Cal l.prog w K mg base CX0 1 "_law_cell_at" ["_law_script","_law_k"] (spCell K):=⟨_,_,ok_cell F19 T,m19,k19,b19⟩
 have c_cwell:Cal l.prog w K mg base CX0 2 "_law_well" ["_law_script","_law_k"] (spWell K):=⟨_,_,ok_well F20 c_ccell T,m20,k20,b20⟩
 have c_cdraw:Cal l.prog w K mg base CX0 1 "_law_draw" ["_law_well_here","_law_most"] spDraw:=⟨_,_,ok_draw F21,m21,k21,b21⟩
 have c_csteps:Cal l.prog w K mg base CX0 2 "_law_steps" ["_law_well_here","_law_lines"] spSteps:=⟨_,_,ok_steps F22 c_cdraw T,m22,k22,b22⟩
 have c_csome:Cal l.prog w K mg base CX0 3 "_law_some_takes" ["_law_well_here","_law_lines"] spSome:=⟨_,_,ok_some F23 c_cdraw c_csteps T,m23,k23,b23⟩
 have c_cnumber:Cal l.prog w K mg base CX0 2 "_law_number" ["_law_well_here"] spNumber:=⟨_,_,ok_number F24 c_cdraw,m24,k24,b24⟩
 have c_ctold:=cal_told F25 m25 k25 b25 c_cdraw c_cnumber T 4
 have R5:∀k,Mkr l.prog w K mg base (N.bin k) (bnm k) ["self","one","other"] (spI2 K "one" "other"):=fun k=>by
  match k with
  |0=>exact⟨⟨_,_,ok_pinit F41,⟨mkCb0,a41,i41,kcCb0⟩,W.mg_of X G aCb0,b41⟩⟩
  |1=>exact⟨⟨_,_,ok_pinit F41,⟨mkCb1,g_init_Cb1,i41,kcCb1⟩,W.mg_of X G aCb1,b41⟩⟩
  |2=>exact⟨⟨_,_,ok_pinit F41,⟨mkCb2,g_init_Cb2,i41,kcCb2⟩,W.mg_of X G aCb2,b41⟩⟩
  |3=>exact⟨⟨_,_,ok_pinit F41,⟨mkCb3,g_init_Cb3,i41,kcCb3⟩,W.mg_of X G aCb3,b41⟩⟩
  |4=>exact⟨⟨_,_,ok_pinit F41,⟨mkCb4,g_init_Cb4,i41,kcCb4⟩,W.mg_of X G aCb4,b41⟩⟩
 have M:MkAll l.prog w K mg base N:=⟨⟨⟨_,_,ok_ninit F36,⟨mkCnum,a36,i36,kcCnum⟩,W.mg_of X G aCnum,b36⟩⟩,⟨⟨_,_,ok_kinit F38,⟨mkCtake,a38,i38,kcCtake⟩,W.mg_of X G aCtake,b38⟩⟩,⟨⟨_,_,ok_rinit F43,⟨mkCrest,a43,i43,kcCrest⟩,W.mg_of X G aCrest,b43⟩⟩,⟨⟨_,_,ok_cinit F46,⟨mkCcho,a46,i46,kcCcho⟩,W.mg_of X G aCcho,b46⟩⟩,R5,c1,c2,c3,c4,c5⟩
 have c_cmade:=cal_made (P:=l.prog) (w:=w) (base:=base) (N:=N) F26 m26 k26 b26 (fun d c=>ok_made F26 c M.num M.take M.rest M.cho M.bin c1 c2 c3 c4 c5) 4
 have css:∀C,IsC N C->CS l.prog w K mg base N C:=(fun C hC=>by
  rcases hC with rfl|rfl|rfl|rfl|⟨k,rfl⟩
  ·exact⟨⟨_,_,⟨a58,i58,k58⟩,b58,fun d D=>(ok_nshown (d:=d+1) F58 c1 (fun t h=>is_num' nd h) T).mono (by omega)⟩⟩
  ·exact⟨⟨_,_,⟨a59,i59,k59⟩,b59,fun d D=>(ok_kshown (d:=d+1) F59 c2 (fun t h=>is_take nd h) T).mono (by omega)⟩⟩
  ·exact⟨⟨_,_,⟨a60,i60,k60⟩,b60,fun d D=>(ok_rshown F60 c3 (fun t h=>is_rest nd h) D nS).mono (by omega)⟩⟩
  ·exact⟨⟨_,_,⟨a61,i61,k61⟩,b61,fun d D=>(ok_cshown F61 c4 (fun t h=>is_cho nd h) D nS).mono (by omega)⟩⟩
  ·match k with
   |0=>exact⟨⟨_,_,⟨a62,i62,k62⟩,b62,fun d D=>ok_ashown F62 (fun t h=>is_bin' nd h) (dis_shownW F48 b48 c5 mW nS D) nW⟩⟩
   |1=>exact⟨⟨_,_,⟨a63,i63,k63⟩,b63,fun d D=>ok_lshown F63 (fun t h=>is_bin' nd h) (dis_shownW F48 b48 c5 mW nS D) nW⟩⟩
   |2=>exact⟨⟨_,_,⟨a64,i64,k64⟩,b64,fun d D=>ok_mshown F64 (fun t h=>is_bin' nd h) (dis_shownW F48 b48 c5 mW nS D) nW⟩⟩
   |3=>exact⟨⟨_,_,⟨a65,i65,k65⟩,b65,fun d D=>ok_ishown F65 (fun t h=>is_bin' nd h) (dis_shownW F48 b48 c5 mW nS D) nW⟩⟩
   |4=>exact⟨⟨_,_,⟨a66,i66,k66⟩,b66,fun d D=>ok_xshown F66 (fun t h=>is_bin' nd h) (dis_shownW F48 b48 c5 mW nS D) nW⟩⟩)
 have D_s:DSh l.prog w K mg base N 4:=dis_shown cl css 4
 have c_ctext:=cal_text (P:=l.prog) (w:=w) (base:=base) F27 m27 k27 b27 T 4
 have Wd:Words K aW:=fun H=> .inr ⟨_,_,_,lWd,rfl,rfl,(by show 7<=sizeLine;decide),.cons ⟨_,rfl⟩ (.cons ⟨_,rfl⟩ (.cons ⟨_,rfl⟩ (.cons ⟨_,rfl⟩ (.cons ⟨_,rfl⟩ (.cons ⟨_,rfl⟩ (.cons ⟨_,rfl⟩ .nil))))))⟩
 have D_ahead:DR l.prog w K mg base 1 CR "ahead" ["self"] (spAhead CR):=dis_rd cR.cl ⟨a68,i68,k68⟩ b68 (ok_ahead F68 cR)
 have D_pass:DR l.prog w K mg base 2 CR "pass_by" ["self","signs"] (spPass CR):=dis_rd cR.cl ⟨a69,i69,k69⟩ b69 (ok_pass F69 cR D_ahead)
 have D_fig:DR l.prog w K mg base 2 CR "figure_is_ahead" ["self"] (spFig CR):=dis_rd cR.cl ⟨a70,i70,k70⟩ b70 (ok_fig F70 D_ahead (W.mg_of X G qF))
 have D_figs:DR l.prog w K mg base 3 CR "read_figures" ["self"] (spFigs CR):=dis_rd cR.cl ⟨a71,i71,k71⟩ b71 (ok_figs F71 cR D_ahead D_pass D_fig T)
 have D_num:DR l.prog w K mg base 4 CR "read_number" ["self"] (spNum_ CR):=dis_rd cR.cl ⟨a72,i72,k72⟩ b72 (ok_num F72 D_ahead D_pass D_figs)
 have D_rtake:DR l.prog w K mg base 5 CR "read_take" ["self"] (spTakeR N CR):=dis_rd cR.cl ⟨a73,i73,k73⟩ b73 (ok_rtake F73 D_ahead D_pass D_num M.take c2 T)
 have D_word:DR l.prog w K mg base 3 CR "read_word" ["self"] (spWord CR):=dis_rd cR.cl ⟨a74,i74,k74⟩ b74 (ok_word F74 D_ahead D_pass (W.mg_of X G aWd) Wd T)
 have c_cpairBy:Cal l.prog w K mg base CX0 3 "pair_by" ["word","one","other"] (spPairBy N):=⟨_,_,ok_pairBy F16 M,m16,k16,b16⟩
 have D_part:=dis_part cR.cl nR M T F75 F76 F77 ⟨a75,i75,k75⟩ ⟨a76,i76,k76⟩ ⟨a77,i77,k77⟩ b75 b76 b77 D_ahead D_pass D_figs D_num D_rtake D_word c_cpairBy 4
 have R_rd:Mkr l.prog w K mg base CR "TermReader" ["self","text"] (spIR K):=⟨⟨_,_,ok_rdinit F67,⟨mkCR,a67,i67,kcCR⟩,W.mg_of X G aCR,b67⟩⟩
 have c_cwritten:Cal l.prog w K mg base CX0 16 "read_written" ["text"] (spWritten N):=⟨_,_,ok_written F17 R_rd cR nR D_part T,m17,k17,b17⟩
 have c_creadT:Cal l.prog w K mg base CX0 17 "read_term" ["text"] (spReadT N):=⟨_,_,ok_readT F18 c_cwritten c_ccheck,m18,k18,b18⟩
 have Z:Kq K N:=⟨cl,(fun C hC=>by
  rcases hC with rfl|rfl|rfl|rfl|⟨k,rfl⟩
  ·exact klCnum
  ·exact klCtake
  ·exact klCrest
  ·exact klCcho
  ·match k with
   |0=>exact klCb0
   |1=>exact klCb1
   |2=>exact klCb2
   |3=>exact klCb3
   |4=>exact klCb4),sp1,tk1,(fun C hC=>by
  rcases hC with rfl|rfl|rfl|rfl|⟨k,rfl⟩
  ·exact mrCnum
  ·exact mrCtake
  ·exact mrCrest
  ·exact mrCcho
  ·match k with
   |0=>exact mrCb0
   |1=>exact mrCb1
   |2=>exact mrCb2
   |3=>exact mrCb3
   |4=>exact mrCb4),nd,(fun C hC D hD ne=>by
  simp only [clsL,List.mem_cons,List.not_mem_nil,or_false]at hC hD
  rcases hC with rfl|rfl|rfl|rfl|rfl|rfl|rfl|rfl|rfl<;>rcases hD with rfl|rfl|rfl|rfl|rfl|rfl|rfl|rfl|rfl<;>first|exact absurd rfl ne|assumption)⟩
 have Mg_:Mg mg N:=⟨W.mg_of X G aCnum,W.mg_of X G aCtake,W.mg_of X G aCrest,W.mg_of X G aCcho,fun k=>by
  match k with
  |0=>exact W.mg_of X G aCb0
  |1=>exact W.mg_of X G aCb1
  |2=>exact W.mg_of X G aCb2
  |3=>exact W.mg_of X G aCb3
  |4=>exact W.mg_of X G aCb4⟩
 have c_ckind:Cal l.prog w K mg base CX0 1 "_law_kind" ["_law_term"] (spKind N):=⟨_,_,ok_kind F29 Z Mg_ T,m29,k29,b29⟩
 have cvs:∀C,IsC N C->CV l.prog w K mg N C:=(fun C hC=>by
  rcases hC with rfl|rfl|rfl|rfl|⟨k,rfl⟩
  ·exact⟨⟨_,_,⟨a49,i49,k49⟩,b49,fun base z d hd hz D=>ok_nvalue F49 c1 (fun t h=>is_num' nd h)⟩⟩
  ·exact⟨⟨_,_,⟨a50,i50,k50⟩,b50,fun base z d hd hz D=>ok_kvalue F50 c2 (fun t h=>is_take nd h) (ok_see hz)⟩⟩
  ·exact⟨⟨_,_,⟨a51,i51,k51⟩,b51,fun base z d hd hz D=>ok_rvalue F51 c3 (fun t h=>is_rest nd h) D nV⟩⟩
  ·exact⟨⟨_,_,⟨a52,i52,k52⟩,b52,fun base z d hd hz D=>ok_cvalue F52 c4 (fun t h=>is_cho nd h) D nV⟩⟩
  ·match k with
   |0=>exact⟨⟨_,_,⟨a53,i53,k53⟩,b53,fun base z d hd hz D=>ok_avalue F53 (c5 0) (fun t h=>is_bin' nd h) D nV⟩⟩
   |1=>exact⟨⟨_,_,⟨a54,i54,k54⟩,b54,fun base z d hd hz D=>ok_lvalue F54 (c5 1) (fun t h=>is_bin' nd h) D nV⟩⟩
   |2=>exact⟨⟨_,_,⟨a55,i55,k55⟩,b55,fun base z d hd hz D=>ok_mvalue F55 (c5 2) (fun t h=>is_bin' nd h) D nV hd⟩⟩
   |3=>exact⟨⟨_,_,⟨a56,i56,k56⟩,b56,fun base z d hd hz D=>ok_ivalue F56 (c5 3) (fun t h=>is_bin' nd h) D nV T⟩⟩
   |4=>exact⟨⟨_,_,⟨a57,i57,k57⟩,b57,fun base z d hd hz D=>ok_xvalue F57 (c5 4) (fun t h=>is_bin' nd h) D nV T⟩⟩)
 have DV:∀base,DValA l.prog w K mg base N 4:=fun base=>dis_value cl cvs 4 (by decide)
 have c_calike:Cal l.prog w K mg base CX0 6 "_law_alike" ["_law_one","_law_other","_law_worths"] (spAlike l.prog w N Pt):=⟨_,_,ok_alike l28 c28 (W.codeHd_of_K KB td) hB DV nV D_t D_d D_p (fun t fs H h=>⟨nK t fs H h,nD t fs H h,nP t fs H h⟩) T,m28,k28,b28⟩
 exact ok_law F30 c_cwell c_cdraw c_csome c_ctold c_cmade c_ctext c_ckind c_creadT c_calike D_s nS T
theorem walkOn {l:W.OpenLaw} {q:Program} {loose:List Str} {XP:(Str->Option Value)->Heap->Prop} {YP:World->Heap->Prop} {d:DefRec} {K:Params->W.Frag} {Pt:Addr} (hn:l.most=some 63) (hdf:d.params.defaults=[])
  (hY:∀(w:World) (h:Heap),YP w h->(K w.params).In h) (hT:∀(w:World) (h:Heap),YP w h->∀P∈[Pt],h.get? P=some (W.tabObj #[]))
  (F:∀(w:World) (mg:Str->Option Value) (fa:Addr) (h:Heap),(K w.params).In h->h.Ns mainGlobals mg->mg d.name=some (.ref fa)->
   ∃fd:FuncData,(∀(s:Shared) (u:Value),BindsTo s fd ⟨[u],[]⟩ [("_law_script",u)])/\(K w.params).lookup Pt=none/\(∃c,W.codeHdIn (K w.params) c Pt=true)/\∀base:Heap,(K w.params).In base->base.Ns mainGlobals mg->BltM mg base->FnOk l.prog w (K w.params) mg base CX0 18 fa fd ["_law_script"] (spLaw (K w.params) Pt)):
  W.WalkO q loose XP YP l.row.toRowW d [] (fun f vs=>PySem.call f vs):=
 L2.walk_ofT (n:=63) (k:=18) (x:="_law_script") (CX:=CX0) (sp:=fun K=>spLaw K Pt) hn (by decide) hdf ⟨rfl,by decide,by decide⟩ hY hT F (fun _ _ a ns _ hP hS=>⟨a,ns,rfl,hS,hP,fun _=>rfl⟩) fun _ _ _ _ z=>z
end KY
namespace PySem.W.Fast
def tw4194045313475503521:Unit:=()
def tw7615492001052166055:Unit:=()
def tw7055060072264258390:Unit:=()
def tw13760590172014873156:Unit:=()
def tw7969280447266484195:Unit:=()
def tw10818149908138021552:Unit:=()
def tw10973529839338413790:Unit:=()
def tw7909496895199740563:Unit:=()
def tw14130890802091060869:Unit:=()
def tw15703463594594900713:Unit:=()
def tw11636178957493082302:Unit:=()
def tw12938347368274102601:Unit:=()
def tw16825907900541982850:Unit:=()
def tw12698474666900175732:Unit:=()
def tw2276552500854029406:Unit:=()
def tw13509296729309996333:Unit:=()
def tw10691336321495730283:Unit:=()
def tw13511967284064847680:Unit:=()
def tw15090620897027707161:Unit:=()
def tw6270735016447392747:Unit:=()
def tw10011862805097043682:Unit:=()
def tw609219857230358745:Unit:=()
def tw13587445652161585602:Unit:=()
def tw1166390274474980108:Unit:=()
def tw12914432805975306514:Unit:=()
def tw5975051440467613617:Unit:=()
def tw5154474628865517520:Unit:=()
def tw2488455727412534546:Unit:=()
def tw12169823833007875649:Unit:=()
def tw5211890438368568358:Unit:=()
def tw7259646048801450821:Unit:=()
def tw7951375335718049489:Unit:=()
def tw1283917443690230600:Unit:=()
def tw10755328570972855798:Unit:=()
def tw16149019244750354782:Unit:=()
def tw12979185172210114400:Unit:=()
def tw16971594159719530934:Unit:=()
def tw8383166935005810315:Unit:=()
def tw3913968148068630661:Unit:=()
def tw2043597626843467640:Unit:=()
def tw3499838248148787561:Unit:=()
def tw5380305374733568715:Unit:=()
def tw15946958005502520095:Unit:=()
def tw1126771560277408437:Unit:=()
def tw14876545320835301547:Unit:=()
def tw11656874416188396229:Unit:=()
def tw2737219047660047611:Unit:=()
def tw158468556242559535:Unit:=()
def tw6646935593611946252:Unit:=()
def tw1560483194972524661:Unit:=()
def tw9707140957799185620:Unit:=()
def tw4597388730725663292:Unit:=()
def tw2647830291967475462:Unit:=()
def tw16505493915862177839:Unit:=()
def tw16716714871592626608:Unit:=()
def tw12287523717752132800:Unit:=()
def tw3446324737289167602:Unit:=()
def tw932887357075626780:Unit:=()
def tw15014964187477191779:Unit:=()
def tw16037175023286381217:Unit:=()
def tw4867343486072987920:Unit:=()
def tw17273753297396154964:Unit:=()
def tw1912666409198074715:Unit:=()
def tw8025702161594438398:Unit:=()
def tw16459924808350989325:Unit:=()
def tw17933215940679702702:Unit:=()
def tw6159214553308155645:Unit:=()
def tw7819058353776783218:Unit:=()
def tw9491286008249846827:Unit:=()
def tw2175291242751562252:Unit:=()
def tw12837252550181284426:Unit:=()
def tw15662829578998195178:Unit:=()
def tw17603907769916377779:Unit:=()
def tw18031162839467097663:Unit:=()
def tw3352792087449194590:Unit:=()
def tw7864004223939874245:Unit:=()
def tw9979116078924689176:Unit:=()
def tw17821340918337379916:Unit:=()
def tw6568108365031491105:Unit:=()
def tw9302994587553088389:Unit:=()
def tw8358358839020981651:Unit:=()
def tw12791442139919038744:Unit:=()
def tw11737852724549014130:Unit:=()
def tw8794927231404746000:Unit:=()
def tw16200183071566668212:Unit:=()
def tw13809389106307193651:Unit:=()
def tw10626839996867373138:Unit:=()
def tw7837022555864656724:Unit:=()
def tw9403396243258199818:Unit:=()
def tw5021798830229958661:Unit:=()
def tw4903313628364370998:Unit:=()
def tw9865407388965613542:Unit:=()
def tw6134249884573299494:Unit:=()
def tw18404591367414547078:Unit:=()
def tw17297621830885709857:Unit:=()
def tw15720941990858188920:Unit:=()
def tw13277916996496505966:Unit:=()
def tw11162144953112567183:Unit:=()
def tw1663294664790632266:Unit:=()
def tw9244504215140708102:Unit:=()
def tw3801198402373340803:Unit:=()
def tw14060132598383368803:Unit:=()
def tw12133445042080551218:Unit:=()
def tw11125064542015571036:Unit:=()
def tw5847004516837680266:Unit:=()
def tw852640691461329958:Unit:=()
def tw8086587259463547017:Unit:=()
def tw15450995431807954459:Unit:=()
def tw11711654462686525255:Unit:=()
def tw5526670121243404247:Unit:=()
def tw1509883476559109337:Unit:=()
def tw7688211706927329216:Unit:=()
def tw14274928456126954717:Unit:=()
def tw1188656505746932056:Unit:=()
def tw1451736884565847777:Unit:=()
def tw13440489563287710865:Unit:=()
def tw6877623408533256369:Unit:=()
def tw813588681418501774:Unit:=()
def tw10999389796890845776:Unit:=()
def tw18003829921458646560:Unit:=()
def tw12598937803386338143:Unit:=()
def tw14802672526826333221:Unit:=()
def tw14326910516752186150:Unit:=()
def tw17467733627671677790:Unit:=()
def tw6871501232801988521:Unit:=()
def tw4246308172136486028:Unit:=()
def tw371145445894224885:Unit:=()
def tw17569050880771749419:Unit:=()
def tw7195772375442291777:Unit:=()
def tw12216392455617628944:Unit:=()
def tw13144348136194396944:Unit:=()
def tw12050558863892943995:Unit:=()
def tw9186160865879248382:Unit:=()
def tw6690912713893642651:Unit:=()
def tw431940364936984033:Unit:=()
def tw17264945427935663528:Unit:=()
def tw8447591777890470753:Unit:=()
def tw6061086538230247248:Unit:=()
def tw9423574226451825073:Unit:=()
def tw10965941382718744662:Unit:=()
def tw16007666095295881806:Unit:=()
def tw5611596237070251124:Unit:=()
def tw3441368898990681372:Unit:=()
def tw17927511306291764736:Unit:=()
def tw15557255971798091266:Unit:=()
def tw17594539201023580369:Unit:=()
def tw15134928300478345534:Unit:=()
def tw2277404050089036195:Unit:=()
def tw16271055413640417337:Unit:=()
def tw9713204859232831784:Unit:=()
def tw18197041498238836475:Unit:=()
def tw4003769221936282100:Unit:=()
def tw4271846455578611333:Unit:=()
def tw13592829579988243487:Unit:=()
def tw14390844741421346922:Unit:=()
def tw5341641815379648542:Unit:=()
def tw18139627547445080646:Unit:=()
def tw11144740572900817888:Unit:=()
def tw8832854606796529691:Unit:=()
def tw3668372085271205471:Unit:=()
def tw3329073322758912516:Unit:=()
def tw1948412402998708691:Unit:=()
def tw5962898654952112186:Unit:=()
end PySem.W.Fast
open PySem PySem.W PyProof.Rows
set_option maxRecDepth 100000 in
set_option maxHeartbeats 0 in
theorem PySem.Challenge.cw_slanttiles_k14_terms_written_and_read_holds : PySem.Challenge.rw_slanttiles_k14_terms_written_and_read.Holds := by
  w_on; o_law; k_head; (case hw => w_witness2)
  k_fill
  refine KY.walkOn (l := PySem.Challenge.rw_slanttiles_k14_terms_written_and_read) rfl rfl (fun w h Y => W.km_in_of Y) (fun w h Y => W.km_tabs_of Y) ?F
  case F =>
    intro w mg fa h KX G hmg
    refine' KY.all_mk KX G hmg ?aCnum ?aCtake ?aCrest ?aCcho ?aCb0 ?aCb1 ?aCb2 ?aCb3 ?aCb4 ?aCR ?a10 ?l10 ?c10 ?k10 ?a11 ?l11 ?c11 ?k11 ?a12 ?l12 ?c12 ?k12 ?a13 ?l13 ?c13 ?k13 ?a14 ?l14 ?c14 ?k14 ?a15 ?l15 ?c15 ?k15 ?a16 ?l16 ?c16 ?k16 ?a17 ?l17 ?c17 ?k17 ?a18 ?l18 ?c18 ?k18 ?a19 ?l19 ?c19 ?k19 ?a20 ?l20 ?c20 ?k20 ?a21 ?l21 ?c21 ?k21 ?a22 ?l22 ?c22 ?k22 ?a23 ?l23 ?c23 ?k23 ?a24 ?l24 ?c24 ?k24 ?a25 ?l25 ?c25 ?k25 ?a26 ?l26 ?c26 ?k26 ?a27 ?l27 ?c27 ?k27 ?a28 ?l28 ?c28 ?k28 ?a29 ?l29 ?c29 ?k29 ?a30 ?l30 ?c30 ?k30 ?a31 ?i31 ?l31 ?c31 ?k31 ?a32 ?i32 ?l32 ?c32 ?k32 ?a33 ?i33 ?l33 ?c33 ?k33 ?a34 ?i34 ?l34 ?c34 ?k34 ?a35 ?i35 ?l35 ?c35 ?k35 ?a36 ?i36 ?l36 ?c36 ?k36 ?a37 ?i37 ?l37 ?c37 ?k37 ?a38 ?i38 ?l38 ?c38 ?k38 ?a39 ?i39 ?l39 ?c39 ?k39 ?a40 ?i40 ?l40 ?c40 ?k40 ?a41 ?i41 ?l41 ?c41 ?k41 ?a42 ?i42 ?l42 ?c42 ?k42 ?a43 ?i43 ?l43 ?c43 ?k43 ?a44 ?i44 ?l44 ?c44 ?k44 ?a45 ?i45 ?l45 ?c45 ?k45 ?a46 ?i46 ?l46 ?c46 ?k46 ?a47 ?i47 ?l47 ?c47 ?k47 ?a48 ?i48 ?l48 ?c48 ?k48 ?a49 ?i49 ?l49 ?c49 ?k49 ?a50 ?i50 ?l50 ?c50 ?k50 ?a51 ?i51 ?l51 ?c51 ?k51 ?a52 ?i52 ?l52 ?c52 ?k52 ?a53 ?i53 ?l53 ?c53 ?k53 ?a54 ?i54 ?l54 ?c54 ?k54 ?a55 ?i55 ?l55 ?c55 ?k55 ?a56 ?i56 ?l56 ?c56 ?k56 ?a57 ?i57 ?l57 ?c57 ?k57 ?a58 ?i58 ?l58 ?c58 ?k58 ?a59 ?i59 ?l59 ?c59 ?k59 ?a60 ?i60 ?l60 ?c60 ?k60 ?a61 ?i61 ?l61 ?c61 ?k61 ?a62 ?i62 ?l62 ?c62 ?k62 ?a63 ?i63 ?l63 ?c63 ?k63 ?a64 ?i64 ?l64 ?c64 ?k64 ?a65 ?i65 ?l65 ?c65 ?k65 ?a66 ?i66 ?l66 ?c66 ?k66 ?a67 ?i67 ?l67 ?c67 ?k67 ?a68 ?i68 ?l68 ?c68 ?k68 ?a69 ?i69 ?l69 ?c69 ?k69 ?a70 ?i70 ?l70 ?c70 ?k70 ?a71 ?i71 ?l71 ?c71 ?k71 ?a72 ?i72 ?l72 ?c72 ?k72 ?a73 ?i73 ?l73 ?c73 ?k73 ?a74 ?i74 ?l74 ?c74 ?k74 ?a75 ?i75 ?l75 ?c75 ?k75 ?a76 ?i76 ?l76 ?c76 ?k76 ?a77 ?i77 ?l77 ?c77 ?k77 ?pgCnum ?hdCnum ?poCnum ?saCnum ?mkCnum ?kcCnum ?n_value_Cnum ?klCnum ?mrCnum ?kn_Cnum_Ctake ?kn_Cnum_Crest ?kn_Cnum_Ccho ?kn_Cnum_Cb0 ?kn_Cnum_Cb1 ?kn_Cnum_Cb2 ?kn_Cnum_Cb3 ?kn_Cnum_Cb4 ?pgCtake ?hdCtake ?poCtake ?saCtake ?mkCtake ?kcCtake ?n_back_Ctake ?n_steps_Ctake ?klCtake ?mrCtake ?kn_Ctake_Cnum ?kn_Ctake_Crest ?kn_Ctake_Ccho ?kn_Ctake_Cb0 ?kn_Ctake_Cb1 ?kn_Ctake_Cb2 ?kn_Ctake_Cb3 ?kn_Ctake_Cb4 ?pgCrest ?hdCrest ?poCrest ?saCrest ?mkCrest ?kcCrest ?n_one_Crest ?n_by_Crest ?klCrest ?mrCrest ?kn_Crest_Cnum ?kn_Crest_Ctake ?kn_Crest_Ccho ?kn_Crest_Cb0 ?kn_Crest_Cb1 ?kn_Crest_Cb2 ?kn_Crest_Cb3 ?kn_Crest_Cb4 ?pgCcho ?hdCcho ?poCcho ?saCcho ?mkCcho ?kcCcho ?n_test_Ccho ?n_one_Ccho ?n_other_Ccho ?klCcho ?mrCcho ?kn_Ccho_Cnum ?kn_Ccho_Ctake ?kn_Ccho_Crest ?kn_Ccho_Cb0 ?kn_Ccho_Cb1 ?kn_Ccho_Cb2 ?kn_Ccho_Cb3 ?kn_Ccho_Cb4 ?pgCb0 ?hdCb0 ?poCb0 ?saCb0 ?mkCb0 ?kcCb0 ?n_one_Cb0 ?n_other_Cb0 ?klCb0 ?mrCb0 ?kn_Cb0_Cnum ?kn_Cb0_Ctake ?kn_Cb0_Crest ?kn_Cb0_Ccho ?kn_Cb0_Cb1 ?kn_Cb0_Cb2 ?kn_Cb0_Cb3 ?kn_Cb0_Cb4 ?pgCb1 ?hdCb1 ?poCb1 ?saCb1 ?mkCb1 ?kcCb1 ?n_one_Cb1 ?n_other_Cb1 ?klCb1 ?mrCb1 ?kn_Cb1_Cnum ?kn_Cb1_Ctake ?kn_Cb1_Crest ?kn_Cb1_Ccho ?kn_Cb1_Cb0 ?kn_Cb1_Cb2 ?kn_Cb1_Cb3 ?kn_Cb1_Cb4 ?pgCb2 ?hdCb2 ?poCb2 ?saCb2 ?mkCb2 ?kcCb2 ?n_one_Cb2 ?n_other_Cb2 ?klCb2 ?mrCb2 ?kn_Cb2_Cnum ?kn_Cb2_Ctake ?kn_Cb2_Crest ?kn_Cb2_Ccho ?kn_Cb2_Cb0 ?kn_Cb2_Cb1 ?kn_Cb2_Cb3 ?kn_Cb2_Cb4 ?pgCb3 ?hdCb3 ?poCb3 ?saCb3 ?mkCb3 ?kcCb3 ?n_one_Cb3 ?n_other_Cb3 ?klCb3 ?mrCb3 ?kn_Cb3_Cnum ?kn_Cb3_Ctake ?kn_Cb3_Crest ?kn_Cb3_Ccho ?kn_Cb3_Cb0 ?kn_Cb3_Cb1 ?kn_Cb3_Cb2 ?kn_Cb3_Cb4 ?pgCb4 ?hdCb4 ?poCb4 ?saCb4 ?mkCb4 ?kcCb4 ?n_one_Cb4 ?n_other_Cb4 ?klCb4 ?mrCb4 ?kn_Cb4_Cnum ?kn_Cb4_Ctake ?kn_Cb4_Crest ?kn_Cb4_Ccho ?kn_Cb4_Cb0 ?kn_Cb4_Cb1 ?kn_Cb4_Cb2 ?kn_Cb4_Cb3 ?pgCR ?hdCR ?poCR ?saCR ?mkCR ?kcCR ?n_text_CR ?n_gone_CR ?sp1 ?tk1 ?tc ?td ?tn ?qF ?aWd ?lWd ?g_init_Cb1 ?g_init_Cb2 ?g_init_Cb3 ?g_init_Cb4 ?g_inner_Ctake ?g_inner_Cb1 ?g_inner_Cb2 ?g_inner_Cb3 ?g_inner_Cb4 ?g_takes_Crest ?g_takes_Ccho ?g_takes_Cb0 ?g_takes_Cb1 ?g_takes_Cb2 ?g_takes_Cb3 ?g_takes_Cb4 ?g_depth_Ctake ?g_depth_Crest ?g_depth_Ccho ?g_depth_Cb0 ?g_depth_Cb1 ?g_depth_Cb2 ?g_depth_Cb3 ?g_depth_Cb4 ?g_parts_Ctake ?g_parts_Crest ?g_parts_Ccho ?g_parts_Cb0 ?g_parts_Cb1 ?g_parts_Cb2 ?g_parts_Cb3 ?g_parts_Cb4 ?g_own_fault_Cb0 ?g_own_fault_Cb1 ?g_own_fault_Cb2 ?g_own_fault_Cb3 ?g_own_fault_Cb4 ?g_shown_with_Cb1 ?g_shown_with_Cb2 ?g_shown_with_Cb3 ?g_shown_with_Cb4 ?nd ?ndR ?z_isinstance ?z_int ?z_list ?z_tuple ?z_len ?z_range ?z_max ?z_min ?z_sorted ?z_sum ?z_set ?z_bool ?z_all ?z_any ?z_str ?z_dict ?q_gn ?q_gd ?q_gb ?q_gst ?q_mst ?q_mdp ?q_mpa ?q_mtk ?q_mfi ?q_mst2 ?q_mwi
    (case aCnum => k_is); (case aCtake => k_is); (case aCrest => k_is); (case aCcho => k_is); (case aCb0 => k_is)
    (case aCb1 => k_is); (case aCb2 => k_is); (case aCb3 => k_is); (case aCb4 => k_is); (case aCR => k_is)
    (case a10 => k_is); (case l10 => k_is); (case c10 => k_is); (case k10 => k_is); (case a11 => k_is)
    (case l11 => k_is); (case c11 => k_is); (case k11 => k_is); (case a12 => k_is); (case l12 => k_is)
    (case c12 => k_is); (case k12 => k_is); (case a13 => k_is); (case l13 => k_is); (case c13 => k_is)
    (case k13 => k_is); (case a14 => k_is); (case l14 => k_is); (case c14 => k_is); (case k14 => k_is)
    (case a15 => k_is); (case l15 => k_is); (case c15 => k_is); (case k15 => k_is); (case a16 => k_is)
    (case l16 => k_is); (case c16 => k_is); (case k16 => k_is); (case a17 => k_is); (case l17 => k_is)
    (case c17 => k_is); (case k17 => k_is); (case a18 => k_is); (case l18 => k_is); (case c18 => k_is)
    (case k18 => k_is); (case a19 => k_is); (case l19 => k_is); (case c19 => k_is); (case k19 => k_is)
    (case a20 => k_is); (case l20 => k_is); (case c20 => k_is); (case k20 => k_is); (case a21 => k_is)
    (case l21 => k_is); (case c21 => k_is); (case k21 => k_is); (case a22 => k_is); (case l22 => k_is)
    (case c22 => k_is); (case k22 => k_is); (case a23 => k_is); (case l23 => k_is); (case c23 => k_is)
    (case k23 => k_is); (case a24 => k_is); (case l24 => k_is); (case c24 => k_is); (case k24 => k_is)
    (case a25 => k_is); (case l25 => k_is); (case c25 => k_is); (case k25 => k_is); (case a26 => k_is)
    (case l26 => k_is); (case c26 => k_is); (case k26 => k_is); (case a27 => k_is); (case l27 => k_is)
    (case c27 => k_is); (case k27 => k_is); (case a28 => k_is); (case l28 => k_is); (case c28 => k_is)
    (case k28 => k_is); (case a29 => k_is); (case l29 => k_is); (case c29 => k_is); (case k29 => k_is)
    (case a30 => k_is); (case l30 => k_is); (case c30 => k_is); (case k30 => k_is); (case a31 => k_is)
    (case i31 => k_is); (case l31 => k_is); (case c31 => k_is); (case k31 => k_is); (case a32 => k_is)
    (case i32 => k_is); (case l32 => k_is); (case c32 => k_is); (case k32 => k_is); (case a33 => k_is)
    (case i33 => k_is); (case l33 => k_is); (case c33 => k_is); (case k33 => k_is); (case a34 => k_is)
    (case i34 => k_is); (case l34 => k_is); (case c34 => k_is); (case k34 => k_is); (case a35 => k_is)
    (case i35 => k_is); (case l35 => k_is); (case c35 => k_is); (case k35 => k_is); (case a36 => k_is)
    (case i36 => k_is); (case l36 => k_is); (case c36 => k_is); (case k36 => k_is); (case a37 => k_is)
    (case i37 => k_is); (case l37 => k_is); (case c37 => k_is); (case k37 => k_is); (case a38 => k_is)
    (case i38 => k_is); (case l38 => k_is); (case c38 => k_is); (case k38 => k_is); (case a39 => k_is)
    (case i39 => k_is); (case l39 => k_is); (case c39 => k_is); (case k39 => k_is); (case a40 => k_is)
    (case i40 => k_is); (case l40 => k_is); (case c40 => k_is); (case k40 => k_is); (case a41 => k_is)
    (case i41 => k_is); (case l41 => k_is); (case c41 => k_is); (case k41 => k_is); (case a42 => k_is)
    (case i42 => k_is); (case l42 => k_is); (case c42 => k_is); (case k42 => k_is); (case a43 => k_is)
    (case i43 => k_is); (case l43 => k_is); (case c43 => k_is); (case k43 => k_is); (case a44 => k_is)
    (case i44 => k_is); (case l44 => k_is); (case c44 => k_is); (case k44 => k_is); (case a45 => k_is)
    (case i45 => k_is); (case l45 => k_is); (case c45 => k_is); (case k45 => k_is); (case a46 => k_is)
    (case i46 => k_is); (case l46 => k_is); (case c46 => k_is); (case k46 => k_is); (case a47 => k_is)
    (case i47 => k_is); (case l47 => k_is); (case c47 => k_is); (case k47 => k_is); (case a48 => k_is)
    (case i48 => k_is); (case l48 => k_is); (case c48 => k_is); (case k48 => k_is); (case a49 => k_is)
    (case i49 => k_is); (case l49 => k_is); (case c49 => k_is); (case k49 => k_is); (case a50 => k_is)
    (case i50 => k_is); (case l50 => k_is); (case c50 => k_is); (case k50 => k_is); (case a51 => k_is)
    (case i51 => k_is); (case l51 => k_is); (case c51 => k_is); (case k51 => k_is); (case a52 => k_is)
    (case i52 => k_is); (case l52 => k_is); (case c52 => k_is); (case k52 => k_is); (case a53 => k_is)
    (case i53 => k_is); (case l53 => k_is); (case c53 => k_is); (case k53 => k_is); (case a54 => k_is)
    (case i54 => k_is); (case l54 => k_is); (case c54 => k_is); (case k54 => k_is); (case a55 => k_is)
    (case i55 => k_is); (case l55 => k_is); (case c55 => k_is); (case k55 => k_is); (case a56 => k_is)
    (case i56 => k_is); (case l56 => k_is); (case c56 => k_is); (case k56 => k_is); (case a57 => k_is)
    (case i57 => k_is); (case l57 => k_is); (case c57 => k_is); (case k57 => k_is); (case a58 => k_is)
    (case i58 => k_is); (case l58 => k_is); (case c58 => k_is); (case k58 => k_is); (case a59 => k_is)
    (case i59 => k_is); (case l59 => k_is); (case c59 => k_is); (case k59 => k_is); (case a60 => k_is)
    (case i60 => k_is); (case l60 => k_is); (case c60 => k_is); (case k60 => k_is); (case a61 => k_is)
    (case i61 => k_is); (case l61 => k_is); (case c61 => k_is); (case k61 => k_is); (case a62 => k_is)
    (case i62 => k_is); (case l62 => k_is); (case c62 => k_is); (case k62 => k_is); (case a63 => k_is)
    (case i63 => k_is); (case l63 => k_is); (case c63 => k_is); (case k63 => k_is); (case a64 => k_is)
    (case i64 => k_is); (case l64 => k_is); (case c64 => k_is); (case k64 => k_is); (case a65 => k_is)
    (case i65 => k_is); (case l65 => k_is); (case c65 => k_is); (case k65 => k_is); (case a66 => k_is)
    (case i66 => k_is); (case l66 => k_is); (case c66 => k_is); (case k66 => k_is); (case a67 => k_is)
    (case i67 => k_is); (case l67 => k_is); (case c67 => k_is); (case k67 => k_is); (case a68 => k_is)
    (case i68 => k_is); (case l68 => k_is); (case c68 => k_is); (case k68 => k_is); (case a69 => k_is)
    (case i69 => k_is); (case l69 => k_is); (case c69 => k_is); (case k69 => k_is); (case a70 => k_is)
    (case i70 => k_is); (case l70 => k_is); (case c70 => k_is); (case k70 => k_is); (case a71 => k_is)
    (case i71 => k_is); (case l71 => k_is); (case c71 => k_is); (case k71 => k_is); (case a72 => k_is)
    (case i72 => k_is); (case l72 => k_is); (case c72 => k_is); (case k72 => k_is); (case a73 => k_is)
    (case i73 => k_is); (case l73 => k_is); (case c73 => k_is); (case k73 => k_is); (case a74 => k_is)
    (case i74 => k_is); (case l74 => k_is); (case c74 => k_is); (case k74 => k_is); (case a75 => k_is)
    (case i75 => k_is); (case l75 => k_is); (case c75 => k_is); (case k75 => k_is); (case a76 => k_is)
    (case i76 => k_is); (case l76 => k_is); (case c76 => k_is); (case k76 => k_is); (case a77 => k_is)
    (case i77 => k_is); (case l77 => k_is); (case c77 => k_is); (case k77 => k_is); (case pgCnum => k_is)
    (case hdCnum => k_is); (case poCnum => k_is); (case saCnum => k_is); (case mkCnum => k_is); (case kcCnum => k_is)
    (case n_value_Cnum => k_is); (case klCnum => k_is); (case mrCnum => k_is); (case kn_Cnum_Ctake => kit_is); (case kn_Cnum_Crest => kit_is)
    (case kn_Cnum_Ccho => kit_is); (case kn_Cnum_Cb0 => kit_is); (case kn_Cnum_Cb1 => kit_is); (case kn_Cnum_Cb2 => kit_is); (case kn_Cnum_Cb3 => kit_is)
    (case kn_Cnum_Cb4 => kit_is); (case pgCtake => k_is); (case hdCtake => k_is); (case poCtake => k_is); (case saCtake => k_is)
    (case mkCtake => k_is); (case kcCtake => k_is); (case n_back_Ctake => k_is); (case n_steps_Ctake => k_is); (case klCtake => k_is)
    (case mrCtake => k_is); (case kn_Ctake_Cnum => kit_is); (case kn_Ctake_Crest => kit_is); (case kn_Ctake_Ccho => kit_is); (case kn_Ctake_Cb0 => kit_is)
    (case kn_Ctake_Cb1 => kit_is); (case kn_Ctake_Cb2 => kit_is); (case kn_Ctake_Cb3 => kit_is); (case kn_Ctake_Cb4 => kit_is); (case pgCrest => k_is)
    (case hdCrest => k_is); (case poCrest => k_is); (case saCrest => k_is); (case mkCrest => k_is); (case kcCrest => k_is)
    (case n_one_Crest => k_is); (case n_by_Crest => k_is); (case klCrest => k_is); (case mrCrest => k_is); (case kn_Crest_Cnum => kit_is)
    (case kn_Crest_Ctake => kit_is); (case kn_Crest_Ccho => kit_is); (case kn_Crest_Cb0 => kit_is); (case kn_Crest_Cb1 => kit_is); (case kn_Crest_Cb2 => kit_is)
    (case kn_Crest_Cb3 => kit_is); (case kn_Crest_Cb4 => kit_is); (case pgCcho => k_is); (case hdCcho => k_is); (case poCcho => k_is)
    (case saCcho => k_is); (case mkCcho => k_is); (case kcCcho => k_is); (case n_test_Ccho => k_is); (case n_one_Ccho => k_is)
    (case n_other_Ccho => k_is); (case klCcho => k_is); (case mrCcho => k_is); (case kn_Ccho_Cnum => kit_is); (case kn_Ccho_Ctake => kit_is)
    (case kn_Ccho_Crest => kit_is); (case kn_Ccho_Cb0 => kit_is); (case kn_Ccho_Cb1 => kit_is); (case kn_Ccho_Cb2 => kit_is); (case kn_Ccho_Cb3 => kit_is)
    (case kn_Ccho_Cb4 => kit_is); (case pgCb0 => k_is); (case hdCb0 => k_is); (case poCb0 => k_is); (case saCb0 => k_is)
    (case mkCb0 => k_is); (case kcCb0 => k_is); (case n_one_Cb0 => k_is); (case n_other_Cb0 => k_is); (case klCb0 => k_is)
    (case mrCb0 => k_is); (case kn_Cb0_Cnum => kit_is); (case kn_Cb0_Ctake => kit_is); (case kn_Cb0_Crest => kit_is); (case kn_Cb0_Ccho => kit_is)
    (case kn_Cb0_Cb1 => kit_is); (case kn_Cb0_Cb2 => kit_is); (case kn_Cb0_Cb3 => kit_is); (case kn_Cb0_Cb4 => kit_is); (case pgCb1 => k_is)
    (case hdCb1 => k_is); (case poCb1 => k_is); (case saCb1 => k_is); (case mkCb1 => k_is); (case kcCb1 => k_is)
    (case n_one_Cb1 => k_is); (case n_other_Cb1 => k_is); (case klCb1 => k_is); (case mrCb1 => k_is); (case kn_Cb1_Cnum => kit_is)
    (case kn_Cb1_Ctake => kit_is); (case kn_Cb1_Crest => kit_is); (case kn_Cb1_Ccho => kit_is); (case kn_Cb1_Cb0 => kit_is); (case kn_Cb1_Cb2 => kit_is)
    (case kn_Cb1_Cb3 => kit_is); (case kn_Cb1_Cb4 => kit_is); (case pgCb2 => k_is); (case hdCb2 => k_is); (case poCb2 => k_is)
    (case saCb2 => k_is); (case mkCb2 => k_is); (case kcCb2 => k_is); (case n_one_Cb2 => k_is); (case n_other_Cb2 => k_is)
    (case klCb2 => k_is); (case mrCb2 => k_is); (case kn_Cb2_Cnum => kit_is); (case kn_Cb2_Ctake => kit_is); (case kn_Cb2_Crest => kit_is)
    (case kn_Cb2_Ccho => kit_is); (case kn_Cb2_Cb0 => kit_is); (case kn_Cb2_Cb1 => kit_is); (case kn_Cb2_Cb3 => kit_is); (case kn_Cb2_Cb4 => kit_is)
    (case pgCb3 => k_is); (case hdCb3 => k_is); (case poCb3 => k_is); (case saCb3 => k_is); (case mkCb3 => k_is)
    (case kcCb3 => k_is); (case n_one_Cb3 => k_is); (case n_other_Cb3 => k_is); (case klCb3 => k_is); (case mrCb3 => k_is)
    (case kn_Cb3_Cnum => kit_is); (case kn_Cb3_Ctake => kit_is); (case kn_Cb3_Crest => kit_is); (case kn_Cb3_Ccho => kit_is); (case kn_Cb3_Cb0 => kit_is)
    (case kn_Cb3_Cb1 => kit_is); (case kn_Cb3_Cb2 => kit_is); (case kn_Cb3_Cb4 => kit_is); (case pgCb4 => k_is); (case hdCb4 => k_is)
    (case poCb4 => k_is); (case saCb4 => k_is); (case mkCb4 => k_is); (case kcCb4 => k_is); (case n_one_Cb4 => k_is)
    (case n_other_Cb4 => k_is); (case klCb4 => k_is); (case mrCb4 => k_is); (case kn_Cb4_Cnum => kit_is); (case kn_Cb4_Ctake => kit_is)
    (case kn_Cb4_Crest => kit_is); (case kn_Cb4_Ccho => kit_is); (case kn_Cb4_Cb0 => kit_is); (case kn_Cb4_Cb1 => kit_is); (case kn_Cb4_Cb2 => kit_is)
    (case kn_Cb4_Cb3 => kit_is); (case pgCR => k_is); (case hdCR => k_is); (case poCR => k_is); (case saCR => k_is)
    (case mkCR => k_is); (case kcCR => k_is); (case n_text_CR => k_is); (case n_gone_CR => k_is); (case sp1 => k_is)
    (case tk1 => k_is); (case tc => rfl); (case td => kernel_rfl); (case tn => kernel_rfl); (case qF => k_is)
    (case aWd => k_is); (case lWd => k_is); (case g_init_Cb1 => k_is); (case g_init_Cb2 => k_is); (case g_init_Cb3 => k_is)
    (case g_init_Cb4 => k_is); (case g_inner_Ctake => k_is); (case g_inner_Cb1 => k_is); (case g_inner_Cb2 => k_is); (case g_inner_Cb3 => k_is)
    (case g_inner_Cb4 => k_is); (case g_takes_Crest => k_is); (case g_takes_Ccho => k_is); (case g_takes_Cb0 => k_is); (case g_takes_Cb1 => k_is)
    (case g_takes_Cb2 => k_is); (case g_takes_Cb3 => k_is); (case g_takes_Cb4 => k_is); (case g_depth_Ctake => k_is); (case g_depth_Crest => k_is)
    (case g_depth_Ccho => k_is); (case g_depth_Cb0 => k_is); (case g_depth_Cb1 => k_is); (case g_depth_Cb2 => k_is); (case g_depth_Cb3 => k_is)
    (case g_depth_Cb4 => k_is); (case g_parts_Ctake => k_is); (case g_parts_Crest => k_is); (case g_parts_Ccho => k_is); (case g_parts_Cb0 => k_is)
    (case g_parts_Cb1 => k_is); (case g_parts_Cb2 => k_is); (case g_parts_Cb3 => k_is); (case g_parts_Cb4 => k_is); (case g_own_fault_Cb0 => k_is)
    (case g_own_fault_Cb1 => k_is); (case g_own_fault_Cb2 => k_is); (case g_own_fault_Cb3 => k_is); (case g_own_fault_Cb4 => k_is); (case g_shown_with_Cb1 => k_is)
    (case g_shown_with_Cb2 => k_is); (case g_shown_with_Cb3 => k_is); (case g_shown_with_Cb4 => k_is); (case nd => decide); (case ndR => decide)
    (case z_isinstance => k_is); (case z_int => k_is); (case z_list => k_is); (case z_tuple => k_is); (case z_len => k_is)
    (case z_range => k_is); (case z_max => k_is); (case z_min => k_is); (case z_sorted => k_is); (case z_sum => k_is)
    (case z_set => k_is); (case z_bool => k_is); (case z_all => k_is); (case z_any => k_is); (case z_str => k_is)
    (case z_dict => k_is); (case q_gn => k_is); (case q_gd => k_is); (case q_gb => k_is); (case q_gst => k_is)
    (case q_mst => k_is); (case q_mdp => k_is); (case q_mpa => k_is); (case q_mtk => k_is); (case q_mfi => k_is)
    (case q_mst2 => k_is); (case q_mwi => k_is)


